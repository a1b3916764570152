import PyProof.Rows.All
import Wide.All
import OpenK.AllK
import Wide.FinOn
import HandS.ForMost
import KE.GoesMore
import KE.GoesEnum
import PyProof.Draws
import HandS.DictComp
import HandS.ForExc
import HandS.IsInst
import HandS.Conv
import HandS.MakeKwOnly
import HandS.TupAny
import HandS.Flow
import HandS.Steps
import HandS.Defaults
import HandS.Evl
import HandS.Walk
import HandS.Zip
import HandS.Style
import HandS.ExcInit
import HandS.ExcField
import HandS.Head0
import HandS.Head1
import HandS.Head2
import HandS.HeadEnd
import HandS.HeadHook1
import HandS.HeadHook2
import HandS.HeadHook3
import HandS.HeadHook4
import HandS.Base
import HandS.Call
import HandS.List
import HandS.OwnEq
import HandS.Words
import HandS.WordsExc
import PyProof.EqKinds
import PyProof.SeqRoads2
import PyProof.InstNe
import PyProof.FactsAll.dict
import PySem.Challenge.RW_blockshares_k01_folders_made
set_option Elab.async false
set_option linter.all false
set_option maxRecDepth 100000
set_option maxHeartbeats 2000000
/-! enumerate over a tuple, in a for or a comprehension: my own rule beside the layer's for lists -/
namespace Bk
open PySem PySem.Spec PyProof.Rows L2
theorem two_le {b n : Nat} (hb : b ∈ [n + 1, n]) : n ≤ b := by
  simp at hb
  omega
/-- a new enumerate object over the iterator at p -/
abbrev enumO (p : Addr) : Obj := { cls := .type "enumerate", data := .fields #[.none, .bool false, .ref p, rawInt 0, .none, .none] }
theorem meets_enum1 {v : Value} {o : Obj} {G : Heap → Prop} (B : Begins v o G) :
    Meets (Builtin.«enumerate.__new__» ⟨[.type "enumerate", v], []⟩) (fun _ R s => G s.heap ∧ R (.ok (.ret (.ref (s.heap.push o).objs.size))) { s with heap := (s.heap.push o).push (enumO s.heap.objs.size) }) := by
  refine .of_wp fun prog w A R s hh => ?_
  obtain ⟨hp, gs, dr, tk, os⟩ := s
  obtain ⟨hG, hR⟩ := hh
  have sb := sub_enumerate
  have it1 : ∀ {A1 : Around} {E1 Q1 : Value → Shared → Prop}, Q1 (.ref hp.objs.size) ⟨hp.push o, gs, dr, tk, os⟩ → wpAny (model prog w) A1 (pyIter v) Q1 E1 ⟨hp, gs, dr, tk, os⟩ := fun z => B.iter prog w _ _ ⟨hp, gs, dr, tk, os⟩ _ hG z
  wp_walk using it1
  refine wpAny_stack_any fun st => wpAny_pure ?_
  split
  · rename_i c _ _ _ _ _
    cases (c == Value.type "enumerate") <;> (wp_walk using it1; exact ⟨_, rfl, hR⟩)
  · wp_walk using it1
    exact ⟨_, rfl, hR⟩
theorem call_enum1 {prog : Program} {w : World} {A : Around} {E : Value → Shared → Prop} {s : Shared} {v : Value} {o : Obj} {G : Heap → Prop} {Q : Value → Shared → Prop} (B : Begins v o G) (hG : G s.heap)
    (h : Q (.ref (s.heap.objs.size + 1)) { s with heap := (s.heap.push o).push (enumO s.heap.objs.size) }) : wpAny (model prog w) A (call (.type "enumerate") [v]) Q E s := by
  refine callType_new F.called_enumerate (by decide) (F.typeCall_enumerate_1 _) (F.newCall_enumerate_1 _) (fun obj => F.args_object_init_2 obj _) F.entry_enumerate_new (meets_enum1 B) ⟨hG, ?_⟩
  have hz : (s.heap.push o).objs.size = s.heap.objs.size + 1 := Heap.size_push ..
  show _ ∧ _
  rw [hz]
  exact ⟨⟨_, by rw [← hz]; exact Heap.get?_push_size _ rfl, rfl⟩, h⟩
/-- the tuple at a as it stands at each turn, each item in a new pair -/
def IteT (K : PySem.W.Frag) (a : Addr) : It :=
  ⟨fun i H => ∃ (xs : List V) (x : V), SqT K H a xs ∧ xs[i]? = some x,
    fun i H v H' => ∃ T x, v = .ref T ∧ H T = none ∧ H' = upd H T (.tup [.int (i : Nat), x]) ∧ ∀ xs, SqT K H a xs → xs[i]? = some x,
    fun i H => ∃ xs : List V, SqT K H a xs ∧ xs.length = i⟩
theorem tup_iter_ne {h : Heap} {a it : Addr} {its : Array Value} {i : Nat} (t : h.IsTuple a its) (u : h.IsTupleIter it a i) : a ≠ it := by
  rintro rfl
  obtain ⟨o, e, c, _⟩ := t
  obtain ⟨o', e', c', _⟩ := u
  rw [e] at e'
  cases e'
  rw [c] at c'
  exact absurd c' (by decide)
theorem turn_enumT {P : Program} {w : World} {K : PySem.W.Frag} {elts : List Expr} {kk : Nat} {tpos : Pos} (a e it : Addr) :
    Turn P w K (.Tuple elts kk tpos) (IteT K a) [e, it] e (fun i h => (∃ old, IsEnum h e it ((i : Nat) : Int) old) ∧ h.IsTupleIter it a i ∧ e ≠ it) where
  mem := List.mem_cons_self
  obj := fun i h st b hb => by
    obtain ⟨⟨old, he⟩, ⟨o, ho, hc, hd⟩, _⟩ := st
    rcases List.mem_cons.mp hb with rfl | hb
    · exact ⟨_, he, fun v q => nomatch q⟩
    · obtain rfl := List.mem_singleton.mp hb
      exact ⟨o, ho, fun v q => by rw [hd] at q; cases q⟩
  keep := fun i h h' st k => ⟨st.1.imp fun old he => k e List.mem_cons_self _ he, st.2.1.at fun o q => k it (List.mem_cons_of_mem _ List.mem_cons_self) o q, st.2.2⟩
  item := by
    rintro X rfl rfl rfl hc i pins s σ H E I hf ⟨⟨old, he⟩, hit, hne⟩ ⟨xs, x, hq, hx⟩
    obtain ⟨its, rv, p, hz⟩ := I.tuple hq
    have p' : s.heap.IsTuple a its.toArray := p
    have hai := tup_iter_ne p' hit
    have hl : i < its.toArray.size := by
      have l1 := rv.length
      have l2 := (List.getElem?_eq_some_iff.mp hx).1
      simp only [List.size_toArray]
      omega
    have hea : e ≠ a := by
      rintro rfl
      obtain ⟨o, e1, c, _⟩ := p'
      rw [show s.heap.get? e = _ from he] at e1
      obtain rfl := Option.some.inj e1
      exact absurd c (show ¬ Value.type "enumerate" = Value.type "tuple" by decide)
    have D := Draws.tuple (prog := X.prog) (w := X.w) (A := X.A.in1) (I.ok.hd hc) it a hai its.toArray
    refine wpAny_pyNext_enum_itemD D he ⟨hit, p'⟩ hl hne (by simp [hne, hea]) fun u h' tk hu ho st' hT hsz hk => ?_
    have ru : RelV x u := by
      obtain ⟨u', hu', ru⟩ := rv.get hx
      have : its[i]? = some u := by simpa using hu
      rw [hu'] at this
      cases this
      exact ru
    have hel : e < s.heap.objs.size := Heap.lt_size he
    have hil : it < s.heap.objs.size := by
      obtain ⟨_, q, _⟩ := hit
      exact Heap.lt_size q
    refine ⟨_, rfl, wpAny_letOwnedTupleGo_enum (s := { s with heap := h', toks := tk + 1 }) ho fun h2 he2 sb => ?_⟩
    have hT2 : h2.get? s.heap.objs.size = some { cls := .type "tuple", data := .seq #[.int i tk, u] } := (sb.2 _ (Nat.ne_of_gt hel)).trans hT
    have new : ObjOk X.prog X.w (upd H s.heap.objs.size (.tup [.int (i : Nat), x])) h2 s.heap.objs.size (.tup [.int (i : Nat), x]) :=
      ⟨by show 2 ≤ sizeLine; decide, [.int i tk, u], .cons ⟨_, rfl⟩ (.cons ru .nil), ⟨_, hT2, rfl, _, rfl⟩⟩
    have I1 := I.turnedNew (t' := tk + 1) (ch := [e, it]) (fun b ob hb q => (sb.2 b (fun z => hb (by simp [z]))).trans (hk b ob (fun z => hb (by simp [z])) (fun z => hb (by simp [z])) q)) hf (Nat.le_refl _) new
    refine ⟨.ref s.heap.objs.size, _, I1, rfl, ⟨_, x, rfl, I.hok.fresh (Nat.le_refl _), rfl, fun ys hy => by rw [I.tuple_inj hy hq]; exact hx⟩, ⟨⟨u, ?_⟩, st'.1.at fun o q => (sb.2 it (Ne.symm hne)).trans q, hne⟩, fun b hb => ?_⟩
    · rw [show ((i + 1 : Nat) : Int) = (i : Int) + 1 by omega]
      exact he2
    · have hlt : b < s.heap.objs.size := by
        rcases List.mem_cons.mp hb with rfl | hb
        · exact hel
        · rw [List.mem_singleton.mp hb]
          exact hil
      rw [upd_ne (Nat.ne_of_lt hlt)]
      exact (hf b hb).1
  done := by
    rintro X rfl rfl rfl hc i pins s σ H E I hf ⟨⟨old, he⟩, hit, hne⟩ ⟨xs, hq, hx⟩
    obtain ⟨its, rv, p, hz⟩ := I.tuple hq
    have p' : s.heap.IsTuple a its.toArray := p
    obtain ⟨f0, f1, f2, f3, f4, f5⟩ := hf it (List.mem_cons_of_mem _ List.mem_cons_self)
    have l1 := rv.length
    have en : i = its.toArray.size := by
      simp only [List.size_toArray]
      omega
    have hit' : s.heap.IsTupleIter it a its.toArray.size := en ▸ hit
    have D := Draws.tuple (prog := X.prog) (w := X.w) (A := X.A.in1) (I.ok.hd hc) it a (tup_iter_ne p' hit) its.toArray
    exact wpAny_pyNext_enum_endD D he ⟨hit', p'⟩ fun h' eb => ⟨rfl, I.turned (t' := s.toks) (fun b o hb q => eb b o hb q) f0 f1 f3 f4 f5⟩
  self := fun A i s Q E st h => wpAny_pyIter_enum st.1.choose_spec h
/-- enumerate(xs), xs a list or a tuple -/
def iEnS (K : PySem.W.Frag) (ta : TA) : TI := fun σ H R => ta σ H fun vs H1 => ∃ a, vs = [.ref a] ∧ ((∃ xs, SqL K H1 a xs ∧ R (Ite K a) H1) ∨ (∃ xs, SqT K H1 a xs ∧ R (IteT K a) H1))
theorem pi_enS {X : Cx} {e : Expr} {ta : TA} {p pos tpos : Pos} {elts : List Expr} {kk : Nat} (hg : Gl X "enumerate") (hm : X.mg "enumerate" = none) (ha : PA X [e] ta) (hs : starEach [e] X.env = [(false, eval e X.env)] := by rfl) :
    PI X (.Tuple elts kk tpos) (.Call (.Name "enumerate" p) [e] [] pos) (iEnS X.K ta) := by
  refine ⟨fun pins s σ H R I h => Call_ (ld_blt I hg hm boot_enumerate (PyProof.Rows.callWith_type1 (thn (ha.run pos pins s σ H _ I h) fun us s1 ⟨vs, H1, I1, r1, a, ev, q⟩ => ?_) hs rfl))⟩
  subst ev
  obtain ⟨u, rfl, r⟩ : ∃ u, us = [u] ∧ RelV (.ref a) u := by
    cases r1 with
    | cons r rr => cases rr; exact ⟨_, rfl, r⟩
  cases (show u = Value.ref a from r)
  rcases q with ⟨xs, hq, q⟩ | ⟨xs, hq, q⟩
  · obtain ⟨its, rv, p', hz⟩ := I1.list hq
    refine call_enumerate_list p'.isList fun h' he hit hsz hk => wpAny_pyIter_enum he ?_
    have I2 : Inv X pins σ H1 { s1 with heap := h' } := I1.kept (t' := s1.toks) hk
    refine ⟨s1.heap.objs.size + 1, [s1.heap.objs.size + 1, s1.heap.objs.size], _, _, H1, rfl, I2, turn_enum a _ s1.heap.objs.size, ⟨⟨.none, he⟩, hit, Nat.succ_ne_self _⟩, fun b hb => ?_, q⟩
    have hle : s1.heap.objs.size ≤ b := two_le hb
    exact I1.fpOk hle (I1.hok.fresh hle)
  · obtain ⟨its, rv, p', hz⟩ := I1.tuple hq
    have pt : s1.heap.IsTuple a its.toArray := p'
    generalize ho : ({ cls := .type "tuple_iterator", data := .fields #[.ref a, .int 0 0] } : Obj) = oi
    have hz1 : (s1.heap.push oi).objs.size = s1.heap.objs.size + 1 := Heap.size_push ..
    have kk1 : ∀ b o, s1.heap.get? b = some o → ((s1.heap.push oi).push (enumO s1.heap.objs.size)).get? b = some o := fun b o x => Heap.get?_push_of_some _ (Heap.get?_push_of_some _ x)
    have he : IsEnum ((s1.heap.push oi).push (enumO s1.heap.objs.size)) (s1.heap.objs.size + 1) s1.heap.objs.size ((0 : Nat) : Int) .none := by
      rw [← hz1]
      exact Heap.get?_push_size _ rfl
    have hit : ((s1.heap.push oi).push (enumO s1.heap.objs.size)).IsTupleIter s1.heap.objs.size a 0 := by
      refine ⟨oi, Heap.get?_push_of_some _ (Heap.get?_push_size _ (by rw [← ho]; rfl)), ?_, ?_⟩ <;> rw [← ho] <;> rfl
    have I2 : Inv X pins σ H1 { s1 with heap := (s1.heap.push oi).push (enumO s1.heap.objs.size) } := I1.kept (t' := s1.toks) kk1
    refine call_enum1 (o := oi) (ho ▸ begins_tuple a its.toArray) pt (wpAny_pyIter_enum he ?_)
    refine ⟨s1.heap.objs.size + 1, [s1.heap.objs.size + 1, s1.heap.objs.size], _, _, H1, rfl, I2, turn_enumT a _ s1.heap.objs.size, ⟨⟨.none, he⟩, hit, Nat.succ_ne_self _⟩, fun b hb => ?_, q⟩
    have hle : s1.heap.objs.size ≤ b := two_le hb
    exact I1.fpOk hle (I1.hok.fresh hle)
end Bk

set_option maxHeartbeats 4000000
/-! a dict comprehension whose keys are tuples (of ints and texts): beside the layer's, whose keys are ints and texts -/
namespace Bk
open PySem PySem.Spec PyProof.Rows L2
/-- a comprehension's store, by a key that is a tuple -/
theorem put_tup {X : Cx} {pins : List (Addr × Obj)} {σ : L2.St} {H : Hp} {s : Shared} {E : Value → Shared → Prop} {D b : Addr} {kvs : List (List Key × V)} {k : List Key} {v : V} {u r : Value} {Q : Unit → Shared → Prop} (hu : X.A.units < cLine) (I : Inv X pins σ H s)
    (hD : H D = some (.dT kvs)) (hz : kvs.length < sizeLine) (hb : H b = some (.tup (k.map kV))) (ry : RelV (.ref b) u) (rv : RelV v r) (h : ∀ s', Inv X pins σ (upd H D (.dT (putK kvs k v))) s' → Q () s') : wpAny (model X.prog X.w) X.A (dictSet D u r) Q E s := by
  cases (show u = Value.ref b from ry)
  obtain ⟨z, hd, xs, rel, dd⟩ := dt_of I.hok hD
  have len1 : xs.length ≤ sizeLine := (Paired.length rel) ▸ z
  have len2 := length_putK kvs k v
  refine wpAny_dictSet_heap (hsz := len1) (knd := tupleKind (mixKind X.prog X.w)) hu (key_of I.hok hb) dd fun h' dd' same => h _ ?_
  obtain ⟨q, es, ep, hq, h2, h3, h4, _, h5⟩ := dd'
  refine d_write I (by rw [hD]; exact True.intro) same ⟨q, hq⟩ ⟨by omega, hd, _, (rel.put k hb rv).keeps fun c ys ec => ?_, q, es, ep, hq, h2, h3, h4, h5⟩
  rwa [upd_ne (ne_of ec hD (fun z => nomatch z))]
section
variable {X : Cx}
/-- {k: v for target in iter}, the keys tuples: D the new dict -/
def tDcT (wi : TI) (g : TG) (tk tv : TE) (vs : List Nat) : TE := fun σ H Q => wi σ H fun J H1 => ∀ D, H1 D = none → ∃ W : Nat → Nat → Hp → Prop, (∃ m, W 0 m (upd H1 D (.dT []))) ∧ ∀ i m H, W i m H →
  (J.stop i H ∧ Q (.ref D) H) ∨ (J.go i H ∧ ∃ Nx : Hp → Prop, (∀ H', Nx H' → ∃ m', m' < m ∧ W (i + 1) m' H') ∧ ∀ x H', J.yld i H x H' → g x (wipe σ vs) H' fun σ2 H2 => wipe σ2 vs = wipe σ vs ∧
    tk σ2 H2 fun y H4 => tv σ2 H4 fun z H5 => ∃ kvs k b, y = .ref b ∧ H5 b = some (.tup (k.map kV)) ∧ H5 D = some (.dT kvs) ∧ kvs.length < sizeLine ∧ Nx (upd H5 D (.dT (putK kvs k z))))
theorem pe_dcT {kx vx tg iter : Expr} {scope : Scope} {own : List (Str × Nat)} {pos : Pos} {wi : TI} {g : TG} {tk tv : TE} (hu : X.A.units < cLine) (hc : X.calm = true) (hN : X.N.Nodup) (hi : PI X tg iter wi) (ok : BlkOk X.N X.env.scope scope own)
    (hg : ∀ (s : Shared) (H : Hp) (C : Addr) (cl : List (Str × Addr)) (fp : List Addr), PG (X.blk s H scope (compEnvC scope cl C X.env) fp) tg g)
    (hk : ∀ (s : Shared) (H : Hp) (C : Addr) (cl : List (Str × Addr)) (fp : List Addr), PE (X.blk s H scope (compEnvC scope cl C X.env) fp) kx tk)
    (he : ∀ (s : Shared) (H : Hp) (C : Addr) (cl : List (Str × Addr)) (fp : List Addr), PE (X.blk s H scope (compEnvC scope cl C X.env) fp) vx tv) (hs : ∀ x, foldedSetIterable iter X.env x = pure x := by intro _; rfl) :
    PE X (.DictComp kx vx [⟨tg, iter, [], 0⟩] scope pos) (tDcT wi g tk tv (own.map (·.2))) := by
  refine ⟨fun pins s σ H Q I h => ?_⟩
  rw [arm_eval_DictComp]
  have fr : ∀ y ∈ scope.names, y.2 = .free → ∃ c, X.env.cells.lookup y.1 = some c := fun y hy e => (ok.free y hy e).elim (fun k => I.ok.has _ (.inl k)) fun k => I.ok.has _ (.inr k)
  refine wpAny_comprehension_free rfl hs (closure_ok fr) ok.kind (fun y hy e => by rw [ok.uniq y hy, e]) (thn (hi.run pins s σ H _ I h) fun xv s1 hx => thn hx fun itv s2 h2 => ?_)
  obtain ⟨it, fp, tn, J, H2, rfl, I2, T, st2, f2, q⟩ := h2
  refine wpAny_newObj_type (newEnv_comp ?_)
  -- the new dict stands at D
  obtain ⟨D, hD⟩ : ∃ D, D = s2.heap.objs.size := ⟨_, rfl⟩
  obtain ⟨W, ⟨m0, w0⟩, turn⟩ := q D (I2.hok.fresh (Nat.le_of_eq hD.symm))
  obtain ⟨s3, hs3⟩ : ∃ s3 : Shared, s3 = { s2 with heap := s2.heap.push { cls := .type "dict", data := .dict #[] } } := ⟨_, rfl⟩
  have hh3 : s3.heap = s2.heap.push { cls := .type "dict", data := .dict #[] } := by rw [hs3]
  have k3 : ∀ b o, s2.heap.get? b = some o → s3.heap.get? b = some o := fun b o e => by rw [hh3]; exact Heap.get?_push_of_some _ e
  have I3 : Inv X pins σ (upd H2 D (.dT [])) s3 := by
    subst hs3 hD
    exact I2.laid (t' := s2.toks) (fun b o e => Heap.get?_push_of_some _ e) (Nat.le_refl _) (dt_empty s2.heap I2.big)
  have young : ∀ b ∈ fp, b < s2.heap.objs.size := fun b hb => (T.obj _ _ st2 b hb).elim fun o e => Heap.lt_size e.1
  have f3 : ∀ b ∈ fp, FpOk X pins (upd H2 D (.dT [])) b ∧ b < s3.heap.objs.size := fun b hb => by
    refine ⟨⟨?_, (f2 b hb).2⟩, by rw [hh3, Heap.size_push]; exact Nat.lt_succ_of_lt (young b hb)⟩
    rw [upd_ne (by rw [hD]; exact Nat.ne_of_lt (young b hb))]
    exact (f2 b hb).1
  have st3 : tn 0 s3.heap := T.keep _ _ _ st2 fun b _ => k3 b
  rw [← hs3]
  obtain ⟨H3, hH3⟩ : ∃ H3, H3 = upd H2 D (.dT []) := ⟨_, rfl⟩
  rw [← hH3] at I3 f3 w0
  have I4 := block_start I3 ok hN f3
  let cl := cellsFrom (s3.heap.objs.size + 1) scope.names (cloFrom X.env.cells scope.names [])
  have pg := hg s3 H3 s3.heap.objs.size cl fp
  have pk := hk s3 H3 s3.heap.objs.size cl fp
  have pe := he s3 H3 s3.heap.objs.size cl fp
  show codeAny _ _ (.compStart (.DictComp kx vx [⟨tg, iter, [], 0⟩] scope pos) 0 (.ref it) (.ref s2.heap.objs.size) (compEnvC scope cl s3.heap.objs.size X.env)) (compPost (model X.prog X.w) X.A X.xe none _ (.ref s2.heap.objs.size) s3.heap.objs.size) { s3 with heap := pushCells (s3.heap.push { cls := .type "dict", data := .dict #[] }) scope.names }
  rw [← hD]
  obtain ⟨ce, hce⟩ : ∃ ce, ce = compEnvC scope cl s3.heap.objs.size X.env := ⟨_, rfl⟩
  have cL : ce.locals = s3.heap.objs.size := by rw [hce]; rfl
  have I4' : Inv (X.blk s3 H3 scope ce fp) [] (wipe σ (own.map (·.2))) H3 { s3 with heap := pushCells (s3.heap.push { cls := .type "dict", data := .dict #[] }) scope.names } := by rw [hce]; exact I4
  rw [← hce] at pg pk pe ⊢
  clear I4
  obtain ⟨s4, hs4⟩ : ∃ s4 : Shared, s4 = { s3 with heap := pushCells (s3.heap.push { cls := .type "dict", data := .dict #[] }) scope.names } := ⟨_, rfl⟩
  rw [← hs4] at I4' ⊢
  have st4 : tn 0 s4.heap := T.keep _ _ _ st3 fun b _ o e => by rw [hs4]; exact pushCells_keeps _ _ _ _ (Heap.get?_push_of_some _ e)
  have stat : ∀ {σ' : L2.St} {H' : Hp} {s' : Shared}, Inv (X.blk s3 H3 scope ce fp) [] σ' H' s' → (∀ b ∈ fp, H' b = none) → ∀ b ∈ fp, FpOk (X.blk s3 H3 scope ce fp) [] H' b := fun I' hn b hb =>
    ⟨hn b hb, (I'.ok.exf b hb).1, I'.ok.exfs b hb, .inl hb, fun x c e => (I'.ok.exf b hb).2 x c e, fun p hp => by simp at hp⟩
  suffices loop : codeAny (model X.prog X.w) X.A (.compLoop (.DictComp kx vx [⟨tg, iter, [], 0⟩] scope pos) 0 (.ref it) (.ref D) ce) (compPost (model X.prog X.w) X.A X.xe none (EP X pins σ Q) (.ref D) s3.heap.objs.size) s4 from
    codeAny_compStart_dict loop (T.self X.A 0 _ _ _ st4 loop)
  refine compLoop_anyD (fun n s' => ∃ i H', Inv (X.blk s3 H3 scope ce fp) [] (wipe σ (own.map (·.2))) H' s' ∧ tn i s'.heap ∧ (∀ b ∈ fp, H' b = none) ∧ W i n H') ?_ m0 ⟨0, H3, I4', st4, fun b hb => (f3 b hb).1.1, w0⟩
  rintro n s5 ⟨i, H5, I5, st5, n5, w5⟩
  rcases turn i n H5 w5 with ⟨stop, qq⟩ | ⟨go, Nx, hNx, step⟩
  · refine thnF (T.done (X.blk s3 H3 scope ce fp) rfl rfl rfl hc i [] s5 _ H5 (fun _ _ => False) I5 (stat I5 n5) st5 stop) fun r s6 ⟨hr, I6⟩ => ?_
    subst hr
    have I7 : Inv X pins σ H5 s6 := I3.call' (ch := fp) I6.os I6.base I6.hok I6.bare fun b hb => ⟨(f3 b hb).1.2.2.2.1, (f3 b hb).1.2.1, (f3 b hb).1.2.2.2.2.1, (f3 b hb).1.2.2.2.2.2⟩
    obtain ⟨m, hn, _⟩ := I6.loc
    refine ⟨m, by rw [← cL]; exact hn, fun h'' sb => ?_⟩
    obtain ⟨g0, g1, g2, g3, g4, g5⟩ := I3.fpOk (H' := H5) (Nat.le_refl _) (by rw [← cL]; exact I6.free)
    exact ⟨.ref D, H5, I7.turned (t' := s6.toks) (fun b o hb e => (sb.2 b hb).trans e) g0 g1 g3 g4 g5, rfl, qq⟩
  · refine thnF (T.item (X.blk s3 H3 scope ce fp) rfl rfl rfl hc i [] s5 _ H5 (fun _ _ => False) I5 (stat I5 n5) st5 go) fun r s6 ⟨u, hr, h6⟩ => ?_
    subst hr
    refine thnF h6 fun _ s7 ⟨x, H7, I7, r7, y7, st7, n7⟩ => ?_
    have I7' := I7.pinned (stat I7 n7) (T.obj _ _ st7)
    refine thnF (pg.run _ s7 _ H7 x u _ I7' r7 (step x H7 y7)) fun _ s8 ⟨σ8, H8, I8, hw8, q8⟩ => ?_
    refine wpAny_tests_nil ?_
    simp only [if_true]
    refine thnF (pk.run _ s8 σ8 H8 _ I8 q8) fun z s10 ⟨yk, H10, I10, r10, q10⟩ => ?_
    refine thnF (pe.run _ s10 σ8 H10 _ I10 q10) fun z2 s11 ⟨yv, H11, I11, r11, kvs, k, b, ek, hb11, hD11, hz11, nx⟩ => ?_
    subst ek
    refine put_tup (X := X.blk s3 H3 scope ce fp) hu I11 hD11 hz11 hb11 r10 r11 fun s12 I12 => ?_
    obtain ⟨m', hm, w'⟩ := hNx _ nx
    have pin' : ∀ b ∈ fp, ∀ o, s7.heap.get? b = some o → s12.heap.get? b = some o ∧ (upd H11 D (.dT (putK kvs k yv))) b = none := fun b hb o e =>
      have z := I12.pin (b, o) (List.mem_append_right _ (List.mem_append_right _ (mem_pinsAt hb e)))
      ⟨z.1, z.2.1⟩
    refine ⟨m', hm, i + 1, _, (I12.unpinned (pins := [])).weak (by rw [← hw8, wipe_length]) (fun j v e => ?_), T.keep _ _ _ st7 fun b hb o e => (pin' b hb o e).1, fun b hb => ?_, w'⟩
    · rw [← hw8] at e
      exact (wipe_some e).1
    · obtain ⟨o, e, _⟩ := T.obj _ _ st7 b hb
      exact (pin' b hb o e).2
end
end Bk

namespace Bk
open PySem PySem.Spec PyProof.Rows L2
/-! ### heaps -/
theorem same_upd {H : Hp} {p : Addr} {o : HO} (h : H p = none) : Same H (upd H p o) := fun b x e => by
  rw [upd_ne (ne_of_none e h)]
  exact e
theorem Same.sqt {K : PySem.W.Frag} {H H' : Hp} {a : Addr} {xs : List V} (e : Same H H') (h : SqT K H a xs) : SqT K H' a xs := by
  rcases h with (h | ⟨o, h⟩) | h
  · exact .inl (.inl (e _ _ h))
  · exact .inl (.inr ⟨o, e _ _ h⟩)
  · exact .inr h
/-- a new object grows while all else stays -/
theorem Same.grow {H H' : Hp} {p : Addr} {o : HO} (e : Same H H') (h : H p = none) : Same H (upd H' p o) := fun b x q => by
  rw [upd_ne (ne_of_none q h)]
  exact e b x q
/-- all but the stream is as it was -/
def Kept (st c : Addr) (H H' : Hp) : Prop := ∀ b o, b ≠ st → b ≠ c → H b = some o → H' b = some o
theorem Kept.refl (st c : Addr) (H : Hp) : Kept st c H H := fun _ _ _ _ e => e
theorem Kept.trans {st c : Addr} {H H1 H2 : Hp} (a : Kept st c H H1) (b : Kept st c H1 H2) : Kept st c H H2 := fun x o n m e => b x o n m (a x o n m e)
theorem Same.kept {st c : Addr} {H H' : Hp} (a : Same H H') : Kept st c H H' := fun x o _ _ e => a x o e
/-! ### the stream of drawn numbers: at st, its cells at c; n bounds the draws so far -/
structure Strm (H : Hp) (st c : Addr) (n : Nat) : Prop where
  ne : c ≠ st
  ex : ∃ (cells : List Int) (a k m : Int), H c = some (.lst (cells.map V.int)) ∧ H st = some (.lst [.ref c, .int a, .int k, .int m]) ∧ 0 ≤ a ∧ 0 ≤ k ∧ k ≤ (n : Int) ∧ 0 ≤ m ∧ m < 2147483647
theorem Strm.more {H : Hp} {st c : Addr} {n n' : Nat} (S : Strm H st c n) (h : n ≤ n') : Strm H st c n' := by
  obtain ⟨ne, cells, a, k, m, h1, h2, h3, h4, h5, h6, h7⟩ := S
  exact ⟨ne, cells, a, k, m, h1, h2, h3, h4, by omega, h6, h7⟩
theorem Strm.same {H H' : Hp} {st c : Addr} {n : Nat} (S : Strm H st c n) (h : Same H H') : Strm H' st c n := by
  obtain ⟨ne, cells, a, k, m, h1, h2, h3⟩ := S
  exact ⟨ne, cells, a, k, m, h _ _ h1, h _ _ h2, h3⟩
theorem Strm.notfree {H : Hp} {st c : Addr} {n : Nat} (S : Strm H st c n) {p : Addr} (h : H p = none) : p ≠ st ∧ p ≠ c := by
  obtain ⟨ne, cells, a, k, m, h1, h2, h3⟩ := S
  exact ⟨fun e => (ne_of_none h2 h) e.symm, fun e => (ne_of_none h1 h) e.symm⟩
/-- what was free and is tracked behind is no part of the stream -/
theorem Kept.upd {H H' : Hp} {st c : Addr} {n : Nat} {p : Addr} {o : HO} (S : Strm H st c n) (k : Kept st c H H') (h : H p = none) : Kept st c H (L2.upd H' p o) := fun b x n1 n2 e => by
  rw [upd_ne (ne_of_none e h)]
  exact k b x n1 n2 e
theorem Strm.upd {H : Hp} {st c : Addr} {n : Nat} {p : Addr} {o : HO} (S : Strm H st c n) (h1 : p ≠ st) (h2 : p ≠ c) : Strm (L2.upd H p o) st c n := by
  obtain ⟨ne, cells, a, k, m, e1, e2, e3⟩ := S
  exact ⟨ne, cells, a, k, m, by rw [upd_ne h2.symm]; exact e1, by rw [upd_ne h1.symm]; exact e2, e3⟩
theorem Kept.free {H H' : Hp} {st c p : Addr} (k : Kept st c H H') (h : H' p = none) (n1 : p ≠ st) (n2 : p ≠ c) : H p = none := by
  cases e : H p with
  | none => rfl
  | some o =>
    rw [k p o n1 n2 e] at h
    cases h
theorem Kept.grow {H H' : Hp} {st c p : Addr} {o : HO} (k : Kept st c H H') (h : H p = none) : Kept st c H (L2.upd H' p o) := fun b x n1 n2 e => by
  rw [upd_ne (ne_of_none e h)]
  exact k b x n1 n2 e
/-! ### names that the program's top leaves -/
structure Bi (mg : Str → Option Value) : Prop where
  len : mg "len" = none
  list : mg "list" = none
  tuple : mg "tuple" = none
  isinstance : mg "isinstance" = none
  all : mg "all" = none
  any : mg "any" = none
  zip : mg "zip" = none
  enumerate : mg "enumerate" = none
  range : mg "range" = none
  int : mg "int" = none
  str : mg "str" = none
  bool : mg "bool" = none
  dict : mg "dict" = none
  abs : mg "abs" = none
/-- a def that can be called by its name -/
structure Cal (P : Program) (w : World) (K : PySem.W.Frag) (mg : Str → Option Value) (base : Heap) (CX : CXT) (k : Nat) (x : Str) (f : Addr) (fd : FuncData) (ps : List Str) (sp : Sp) : Prop where
  ok : FnOk P w K mg base CX k f fd ps sp
  g : mg x = some (.ref f)
  kp : PySem.W.keepIn K (.ref f) = true
  b : Binds K fd ps []
/-! ### what is a name -/
def lettersL : List Nat := (Str.ofString "abcdefghijklmnopqrstuvwxyz").cps.toList
theorem letters_mem (c : Nat) : c ∈ lettersL ↔ 97 ≤ c ∧ c ≤ 122 := by
  rw [show lettersL = List.range' 97 26 by decide +kernel, List.mem_range'_1]
  omega
def isNameS (z : Str) : Bool := decide (1 ≤ z.length) && decide (z.length ≤ 8) && z.cps.toList.all fun c => decide (c ∈ lettersL)
def isNameB : V → Bool
  | .str z => isNameS z
  | _ => false
def isStr : V → Bool
  | .str _ => true
  | _ => false
/-- any object, as far as isinstance with str asks -/
def Itm (K : PySem.W.Frag) (H : Hp) (x : V) : Prop := ∃ t, TyX K H x t ∧ PySem.W.kitOne K t (.type "str") = some (isStr x) ∧ ∀ z, x = .str z → z.length ≤ 100000
/-- any object, as far as isinstance with (list, tuple) asks: b tells whether it is one of them -/
def Sqs (K : PySem.W.Frag) (H : Hp) (x : V) (b : Bool) : Prop := ∃ t, TyX K H x t ∧ PySem.W.kitAny K t [.type "list", .type "tuple"] = some b
theorem Itm.str {K : PySem.W.Frag} {H : Hp} {z : Str} (h : z.length ≤ 100000) : Itm K H (.str z) := ⟨.type "str", .base (.str z), kit_ty (show kitB "str" "str" = some true by decide +kernel), fun _ e => by cases e; exact h⟩
theorem TyX.same {K : PySem.W.Frag} {H H' : Hp} {x : V} {t : Value} (h : TyX K H x t) (e : Same H H') : TyX K H' x t := by
  cases h with
  | base b =>
    cases b with
    | non => exact .base .non
    | bl y => exact .base (.bl y)
    | int i => exact .base (.int i)
    | str y => exact .base (.str y)
    | flt y => exact .base (.flt y)
    | lst q => exact .base (.lst (e _ _ q))
    | frz q => exact .base (.frz (e _ _ q))
    | tup q => exact .base (.tup (e _ _ q))
    | dK q => exact .base (.dK (e _ _ q))
    | dT q => exact .base (.dT (e _ _ q))
    | ins q c1 c2 c3 c4 c5 => exact .base (.ins (e _ _ q) c1 c2 c3 c4 c5)
  | byt b => exact .byt b
  | set q => exact .set (e _ _ q)
  | kList q c => exact .kList q c
  | kTuple q c => exact .kTuple q c
  | kDict q c => exact .kDict q c
  | fTuple q => exact .fTuple (e _ _ q)
  | fDict q => exact .fDict (e _ _ q)
/-! ### promises -/
def spStart (K : PySem.W.Frag) : Sp := fun vs H Q _ => ∃ (a : Addr) (ns : List Int), vs = [.ref a] ∧ SqL K H a (ns.map V.int) ∧
  ∀ (st c : Addr) (H' : Hp), Same H H' → H st = none → H c = none → Strm H' st c 0 → Q (.ref st) H'
def spDraw : Sp := fun vs H Q _ => ∃ (st c : Addr) (n : Nat) (k : Int), vs = [.ref st, .int k] ∧ Strm H st c n ∧ n ≤ 1000000 ∧ 0 < k ∧ k < 1000000 ∧
  ∀ (d : Int) (H' : Hp), 0 ≤ d → d < k → Strm H' st c (n + 1) → Kept st c H H' → Q (.int d) H'
/-- what one may pick from: a list, a tuple, a text -/
inductive Pk (K : PySem.W.Frag) (H : Hp) (st c : Addr) : V → Nat → (Nat → V) → Prop where
  | lst {a : Addr} {xs : List V} {f : Nat → V} (h : SqL K H a xs) (n1 : a ≠ st) (n2 : a ≠ c) (e : ∀ j, j < xs.length → xs[j]? = some (f j)) : Pk K H st c (.ref a) xs.length f
  | tup {a : Addr} {xs : List V} {f : Nat → V} (h : SqT K H a xs) (n1 : a ≠ st) (n2 : a ≠ c) (e : ∀ j, j < xs.length → xs[j]? = some (f j)) : Pk K H st c (.ref a) xs.length f
  | str {z : Str} {f : Nat → V} (hz : z.length ≤ sizeLine) (e : ∀ j, j < z.length → ∃ ch, z.cps.toList[j]? = some ch ∧ f j = .str ⟨#[ch]⟩) : Pk K H st c (.str z) z.length f
def spPick (K : PySem.W.Frag) : Sp := fun vs H Q _ => ∃ (st c : Addr) (n len : Nat) (x : V) (f : Nat → V), vs = [.ref st, x] ∧ Strm H st c n ∧ n ≤ 1000000 ∧ 0 < len ∧ len < 1000000 ∧ Pk K H st c x len f ∧
  ∀ (j : Nat) (H' : Hp), j < len → Strm H' st c (n + 1) → Kept st c H H' → Q (f j) H'
def spIsList (K : PySem.W.Frag) : Sp := fun vs H Q _ => ∃ (x : V) (b : Bool), vs = [x] ∧ Sqs K H x b ∧ ∀ H', Same H H' → Q (.bl b) H'
def spIsName (K : PySem.W.Frag) : Sp := fun vs H Q _ => ∃ x : V, vs = [x] ∧ Itm K H x ∧ ∀ H', Same H H' → Q (.bl (isNameB x)) H'
def spName : Sp := fun vs H Q _ => ∃ (st c : Addr) (n : Nat), vs = [.ref st] ∧ Strm H st c n ∧ n ≤ 900000 ∧
  ∀ (z : Str) (H' : Hp), isNameS z = true → Strm H' st c (n + 9) → Kept st c H H' → Q (.str z) H'
def spNames (K : PySem.W.Frag) : Sp := fun vs H Q _ => ∃ (st c : Addr) (n many : Nat), vs = [.ref st, .int (many : Int)] ∧ Strm H st c n ∧ n ≤ 800000 ∧ many ≤ 16 ∧
  ∀ (l : Addr) (zs : List Str) (H' : Hp), H l = none → zs.length = many → zs.Nodup → (∀ z ∈ zs, isNameS z = true) → Strm H' st c (n + 200) → Kept st c H H' → H' l = some (.lst (zs.map V.str)) → Q (.ref l) H'
theorem dp_ints {K : PySem.W.Frag} {H : Hp} : ∀ l : List Int, DpAll K H (l.map V.int) (l.map PyData.int)
  | [] => .nil
  | x :: r => .cons (.int x) (dp_ints r)
theorem lay_ints : ∀ l : List Int, PyData.canLayAll0 (l.map PyData.int) = true
  | [] => by simp [PyData.canLayAll0]
  | x :: r => by
    have := lay_ints r
    simp [PyData.canLayAll0, PyData.canLay0, this]
theorem depth_ints : ∀ l : List Int, PyData.depthAll (l.map PyData.int) = 0
  | [] => by simp [PyData.depthAll]
  | x :: r => by
    have := depth_ints r
    simp [PyData.depthAll, PyData.depth, this]
theorem shaped_ints (l : List Int) : SeqAt.shaped (.list (l.map PyData.int)) = true := by
  have h1 := lay_ints l
  have h2 := depth_ints l
  simp [SeqAt.shaped, PyData.canLay0, PyData.depth, h1, h2]
theorem eqv_nil (l : List Int) : PyData.eqv (.list (l.map PyData.int)) (.list []) = l.isEmpty := by
  cases l <;> simp [PyData.eqv, PyData.eqvAll]
theorem yes2 {σ : L2.St} {H : Hp} {A B : Hp → Prop} (h : A H) : tYes σ H (fun b H3 => if b = true then A H3 else B H3) := by
  show (if true = true then A H else B H)
  rw [if_pos rfl]
  exact h
theorem take_succ_map {α β : Type} {l : List α} {f : α → β} {i : Nat} {x : α} (h : l[i]? = some x) : (l.take (i + 1)).map f = (l.take i).map f ++ [f x] := by
  obtain ⟨h1, rfl⟩ := List.getElem?_eq_some_iff.mp h
  rw [List.take_add_one, h, List.map_append]
  rfl
/-- the first turns of a comprehension that keeps each item -/
structure Upto {α : Type} (H : Hp) (D : Addr) (l : List α) (f : α → V) (i : Nat) (H' : Hp) : Prop where
  sm : Same H H'
  at_ : H' D = some (.lst ((l.take i).map f))
theorem Upto.zero {α : Type} {H : Hp} {D : Addr} {l : List α} {f : α → V} (h : H D = none) : Upto H D l f 0 (upd H D (.lst [])) := ⟨same_upd h, upd_same⟩
theorem Upto.next {α : Type} {H H' H2 : Hp} {D : Addr} {l : List α} {f : α → V} {i : Nat} {x : α} (u : Upto H D l f i H') (nD : H D = none) (hx : l[i]? = some x) (s2 : Same H' H2) (hl : l.length ≤ 100000) :
    ∃ acc, H2 D = some (.lst acc) ∧ acc.length < sizeLine ∧ Upto H D l f (i + 1) (upd H2 D (.lst (acc ++ [f x]))) := by
  have hi := (List.getElem?_eq_some_iff.mp hx).1
  refine ⟨_, s2 _ _ u.at_, Evl.sz_lt ?_, Same.grow (u.sm.trans s2) nD, ?_⟩
  · rw [List.length_map, List.length_take]
    omega
  · rw [upd_same, take_succ_map hx]
theorem Upto.all {α : Type} {H H' : Hp} {D : Addr} {l : List α} {f : α → V} {n : Nat} (u : Upto H D l f n H') (e : n = l.length) : H' D = some (.lst (l.map f)) := by
  rw [u.at_, e, List.take_length]
theorem inV_strs (z : Str) : ∀ zs : List Str, inV (.str z) (zs.map V.str) = decide (z ∈ zs)
  | [] => rfl
  | x :: r => by
    have ih := inV_strs z r
    unfold inV at ih ⊢
    rw [List.map_cons, List.any_cons, ih]
    show ((x == z) || decide (z ∈ r)) = decide (z ∈ x :: r)
    by_cases e : x = z
    · subst e
      simp
    · have e2 : ¬ z = x := fun q => e q.symm
      rw [beq_eq_false_iff_ne.mpr e, Bool.false_or]
      simp [e2]
theorem flat_strs : ∀ zs : List Str, (zs.map V.str).all flatV = true
  | [] => rfl
  | x :: r => by
    rw [List.map_cons, List.all_cons, flat_strs r]
    rfl
theorem pigeon {α : Type} [DecidableEq α] : ∀ (a b : List α), a.Nodup → (∀ x ∈ a, x ∈ b) → a.length ≤ b.length
  | [], _, _, _ => Nat.zero_le _
  | x :: r, b, hn, hs => by
    have hx := hs x List.mem_cons_self
    obtain ⟨n1, n2⟩ := List.nodup_cons.mp hn
    have ih := pigeon r (b.erase x) n2 fun y hy => (List.mem_erase_of_ne (fun (e : y = x) => n1 (e ▸ hy))).mpr (hs y (List.mem_cons_of_mem _ hy))
    rw [List.length_erase_of_mem hx] at ih
    have : 0 < b.length := List.length_pos_of_mem hx
    rw [List.length_cons]
    omega
/-- the first turns of a comprehension that keeps some items -/
structure UptoF {α : Type} (H : Hp) (D : Addr) (l : List α) (f : α → V) (p : α → Bool) (i : Nat) (H' : Hp) : Prop where
  sm : Same H H'
  at_ : H' D = some (.lst (((l.take i).filter p).map f))
theorem UptoF.zero {α : Type} {H : Hp} {D : Addr} {l : List α} {f : α → V} {p : α → Bool} (h : H D = none) : UptoF H D l f p 0 (upd H D (.lst [])) := ⟨same_upd h, upd_same⟩
theorem take_succ {α : Type} {l : List α} {i : Nat} {x : α} (h : l[i]? = some x) : l.take (i + 1) = l.take i ++ [x] := by
  rw [List.take_add_one, h]
  rfl
theorem UptoF.yes {α : Type} {H H' H2 : Hp} {D : Addr} {l : List α} {f : α → V} {p : α → Bool} {i : Nat} {x : α} (u : UptoF H D l f p i H') (nD : H D = none) (hx : l[i]? = some x) (hp : p x = true) (s2 : Same H' H2) (hl : l.length ≤ 100000) :
    ∃ acc, H2 D = some (.lst acc) ∧ acc.length < sizeLine ∧ UptoF H D l f p (i + 1) (upd H2 D (.lst (acc ++ [f x]))) := by
  have hi := (List.getElem?_eq_some_iff.mp hx).1
  refine ⟨_, s2 _ _ u.at_, Evl.sz_lt ?_, Same.grow (Same.trans u.sm s2) nD, ?_⟩
  · have := List.length_filter_le p (l.take i)
    rw [List.length_map]
    rw [List.length_take] at this
    omega
  · rw [upd_same, take_succ hx, List.filter_append, List.map_append, List.filter_cons_of_pos hp]
    rfl
theorem UptoF.no {α : Type} {H H' H2 : Hp} {D : Addr} {l : List α} {f : α → V} {p : α → Bool} {i : Nat} {x : α} (u : UptoF H D l f p i H') (hx : l[i]? = some x) (hp : p x = false) (s2 : Same H' H2) : UptoF H D l f p (i + 1) H2 :=
  ⟨Same.trans u.sm s2, by rw [take_succ hx, List.filter_append, List.filter_cons_of_neg (by rw [hp]; exact Bool.false_ne_true), List.filter_nil, List.append_nil]; exact s2 _ _ u.at_⟩
theorem UptoF.all {α : Type} {H H' : Hp} {D : Addr} {l : List α} {f : α → V} {p : α → Bool} {n : Nat} (u : UptoF H D l f p n H') (e : n = l.length) : H' D = some (.lst ((l.filter p).map f)) := by
  rw [u.at_, e, List.take_length]
/-! ### the layer's rules with K told (within a comprehension's block the reading may not speak of the block) -/
section
variable {X : Cx} (K : PySem.W.Frag)
theorem kIn (e : X.K = K := by rfl) : OpR X (compareOp .In) (rIn K false) := e ▸ op_in_seq
theorem kNotIn (e : X.K = K := by rfl) : OpR X (compareOp .NotIn) (rIn K true) := e ▸ op_notIn_seq
theorem kEqD (hu : X.A.units + 64 < cLine) (e : X.K = K := by rfl) : OpR X (compareOp .Eq) (rEqD K) := e ▸ op_eqD hu
theorem kNeD (hu : X.A.units + 64 < cLine) (e : X.K = K := by rfl) : OpR X (compareOp .NotEq) (rNeD K) := e ▸ op_neD hu
theorem kCatA (e : X.K = K := by rfl) : OpR X (binaryOp .Add) (rCatA K) := e ▸ op_catA
theorem kIxL (e : X.K = K := by rfl) : IxR X (rIxL K) := e ▸ ix_list
theorem kIxT (e : X.K = K := by rfl) : IxR X (rIxT K) := e ▸ ix_tup
theorem kIx (e : X.K = K := by rfl) : IxR X (rIx K) := e ▸ ix_seq
theorem kSlL (e : X.K = K := by rfl) : SlR X (rSlL K) := e ▸ sl_list
theorem kSlT (e : X.K = K := by rfl) : SlR X (rSlA K) := e ▸ sl_tupA
/-- len of a text, a list, a tuple -/
def rLn (K : PySem.W.Frag) : List V → Hp → VK → Prop := fun xs H Q => ∃ x n, xs = [x] ∧ LenV K x H n ∧ Q (.int n) H
theorem kLen (e : X.K = K := by rfl) : CallR X (.builtin "len") (rLn K) := e ▸ call_len
def rLs (K : PySem.W.Frag) : List V → Hp → VK → Prop := fun xs H Q => ∃ p ys, xs = [.ref p] ∧ (SqL K H p ys ∨ SqT K H p ys) ∧ ∀ l, H l = none → Q (.ref l) (upd H l (.lst ys))
theorem kList (e : X.K = K := by rfl) : CallR X (.type "list") (rLs K) := e ▸ call_list_of
theorem kAll (hc : X.calm = true) (e : X.K = K := by rfl) : CallR X (.builtin "all") (rAll K) := e ▸ cr_all hc
theorem kAny (hc : X.calm = true) (e : X.K = K := by rfl) : CallR X (.builtin "any") (rAny K) := e ▸ cr_any hc
theorem kIsi (e : X.K = K := by rfl) : CallR X (.builtin "isinstance") (rIsi K) := e ▸ call_isi
theorem kIsiT (e : X.K = K := by rfl) : CallR X (.builtin "isinstance") (rIsiT K) := e ▸ call_isiT
theorem kTupleOf {a : Expr} {ta : TE} {p pos : Pos} (hg : Gl X "tuple") (hm : X.mg "tuple" = none) (ha : PE X a ta) (e : X.K = K := by rfl) (na : starEach [a] X.env = (false, eval a X.env) :: starEach [] X.env := by rfl) : PE X (.Call (.Name "tuple" p) [a] [] pos) (tThen ta (kTup K)) := e ▸ pe_tupleOf hg hm ha na
theorem kTg (n : Nat) {es : List Expr} {k : Nat} {t : TGs} {pos : Pos} (hc : X.calm = true) (h : PGs X es t) (e : X.K = K := by rfl) (hn : (assignEach es X.env).length = n := by rfl) (hst : (assignEach es X.env).findIdx? (·.1) = none := by rfl) :
    PG X (.Tuple es k pos) (gTup K n t) := e ▸ pg_tup hc h hn hst
theorem kPiL {tg l : Expr} {tl : TE} (hl : PE X l tl) (e : X.K = K := by rfl) : PI X tg l (iList K tl) := e ▸ pi_list hl
theorem kPiT {tg l : Expr} {tl : TE} (hl : PE X l tl) (e : X.K = K := by rfl) : PI X tg l (iTup K tl) := e ▸ pi_tup hl
theorem kPiE {e1 : Expr} {ta : TA} {p pos tpos : Pos} {elts : List Expr} {kk : Nat} (hg : Gl X "enumerate") (hm : X.mg "enumerate" = none) (ha : PA X [e1] ta) (e : X.K = K := by rfl) (hs : starEach [e1] X.env = [(false, eval e1 X.env)] := by rfl) :
    PI X (.Tuple elts kk tpos) (.Call (.Name "enumerate" p) [e1] [] pos) (iEnS K ta) := e ▸ pi_enS hg hm ha hs
theorem kPiZ {e1 e2 : Expr} {ta : TA} {p pos tpos : Pos} {elts : List Expr} {kk : Nat} (hg : Gl X "zip") (hm : X.mg "zip" = none) (ha : PA X [e1, e2] ta) (e : X.K = K := by rfl)
    (hs : starEach [e1, e2] X.env = (false, eval e1 X.env) :: starEach [e2] X.env := by rfl) (hpl : (backTo pos (starEach [e2] X.env)).any (·.1) = false := by rfl) :
    PI X (.Tuple elts kk tpos) (.Call (.Name "zip" p) [e1, e2] [] pos) (RZ.iZipA K ta) := e ▸ RZ.pi_zipA hg hm ha hs hpl
end
end Bk

namespace Bk
open PySem PySem.Spec PyProof.Rows L2
section
variable {K : PySem.W.Frag}
/-! ### walks -/
theorem walk_enumT {a : Addr} {xs : List V} : Walk (IteT K a) xs.length (fun H => SqT K H a xs) (YPair (fun i => some (.int (i : Nat))) (fun i => xs[i]?)) := by
  refine ⟨fun i _ hi q => ⟨xs, xs[i], q, by simp [hi]⟩, fun _ q => ⟨xs, q, rfl⟩, fun i H v H' _ q y => ?_⟩
  obtain ⟨T, x, h1, h2, h3, h4⟩ := y
  exact ⟨T, .int (i : Nat), x, h1, h2, h3, rfl, h4 xs q⟩
/-- enumerate of a list or a tuple: whichever it is -/
theorem enS_of {a : Addr} {xs : List V} {H : Hp} {R : It → Hp → Prop} (hS : SqL K H a xs ∨ SqT K H a xs)
    (h : ∀ (J : It) (G : Hp → Prop), Walk J xs.length G (YPair (fun i => some (.int (i : Nat))) (fun i => xs[i]?)) → (∀ H', Same H H' → G H') → R J H) :
    (∃ ys, SqL K H a ys ∧ R (Ite K a) H) ∨ (∃ ys, SqT K H a ys ∧ R (IteT K a) H) := by
  rcases hS with hS | hS
  · exact .inl ⟨xs, hS, h _ _ walk_enum fun H' e => e.seq hS⟩
  · exact .inr ⟨xs, hS, h _ _ walk_enumT fun H' e => Same.sqt e hS⟩
/-- for at, x in enumerate(xs), xs in the slot i: a list or a tuple -/
theorem for_enS {i : Nat} {a : Addr} {xs : List V} {g : TG} {tb : TS} {D : Ends} {σ : L2.St} {H : Hp} (hv : σ[i]? = some (some (.ref a))) (hS : SqL K H a xs ∨ SqT K H a xs) (Pv : Nat → L2.St → Hp → Prop) (h0 : Pv 0 σ H) (hG : ∀ k σ' H', Pv k σ' H' → Same H H')
    (hs : ∀ k x σ' H' H2, k < xs.length → Pv k σ' H' → YPair (fun j => some (.int (j : Nat))) (fun j => xs[j]?) k H' x H2 → g x σ' H2 fun σ2 H3 => tb { D with nx := Pv (k + 1), ct := Pv (k + 1), bk := D.nx } σ2 H3) (hd : ∀ σ' H', Pv xs.length σ' H' → D.nx σ' H') :
    tFor (iEnS K (tCons (tVar i) tNil)) g tb D σ H :=
  ⟨_, hv, a, rfl, enS_of (R := fun J H1 => ∃ W : Nat → Nat → L2.St → Hp → Prop, (∃ m, W 0 m σ H1) ∧ ∀ i m σ H, W i m σ H →
      (J.stop i H ∧ D.nx σ H) ∨ (J.go i H ∧ ∃ N : L2.St → Hp → Prop, (∀ σ' H', N σ' H' → ∃ m', m' < m ∧ W (i + 1) m' σ' H') ∧ ∀ x H', J.yld i H x H' → g x σ H' fun σ2 H2 => tb { D with nx := N, ct := N, bk := D.nx } σ2 H2))
    hS fun J G wk kG => for_it wk Pv h0 (fun k σ' H' _ p => kG H' (hG k σ' H' p)) hs hd⟩
section
variable {J : It} {n : Nat} {G : Hp → Prop} {Y : Nat → Hp → V → Hp → Prop}
/-- the inner walk of a comprehension with two fors -/
theorem inner_it (w : Walk J n G Y) {g1 : TG} {tt1 : TT} {te : TE} {σ2 : L2.St} {vs1 : List Nat} {D : Addr} {Nx : Hp → Prop} {H0 : Hp} (Pw : Nat → Hp → Prop) (h0 : Pw 0 H0) (hG : ∀ j H, j ≤ n → Pw j H → G H)
    (hs : ∀ j x H H', j < n → Pw j H → Y j H x H' → g1 x (wipe σ2 vs1) H' fun σ3 H5 => wipe σ3 vs1 = wipe σ2 vs1 ∧ tt1 σ3 H5 fun b H6 =>
      if b = true then te σ3 H6 fun y H7 => ∃ acc, H7 D = some (.lst acc) ∧ acc.length < sizeLine ∧ Pw (j + 1) (upd H7 D (.lst (acc ++ [y]))) else Pw (j + 1) H6) (hd : ∀ H, Pw n H → Nx H) :
    ∃ W1 : Nat → Nat → Hp → Prop, (∃ m, W1 0 m H0) ∧ ∀ j k H, W1 j k H →
      (J.stop j H ∧ Nx H) ∨ (J.go j H ∧ ∃ Nx1 : Hp → Prop, (∀ H', Nx1 H' → ∃ k', k' < k ∧ W1 (j + 1) k' H') ∧ ∀ x H', J.yld j H x H' → g1 x (wipe σ2 vs1) H' fun σ3 H5 => wipe σ3 vs1 = wipe σ2 vs1 ∧ tt1 σ3 H5 fun b H6 =>
        if b = true then te σ3 H6 fun y H7 => ∃ acc, H7 D = some (.lst acc) ∧ acc.length < sizeLine ∧ Nx1 (upd H7 D (.lst (acc ++ [y]))) else Nx1 H6) := by
  refine ⟨fun j k H => k = n - j ∧ j ≤ n ∧ Pw j H, ⟨n, rfl, Nat.zero_le _, h0⟩, ?_⟩
  rintro j k H ⟨rfl, hj, p⟩
  rcases Nat.lt_or_ge j n with hlt | hge
  · exact .inr ⟨w.goes j H hlt (hG j H hj p), Pw (j + 1), fun H' p' => ⟨n - (j + 1), by omega, rfl, hlt, p'⟩, fun x H' y => hs j x H H' hlt p (w.yields j H x H' hlt (hG j H hj p) y)⟩
  · obtain rfl : j = n := by omega
    exact .inl ⟨w.stops H (hG j H hj p), hd H p⟩
/-- the outer walk -/
theorem outer_it (w : Walk J n G Y) {g : TG} {tt : TT} {σ : L2.St} {vs : List Nat} {H1 : Hp} {D : Addr} {Qd : Hp → Prop} {In : L2.St → Hp → (Hp → Prop) → Prop} (Pv : Nat → Hp → Prop) (h0 : Pv 0 (upd H1 D (.lst []))) (hG : ∀ i H, i ≤ n → Pv i H → G H)
    (hs : ∀ i x H H', i < n → Pv i H → Y i H x H' → g x (wipe σ vs) H' fun σ2 H2 => wipe σ2 vs = wipe σ vs ∧ tt σ2 H2 fun b H3 => if b = true then In σ2 H3 (Pv (i + 1)) else Pv (i + 1) H3) (hd : ∀ H, Pv n H → Qd H) :
    ∃ W : Nat → Nat → Hp → Prop, (∃ m, W 0 m (upd H1 D (.lst []))) ∧ ∀ i m H, W i m H →
      (J.stop i H ∧ Qd H) ∨ (J.go i H ∧ ∃ Nx : Hp → Prop, (∀ H', Nx H' → ∃ m', m' < m ∧ W (i + 1) m' H') ∧ ∀ x H', J.yld i H x H' → g x (wipe σ vs) H' fun σ2 H2 => wipe σ2 vs = wipe σ vs ∧ tt σ2 H2 fun b H3 =>
        if b = true then In σ2 H3 Nx else Nx H3) := by
  refine ⟨fun i m H => m = n - i ∧ i ≤ n ∧ Pv i H, ⟨n, rfl, Nat.zero_le _, h0⟩, ?_⟩
  rintro i m H ⟨rfl, hi, p⟩
  rcases Nat.lt_or_ge i n with hlt | hge
  · exact .inr ⟨w.goes i H hlt (hG i H hi p), Pv (i + 1), fun H' p' => ⟨n - (i + 1), by omega, rfl, hlt, p'⟩, fun x H' y => hs i x H H' hlt p (w.yields i H x H' hlt (hG i H hi p) y)⟩
  · obtain rfl : i = n := by omega
    exact .inl ⟨w.stops H (hG i H hi p), hd H p⟩
/-- a dict comprehension by tuples -/
theorem dcT_it (w : Walk J n G Y) {g : TG} {tk tv : TE} {vs : List Nat} {σ : L2.St} {H1 : Hp} {D : Addr} {Qd : Hp → Prop} (Pv : Nat → Hp → Prop) (h0 : Pv 0 (upd H1 D (.dT []))) (hG : ∀ i H, i ≤ n → Pv i H → G H)
    (hs : ∀ i x H H', i < n → Pv i H → Y i H x H' → g x (wipe σ vs) H' fun σ2 H2 => wipe σ2 vs = wipe σ vs ∧
      tk σ2 H2 fun y H4 => tv σ2 H4 fun z H5 => ∃ kvs k b, y = .ref b ∧ H5 b = some (.tup (k.map kV)) ∧ H5 D = some (.dT kvs) ∧ kvs.length < sizeLine ∧ Pv (i + 1) (upd H5 D (.dT (putK kvs k z)))) (hd : ∀ H, Pv n H → Qd H) :
    ∃ W : Nat → Nat → Hp → Prop, (∃ m, W 0 m (upd H1 D (.dT []))) ∧ ∀ i m H, W i m H →
      (J.stop i H ∧ Qd H) ∨ (J.go i H ∧ ∃ Nx : Hp → Prop, (∀ H', Nx H' → ∃ m', m' < m ∧ W (i + 1) m' H') ∧ ∀ x H', J.yld i H x H' → g x (wipe σ vs) H' fun σ2 H2 => wipe σ2 vs = wipe σ vs ∧
        tk σ2 H2 fun y H4 => tv σ2 H4 fun z H5 => ∃ kvs k b, y = .ref b ∧ H5 b = some (.tup (k.map kV)) ∧ H5 D = some (.dT kvs) ∧ kvs.length < sizeLine ∧ Nx (upd H5 D (.dT (putK kvs k z)))) := by
  refine ⟨fun i m H => m = n - i ∧ i ≤ n ∧ Pv i H, ⟨n, rfl, Nat.zero_le _, h0⟩, ?_⟩
  rintro i m H ⟨rfl, hi, p⟩
  rcases Nat.lt_or_ge i n with hlt | hge
  · exact .inr ⟨w.goes i H hlt (hG i H hi p), Pv (i + 1), fun H' p' => ⟨n - (i + 1), by omega, rfl, hlt, p'⟩, fun x H' y => hs i x H H' hlt p (w.yields i H x H' hlt (hG i H hi p) y)⟩
  · obtain rfl : i = n := by omega
    exact .inl ⟨w.stops H (hG i H hi p), hd H p⟩
end
/-! ### slices -/
theorem sIx_nat' (n d k : Nat) (h : k ≤ n) : HT.sIx n d (some (k : Int)) = k := by
  rw [HT.sIx_nat]
  omega
theorem cut_to (xs : List V) (k : Nat) (h : k ≤ xs.length) : cutV xs none (some (k : Int)) = xs.take k := by
  unfold cutV
  rw [HT.sIx_none, sIx_nat' _ _ _ h]
  simp
theorem cut_mid (xs : List V) (i k : Nat) (h1 : i ≤ k) (h2 : k ≤ xs.length) : cutV xs (some (i : Int)) (some (k : Int)) = (xs.drop i).take (k - i) := by
  unfold cutV
  rw [sIx_nat' _ _ _ h2, sIx_nat' _ _ _ (by omega)]
/-! ### what first_wrong tells -/
def badAt (xs : List V) (most i : Nat) (x : V) : Bool := decide (i = most) || !isNameB x || inV x (xs.take i)
/-- the first place from i on that is wrong -/
def wrongFrom (xs : List V) (most : Nat) : Nat → List V → Option Nat
  | _, [] => none
  | i, x :: r => if badAt xs most i x = true then some i else wrongFrom xs most (i + 1) r
def firstWrong (xs : List V) (most : Nat) : Option Nat := if xs = [] then some 0 else wrongFrom xs most 0 xs
def optV : Option Nat → V
  | none => .non
  | some i => .int (i : Int)
theorem wrong_step {xs : List V} {most i : Nat} {x : V} (h : xs[i]? = some x) : wrongFrom xs most i (xs.drop i) = if badAt xs most i x = true then some i else wrongFrom xs most (i + 1) (xs.drop (i + 1)) := by
  obtain ⟨h1, rfl⟩ := List.getElem?_eq_some_iff.mp h
  rw [List.drop_eq_getElem_cons h1]
  rfl
theorem wrong_end {xs : List V} {most i : Nat} (h : xs.length ≤ i) : wrongFrom xs most i (xs.drop i) = none := by
  rw [List.drop_eq_nil_of_le h]
  rfl
theorem name_flat {x : V} (h : isNameB x = true) : flatV x = true := by
  cases x <;> first | rfl | cases h
theorem all_flat {xs : List V} {k : Nat} (h : ∀ j x, j < k → xs[j]? = some x → isNameB x = true) : (xs.take k).all flatV = true := by
  rw [List.all_eq_true]
  intro x hx
  obtain ⟨j, hj, e⟩ := List.mem_iff_getElem.mp hx
  rw [List.length_take] at hj
  refine name_flat (h j x (by omega) ?_)
  rw [List.getElem_take] at e
  rw [← e]
  exact List.getElem?_eq_getElem (by omega)
/-- a thing that is a list or a tuple of any objects, or neither -/
inductive Thing (K : PySem.W.Frag) (H : Hp) : V → Option (List V) → Prop where
  | seq {a : Addr} {xs : List V} (hS : SqL K H a xs ∨ H a = some (.tup xs)) (b : Sqs K H (.ref a) true) (hi : ∀ x ∈ xs, Itm K H x) (hl : xs.length ≤ 100000) : Thing K H (.ref a) (some xs)
  | no {x : V} (b : Sqs K H x false) : Thing K H x none
/-- what is wrong with a thing as the names of folders -/
def wrongOf (o : Option (List V)) (most : Nat) : Option Nat := match o with
  | none => some 0
  | some xs => firstWrong xs most
def spFirstWrong (K : PySem.W.Frag) : Sp := fun vs H Q _ => ∃ (x : V) (o : Option (List V)) (most : Nat), vs = [x, .int (most : Int)] ∧ Thing K H x o ∧ ∀ H', Same H H' → Q (optV (wrongOf o most)) H'
theorem Itm.same {H H' : Hp} {x : V} (h : Itm K H x) (e : Same H H') : Itm K H' x := let ⟨t, a, b⟩ := h; ⟨t, TyX.same a e, b⟩
theorem Sqs.same {H H' : Hp} {x : V} {b : Bool} (h : Sqs K H x b) (e : Same H H') : Sqs K H' x b := let ⟨t, a, c⟩ := h; ⟨t, TyX.same a e, c⟩
theorem Thing.same {H H' : Hp} {x : V} {o : Option (List V)} (h : Thing K H x o) (e : Same H H') : Thing K H' x o := by
  cases h with
  | seq hS b hi hl => exact .seq (hS.imp (fun z => e.seq z) fun z => e _ _ z) (b.same e) (fun x hx => (hi x hx).same e) hl
  | no b => exact .no (b.same e)
end
section
variable {K : PySem.W.Frag}
/-- a dict comprehension over enumerate(xs), xs a list in the slot i -/
theorem dcT_enL {i : Nat} {a : Addr} {xs : List V} {g : TG} {tk tv : TE} {vs : List Nat} {σ : L2.St} {H : Hp} {Q : VK} (hv : σ[i]? = some (some (.ref a))) (hS : SqL K H a xs)
    (h : ∀ D, H D = none → ∃ Pv : Nat → Hp → Prop, Pv 0 (upd H D (.dT [])) ∧ (∀ k H', Pv k H' → SqL K H' a xs) ∧
      (∀ k x H' H2, k < xs.length → Pv k H' → YPair (fun j => some (.int (j : Nat))) (fun j => xs[j]?) k H' x H2 → g x (wipe σ vs) H2 fun σ2 H3 => wipe σ2 vs = wipe σ vs ∧
        tk σ2 H3 fun y H4 => tv σ2 H4 fun z H5 => ∃ kvs k' b, y = .ref b ∧ H5 b = some (.tup (k'.map kV)) ∧ H5 D = some (.dT kvs) ∧ kvs.length < sizeLine ∧ Pv (k + 1) (upd H5 D (.dT (putK kvs k' z)))) ∧
      ∀ H', Pv xs.length H' → Q (.ref D) H') : tDcT (iEnS K (tCons (tVar i) tNil)) g tk tv vs σ H Q :=
  ⟨_, hv, a, rfl, .inl ⟨xs, hS, fun D nD => by
    obtain ⟨Pv, h0, hG, hs, hd⟩ := h D nD
    exact dcT_it walk_enum Pv h0 (fun k H' _ p => hG k H' p) hs hd⟩⟩
end
/-! ### what is none wrong -/
theorem wrongFrom_none {xs : List V} {most : Nat} : ∀ (l : List V) (i : Nat), wrongFrom xs most i l = none → ∀ j x, l[j]? = some x → badAt xs most (i + j) x = false
  | [], i, _, j, x, h => by simp at h
  | y :: r, i, hw, j, x, h => by
    have e : (if badAt xs most i y = true then some i else wrongFrom xs most (i + 1) r) = none := hw
    by_cases hb : badAt xs most i y = true
    · rw [if_pos hb] at e
      cases e
    · rw [if_neg hb] at e
      cases j with
      | zero =>
        cases h
        simpa using hb
      | succ j =>
        have := wrongFrom_none r (i + 1) e j x (by simpa using h)
        rw [show i + (j + 1) = i + 1 + j by omega]
        exact this
theorem names_of {xs : List V} (h : ∀ (j : Nat) (x : V), xs[j]? = some x → isNameB x = true) : ∃ zs : List Str, xs = zs.map V.str ∧ ∀ z ∈ zs, isNameS z = true := by
  induction xs with
  | nil => exact ⟨[], rfl, fun _ z => nomatch z⟩
  | cons x r ih =>
    obtain ⟨zs, e, hz⟩ := ih fun j y hy => h (j + 1) y (by simpa using hy)
    have hx := h 0 x rfl
    cases x with
    | str z =>
      refine ⟨z :: zs, by rw [e]; rfl, fun y hy => ?_⟩
      rcases List.mem_cons.mp hy with rfl | hy
      · exact hx
      · exact hz y hy
    | _ => cases hx
/-- what is right: unlike names, not too many -/
theorem right_names {o : Option (List V)} {most : Nat} (h : wrongOf o most = none) : ∃ zs : List Str, o = some (zs.map V.str) ∧ zs ≠ [] ∧ (∀ z ∈ zs, isNameS z = true) ∧ zs.length ≤ most ∧ zs.Nodup := by
  cases o with
  | none => cases h
  | some xs =>
    have h : firstWrong xs most = none := h
    unfold firstWrong at h
    by_cases hn : xs = []
    · rw [if_pos hn] at h
      cases h
    · rw [if_neg hn] at h
      have hb := wrongFrom_none xs 0 h
      have hb : ∀ j x, xs[j]? = some x → badAt xs most j x = false := fun j x hx => by
        have := hb j x hx
        rwa [Nat.zero_add] at this
      obtain ⟨zs, e, hz⟩ := names_of fun j x hx => by
        have := hb j x hx
        simp [badAt] at this
        exact this.1.2
      refine ⟨zs, by rw [e], fun z => hn (by rw [e, z]; rfl), hz, ?_, ?_⟩
      · rcases Nat.lt_or_ge most zs.length with hlt | hge
        · have hx : xs[most]? = some (V.str zs[most]) := by rw [e, List.getElem?_map, List.getElem?_eq_getElem hlt]; rfl
          have := hb most _ hx
          simp [badAt] at this
        · exact hge
      · rw [List.nodup_iff_pairwise_ne, List.pairwise_iff_getElem]
        intro i j hi hj hij heq
        have hx : xs[j]? = some (V.str zs[j]) := by rw [e, List.getElem?_map, List.getElem?_eq_getElem hj]; rfl
        have := hb j _ hx
        simp [badAt] at this
        have h2 := this.2
        rw [e, ← List.map_take, inV_strs] at h2
        have h2 := of_decide_eq_false h2
        exact h2 (List.mem_iff_getElem.mpr ⟨i, by rw [List.length_take]; omega, by rw [List.getElem_take]; exact heq⟩)
end Bk

namespace Bk
open PySem PySem.Spec PyProof.Rows L2
/-! ### values that are tuples, one for each of some things -/
def Ats {α : Type} (H : Hp) (g : α → List V) (vs : List V) (xs : List α) : Prop := vs.length = xs.length ∧ ∀ (i : Nat) (v : V) (x : α), vs[i]? = some v → xs[i]? = some x → ∃ b, v = .ref b ∧ H b = some (.tup (g x))
section
variable {α : Type} {g : α → List V} {H H' : Hp} {vs ws : List V} {xs ys : List α}
theorem Ats.nil : Ats H g [] [] := ⟨rfl, fun i v x h => by simp at h⟩
theorem Ats.same (a : Ats H g vs xs) (e : Same H H') : Ats H' g vs xs := ⟨a.1, fun i v x h1 h2 => let ⟨b, e1, e2⟩ := a.2 i v x h1 h2; ⟨b, e1, e _ _ e2⟩⟩
theorem Ats.updL {D : Addr} {l : List V} {o : HO} (a : Ats H g vs xs) (hD : H D = some (.lst l)) : Ats (upd H D o) g vs xs := ⟨a.1, fun i v x h1 h2 => by
  obtain ⟨b, e1, e2⟩ := a.2 i v x h1 h2
  exact ⟨b, e1, by rw [upd_ne (ne_of e2 hD (fun z => nomatch z))]; exact e2⟩⟩
theorem Ats.append (a : Ats H g vs xs) (b : Ats H g ws ys) : Ats H g (vs ++ ws) (xs ++ ys) := by
  refine ⟨by rw [List.length_append, List.length_append, a.1, b.1], fun i v x h1 h2 => ?_⟩
  by_cases hi : i < vs.length
  · rw [List.getElem?_append_left hi] at h1
    rw [List.getElem?_append_left (by rw [← a.1]; exact hi)] at h2
    exact a.2 i v x h1 h2
  · rw [List.getElem?_append_right (by omega)] at h1
    rw [List.getElem?_append_right (by rw [← a.1]; omega), ← a.1] at h2
    exact b.2 _ v x h1 h2
theorem Ats.one {b : Addr} {x : α} (e : H b = some (.tup (g x))) : Ats H g [.ref b] [x] := ⟨rfl, fun i v y h1 h2 => by
  cases i with
  | zero =>
    cases h1
    cases h2
    exact ⟨b, rfl, e⟩
  | succ i => simp at h1⟩
theorem Ats.at (a : Ats H g vs xs) {i : Nat} {x : α} (h : xs[i]? = some x) : ∃ b, vs[i]? = some (.ref b) ∧ H b = some (.tup (g x)) := by
  have hi := (List.getElem?_eq_some_iff.mp h).1
  rw [← a.1] at hi
  obtain ⟨b, e1, e2⟩ := a.2 i _ x (List.getElem?_eq_getElem hi) h
  exact ⟨b, by rw [List.getElem?_eq_getElem hi, e1], e2⟩
end
/-! ### the rows of places, as choices makes them -/
def rowV (r : List Nat) : List V := r.map fun (k : Nat) => V.int (k : Int)
def lastOf (r : List Nat) : Nat := r.getLastD 0
def growRow (n : Nat) (r : List Nat) : List (List Nat) := (List.range' (lastOf r + 1) (n - (lastOf r + 1))).map fun k => r ++ [k]
def nextRows (n : Nat) (rows : List (List Nat)) : List (List Nat) := rows.flatMap (growRow n)
def rowsFrom (n : Nat) : Nat → List (List Nat) → List (List Nat)
  | 0, _ => []
  | f + 1, rows => rows ++ rowsFrom n f (nextRows n rows)
def firstRows (n : Nat) : List (List Nat) := (List.range n).map fun k => [k]
/-- all rows of places below n, shorter ones first -/
def lotRows (n : Nat) : List (List Nat) := rowsFrom n n (firstRows n)
/-- the lots of unlike names -/
def lotsOf (zs : List Str) : List (List Str) := (lotRows zs.length).map fun r => r.map fun k => zs.getD k Str.empty
structure RowOk (n k : Nat) (r : List Nat) : Prop where
  len : r.length = k + 1
  lt : ∀ x ∈ r, x < n
  last : k ≤ lastOf r
theorem RowOk.ne {n k : Nat} {r : List Nat} (h : RowOk n k r) : r ≠ [] := fun e => by
  have := h.len
  rw [e] at this
  simp at this
theorem lastOf_mem {r : List Nat} (h : r ≠ []) : lastOf r ∈ r := by
  unfold lastOf
  rw [List.getLastD_eq_getLast?, List.getLast?_eq_some_getLast h]
  exact List.getLast_mem h
theorem RowOk.lt_last {n k : Nat} {r : List Nat} (h : RowOk n k r) : lastOf r < n := h.lt _ (lastOf_mem h.ne)
theorem lastOf_snoc (r : List Nat) (k : Nat) : lastOf (r ++ [k]) = k := by
  unfold lastOf
  rw [List.getLastD_eq_getLast?, List.getLast?_append]
  rfl
theorem firstRows_ok {n : Nat} : ∀ r ∈ firstRows n, RowOk n 0 r := by
  intro r hr
  obtain ⟨k, hk, rfl⟩ := List.mem_map.mp hr
  have := List.mem_range.mp hk
  exact ⟨rfl, fun x hx => by rw [List.mem_singleton.mp hx]; exact this, Nat.zero_le _⟩
theorem nextRows_ok {n k : Nat} {rows : List (List Nat)} (h : ∀ r ∈ rows, RowOk n k r) : ∀ r ∈ nextRows n rows, RowOk n (k + 1) r := by
  intro r hr
  obtain ⟨r0, h0, hr⟩ := List.mem_flatMap.mp hr
  obtain ⟨j, hj, rfl⟩ := List.mem_map.mp hr
  obtain ⟨j1, j2⟩ := List.mem_range'_1.mp hj
  have o := h r0 h0
  have := o.last
  refine ⟨by rw [List.length_append, o.len]; rfl, fun x hx => ?_, by rw [lastOf_snoc]; omega⟩
  rcases List.mem_append.mp hx with hx | hx
  · exact o.lt x hx
  · rw [List.mem_singleton.mp hx]
    omega
theorem flatMap_len {α β : Type} {f : α → List β} {m : Nat} : ∀ {l : List α}, (∀ x ∈ l, (f x).length ≤ m) → (l.flatMap f).length ≤ l.length * m
  | [], _ => Nat.zero_le _
  | x :: r, h => by
    have ih := flatMap_len (l := r) fun y hy => h y (List.mem_cons_of_mem _ hy)
    have h1 := h x List.mem_cons_self
    rw [List.flatMap_cons, List.length_append, List.length_cons, Nat.add_mul]
    omega
theorem growRow_len {n : Nat} {r : List Nat} : (growRow n r).length ≤ n := by
  unfold growRow
  rw [List.length_map, List.length_range']
  omega
theorem nextRows_len {n : Nat} (rows : List (List Nat)) : (nextRows n rows).length ≤ rows.length * n := flatMap_len fun _ _ => growRow_len
theorem nextRows_snoc {n : Nat} {rows : List (List Nat)} {i : Nat} {r : List Nat} (h : rows[i]? = some r) : nextRows n (rows.take (i + 1)) = nextRows n (rows.take i) ++ growRow n r := by
  unfold nextRows
  rw [take_succ h, List.flatMap_append, List.flatMap_cons, List.flatMap_nil, List.append_nil]
theorem rowsFrom_nil (n : Nat) : ∀ f, rowsFrom n f [] = []
  | 0 => rfl
  | f + 1 => by
    show [] ++ rowsFrom n f (nextRows n []) = []
    exact rowsFrom_nil n f
theorem rowsFrom_ok {n : Nat} : ∀ (f k : Nat) (rows : List (List Nat)), (∀ r ∈ rows, RowOk n k r) → ∀ r ∈ rowsFrom n f rows, ∃ k', RowOk n k' r
  | 0, _, _, _, r, hr => by cases hr
  | f + 1, k, rows, h, r, hr => by
    rcases List.mem_append.mp (show r ∈ rows ++ rowsFrom n f (nextRows n rows) from hr) with hr | hr
    · exact ⟨k, h r hr⟩
    · exact rowsFrom_ok f (k + 1) _ (nextRows_ok h) r hr
theorem lotRows_ok {n : Nat} : ∀ r ∈ lotRows n, ∃ k, RowOk n k r := rowsFrom_ok n 0 _ firstRows_ok
theorem rowV_len (r : List Nat) : (rowV r).length = r.length := List.length_map ..
theorem at_last {r : List Nat} (h : r ≠ []) : atI (rowV r) (-1) = some (V.int (lastOf r : Int)) := by
  have hl : 0 < r.length := List.length_pos_iff.mpr h
  have e1 : ixN (rowV r).length (-1) = some (r.length - 1) := by
    unfold ixN
    rw [rowV_len, if_neg (by omega), if_pos (by omega)]
    congr 1
    omega
  unfold atI
  rw [e1]
  show (rowV r)[r.length - 1]? = _
  unfold rowV lastOf
  rw [List.getElem?_map, List.getLastD_eq_getLast?, List.getLast?_eq_getElem?, List.getElem?_eq_getElem (by omega)]
  rfl
theorem growRow_at {n : Nat} {r : List Nat} {j : Nat} (hj : j < n - (lastOf r + 1)) : (growRow n r)[j]? = some (r ++ [lastOf r + 1 + j]) := by
  unfold growRow
  rw [List.getElem?_map, List.getElem?_range' hj]
  simp
theorem growRow_length (n : Nat) (r : List Nat) : (growRow n r).length = n - (lastOf r + 1) := by
  unfold growRow
  rw [List.length_map, List.length_range']
/-! ### the rows of places of so many, as choices_of makes them -/
def sttK (k : Nat) (r : List Nat) : Nat := if 0 < k then lastOf r + 1 else 0
def growK (n k : Nat) (r : List Nat) : List (List Nat) := (List.range' (sttK k r) (n - sttK k r)).map fun j => r ++ [j]
def nextK (n k : Nat) (rows : List (List Nat)) : List (List Nat) := rows.flatMap (growK n k)
def rowsK (n : Nat) : Nat → List (List Nat)
  | 0 => [[]]
  | k + 1 => nextK n k (rowsK n k)
/-- a row of k places, ascending as far as it matters -/
def RowK (n k : Nat) (r : List Nat) : Prop := (k = 0 ∧ r = []) ∨ ∃ k', k = k' + 1 ∧ RowOk n k' r
theorem RowK.len {n k : Nat} {r : List Nat} (h : RowK n k r) : r.length = k := by
  rcases h with ⟨rfl, rfl⟩ | ⟨k', rfl, o⟩
  · rfl
  · exact o.len
theorem RowK.lt {n k : Nat} {r : List Nat} (h : RowK n k r) : ∀ x ∈ r, x < n := by
  rcases h with ⟨rfl, rfl⟩ | ⟨k', rfl, o⟩
  · intro x hx
    cases hx
  · exact o.lt
theorem sttK_le {n k : Nat} {r : List Nat} (h : RowK n k r) : sttK k r ≤ n := by
  unfold sttK
  rcases h with ⟨rfl, rfl⟩ | ⟨k', rfl, o⟩
  · rw [if_neg (by omega)]
    exact Nat.zero_le _
  · rw [if_pos (by omega)]
    exact o.lt_last
theorem nextK_ok {n k : Nat} {rows : List (List Nat)} (h : ∀ r ∈ rows, RowK n k r) : ∀ r ∈ nextK n k rows, RowK n (k + 1) r := by
  intro r hr
  obtain ⟨r0, h0, hr⟩ := List.mem_flatMap.mp hr
  obtain ⟨j, hj, rfl⟩ := List.mem_map.mp hr
  obtain ⟨j1, j2⟩ := List.mem_range'_1.mp hj
  have o := h r0 h0
  have hs := sttK_le o
  refine .inr ⟨k, rfl, by rw [List.length_append, o.len]; rfl, fun x hx => ?_, ?_⟩
  · rcases List.mem_append.mp hx with hx | hx
    · exact o.lt x hx
    · rw [List.mem_singleton.mp hx]
      omega
  · rw [lastOf_snoc]
    rcases o with ⟨rfl, rfl⟩ | ⟨k', rfl, o⟩
    · exact Nat.zero_le _
    · have := o.last
      unfold sttK at j1
      rw [if_pos (by omega)] at j1
      omega
theorem rowsK_ok (n : Nat) : ∀ k, ∀ r ∈ rowsK n k, RowK n k r
  | 0 => fun r hr => .inl ⟨rfl, List.mem_singleton.mp hr⟩
  | k + 1 => nextK_ok (rowsK_ok n k)
theorem nextK_snoc {n k : Nat} {rows : List (List Nat)} {i : Nat} {r : List Nat} (h : rows[i]? = some r) : nextK n k (rows.take (i + 1)) = nextK n k (rows.take i) ++ growK n k r := by
  unfold nextK
  rw [take_succ h, List.flatMap_append, List.flatMap_cons, List.flatMap_nil, List.append_nil]
theorem growK_at {n k : Nat} {r : List Nat} {j : Nat} (hj : j < n - sttK k r) : (growK n k r)[j]? = some (r ++ [sttK k r + j]) := by
  unfold growK
  rw [List.getElem?_map, List.getElem?_range' hj]
  simp
theorem growK_length (n k : Nat) (r : List Nat) : (growK n k r).length = n - sttK k r := by
  unfold growK
  rw [List.length_map, List.length_range']
/-! how many there are -/
def potOf (n k : Nat) (rows : List (List Nat)) : Nat := (rows.map fun r => 2 ^ (n - sttK k r)).sum
theorem pot_range (n : Nat) : ∀ (m s : Nat), m + s = n → ((List.range' s m).map fun j => 2 ^ (n - (j + 1))).sum + 1 = 2 ^ m
  | 0, _, _ => rfl
  | m + 1, s, h => by
    have ih := pot_range n m (s + 1) (by omega)
    rw [List.range'_succ, List.map_cons, List.sum_cons, Nat.add_assoc, ih, show n - (s + 1) = m by omega, Nat.pow_succ]
    omega
theorem pot_grow {n k : Nat} {r : List Nat} (h : sttK k r ≤ n) : potOf n (k + 1) (growK n k r) + 1 = 2 ^ (n - sttK k r) := by
  unfold potOf growK
  rw [List.map_map]
  have e : (List.map ((fun r => 2 ^ (n - sttK (k + 1) r)) ∘ fun j => r ++ [j]) (List.range' (sttK k r) (n - sttK k r))) = ((List.range' (sttK k r) (n - sttK k r)).map fun j => 2 ^ (n - (j + 1))) := by
    apply List.map_congr_left
    intro j _
    show 2 ^ (n - sttK (k + 1) (r ++ [j])) = _
    unfold sttK
    rw [if_pos (by omega), lastOf_snoc]
  rw [e]
  exact pot_range n _ _ (by omega)
theorem pot_append (n k : Nat) (a b : List (List Nat)) : potOf n k (a ++ b) = potOf n k a + potOf n k b := by
  unfold potOf
  rw [List.map_append, List.sum_append]
theorem pot_next {n k : Nat} : ∀ {rows : List (List Nat)}, (∀ r ∈ rows, RowK n k r) → potOf n (k + 1) (nextK n k rows) ≤ potOf n k rows
  | [], _ => Nat.le_refl _
  | r :: t, h => by
    have ih := pot_next (rows := t) fun x hx => h x (List.mem_cons_of_mem _ hx)
    have g := pot_grow (sttK_le (h r List.mem_cons_self))
    have e : nextK n k (r :: t) = growK n k r ++ nextK n k t := List.flatMap_cons ..
    have e2 : potOf n k (r :: t) = 2 ^ (n - sttK k r) + potOf n k t := List.sum_cons ..
    rw [e, pot_append, e2]
    omega
theorem pot_rows (n : Nat) : ∀ k, potOf n k (rowsK n k) ≤ 2 ^ n
  | 0 => by
    show (2 ^ (n - sttK 0 []) + 0) ≤ _
    unfold sttK
    rw [if_neg (by omega)]
    exact Nat.le_refl _
  | k + 1 => Nat.le_trans (pot_next (rowsK_ok n k)) (pot_rows n k)
theorem len_pot (n k : Nat) : ∀ rows : List (List Nat), rows.length ≤ potOf n k rows
  | [] => Nat.zero_le _
  | r :: t => by
    have ih := len_pot n k t
    have e2 : potOf n k (r :: t) = 2 ^ (n - sttK k r) + potOf n k t := List.sum_cons ..
    have : 0 < 2 ^ (n - sttK k r) := Nat.pow_pos (by omega)
    rw [e2, List.length_cons]
    omega
theorem rowsK_len (n k : Nat) : (rowsK n k).length ≤ 2 ^ n := Nat.le_trans (len_pot n k _) (pot_rows n k)
theorem take_pot {n k : Nat} (rows : List (List Nat)) (i : Nat) : potOf n k (rows.take i) ≤ potOf n k rows := by
  have h := pot_append n k (rows.take i) (rows.drop i)
  rw [List.take_append_drop] at h
  omega
theorem nextK_take_len {n k : Nat} (i : Nat) : (nextK n k ((rowsK n k).take i)).length ≤ 2 ^ n :=
  Nat.le_trans (len_pot n (k + 1) _) (Nat.le_trans (pot_next fun r hr => rowsK_ok n k r (List.mem_of_mem_take hr)) (Nat.le_trans (take_pot _ i) (pot_rows n k)))
/-! all of them are the rows of all lots -/
theorem rowsK_one (n : Nat) : rowsK n 1 = firstRows n := by
  show nextK n 0 [[]] = _
  unfold nextK growK firstRows sttK
  rw [List.flatMap_cons, List.flatMap_nil, List.append_nil, if_neg (by omega), Nat.sub_zero, List.range_eq_range']
  rfl
theorem rowsK_two (n k : Nat) : rowsK n (k + 2) = nextRows n (rowsK n (k + 1)) := by
  show nextK n (k + 1) _ = _
  have e : growK n (k + 1) = growRow n := by
    funext r
    unfold growK growRow sttK
    rw [if_pos (by omega)]
  unfold nextK nextRows
  rw [e]
theorem rowsFrom_K (n : Nat) : ∀ f k, rowsFrom n f (rowsK n (k + 1)) = (List.range' (k + 1) f).flatMap (rowsK n)
  | 0, _ => rfl
  | f + 1, k => by
    show rowsK n (k + 1) ++ rowsFrom n f (nextRows n (rowsK n (k + 1))) = _
    rw [← rowsK_two, rowsFrom_K n f (k + 1), List.range'_succ, List.flatMap_cons]
theorem lotRows_K (n : Nat) : lotRows n = (List.range' 1 n).flatMap (rowsK n) := by
  unfold lotRows
  rw [← rowsK_one, rowsFrom_K]
theorem lotRows_few (n : Nat) : (lotRows n).length ≤ n * 2 ^ n := by
  rw [lotRows_K]
  have h := flatMap_len (f := rowsK n) (m := 2 ^ n) (l := List.range' 1 n) fun x _ => rowsK_len n x
  rw [List.length_range'] at h
  exact h
/-- rows that lie in range tell the choices of so many of the things, which lie in the heap -/
def subsOf (xs : List V) (rows : List (List Nat)) : List (List V) := rows.map fun r => r.map fun k => xs.getD k V.non
def spChoicesOf (K : PySem.W.Frag) : Sp := fun vs H Q _ => ∃ (a : Addr) (xs : List V) (m : Nat), vs = [.ref a, .int (m : Int)] ∧ (SqL K H a xs ∨ SqT K H a xs) ∧ xs.length ≤ 12 ∧ m ≤ 12 ∧
  ∀ (D : Addr) (ws : List V) (H' : Hp), H D = none → Same H H' → H' D = some (.lst ws) → Ats H' (fun l => l) ws (subsOf xs (rowsK xs.length m)) → Q (.ref D) H'
def spChoices (K : PySem.W.Frag) : Sp := fun vs H Q _ => ∃ (a : Addr) (xs : List V), vs = [.ref a] ∧ (SqL K H a xs ∨ SqT K H a xs) ∧ xs.length ≤ 12 ∧
  ∀ (D : Addr) (ws : List V) (H' : Hp), H D = none → Same H H' → H' D = some (.lst ws) → Ats H' (fun l => l) ws (subsOf xs (lotRows xs.length)) → Q (.ref D) H'
theorem subsOf_map {rows : List (List Nat)} (zs : List Str) (h : ∀ r ∈ rows, ∀ x ∈ r, x < zs.length) : subsOf (zs.map V.str) rows = (rows.map fun r => r.map fun k => zs.getD k Str.empty).map fun l => l.map V.str := by
  unfold subsOf
  rw [List.map_map]
  apply List.map_congr_left
  intro r hr
  show _ = (r.map fun k => zs.getD k Str.empty).map V.str
  rw [List.map_map]
  apply List.map_congr_left
  intro k hk
  have hkn := h r hr k hk
  show (zs.map V.str).getD k V.non = V.str (zs.getD k Str.empty)
  rw [List.getD_eq_getElem?_getD, List.getD_eq_getElem?_getD, List.getElem?_map, List.getElem?_eq_getElem hkn]
  rfl
theorem Ats.ofMap {α β : Type} {H : Hp} {g : β → List V} {f : α → β} {vs : List V} {xs : List α} (a : Ats H g vs (xs.map f)) : Ats H (fun x => g (f x)) vs xs := ⟨by rw [a.1, List.length_map], fun i v x h1 h2 => a.2 i v (f x) h1 (by rw [List.getElem?_map, h2]; rfl)⟩
/-- what choices tells of names are the lots -/
theorem lots_of_choices {H : Hp} {ws : List V} {zs : List Str} (a : Ats H (fun l => l) ws (subsOf (zs.map V.str) (lotRows (zs.map V.str).length))) : Ats H (fun l => l.map V.str) ws (lotsOf zs) := by
  rw [List.length_map, subsOf_map zs (fun r hr => (lotRows_ok r hr).choose_spec.lt)] at a
  exact a.ofMap
/-! ### the lots of a chain -/
def longRows (zs : List Str) (l : Nat) : List (List Str) := (List.range (zs.length - l)).map fun i => (zs.drop i).take (l + 1)
def chainLots (zs : List Str) : List (List Str) := (List.range zs.length).flatMap (longRows zs)
theorem longRows_len (zs : List Str) (l : Nat) : (longRows zs l).length = zs.length - l := by
  unfold longRows
  rw [List.length_map, List.length_range]
theorem longRows_at {zs : List Str} {l j : Nat} (h : j < zs.length - l) : (longRows zs l)[j]? = some ((zs.drop j).take (l + 1)) := by
  unfold longRows
  rw [List.getElem?_map, List.getElem?_range h]
  rfl
def spNeigh : Sp := fun vs H Q _ => ∃ (a : Addr) (zs : List Str), vs = [.ref a] ∧ H a = some (.tup (zs.map V.str)) ∧ zs.length ≤ 100 ∧
  ∀ (D : Addr) (ws : List V) (H' : Hp), H D = none → Same H H' → H' D = some (.lst ws) → Ats H' (fun l => l.map V.str) ws (chainLots zs) → Q (.ref D) H'
end Bk

namespace Bk
open PySem PySem.Spec PyProof.Rows L2
/-! ### an own error with one field -/
def spExcInit (C : Addr) (f : Str) : Sp := fun vs H Q _ => ∃ (a : Addr) (v : V), vs = [.ref a, v] ∧ H a = some (exo a C none) ∧ ∀ dx, H dx = none → dx ≠ a → Q .non (upd (upd H dx (exd dx [(f, v)])) a (exo a C (some dx)))
/-- what the top has written of the error's class C, whose __init__ stands at fI and stores f -/
structure ExT (K : PySem.W.Frag) (mg : Str → Option Value) (x : Str) (C fI : Addr) (f : Str) : Prop where
  g : mg x = some (.ref C)
  o : OexC K C
  xf : XfC K C
  noF : PySem.W.findIn K (.ref C) f = some none
  iC : PySem.W.findIn K (.ref C) "__init__" = some (some (.ref fI))
  tI : PySem.W.typeIn K (.ref fI) = some (.type "function")
  te : PySem.W.exmOne K (.ref C) (.ref C) = some true
/-- the heap behind the making of an error that carries v under f in its dict d -/
def ExcAt (H : Hp) (d : Addr) (f : Str) (v : V) (H' : Hp) : Prop := H d = none ∧ Same H H' ∧ H' d = some (.xd [(f, v)])
/-- raise C(e): the reading, made easy -/
theorem mkO_of {C : Addr} {f : Str} {ta : TA} {σ : L2.St} {H : Hp} {Q : XK} {v : V} {H1 : Hp} (ha : ∀ R : List V → Hp → Prop, R [v] H1 → ta σ H R) (h : ∀ d H', ExcAt H1 d f v H' → Q (.ref C) (some d) H') : tMkO C (spExcInit C f) [] ta σ H Q := by
  refine ha _ ⟨show 1 ≤ 1000 by decide, fun a na => ⟨a, v, rfl, upd_same, fun dx ndx hne => ⟨rfl, dx, [(f, v)], upd_same, ?_, ?_, ?_⟩⟩⟩
  · rw [upd_ne hne, upd_same]
  · rw [upd_ne hne] at ndx
    exact ndx
  · rw [upd_ne hne] at ndx
    refine h dx _ ⟨ndx, fun b o e => ?_, upd_same⟩
    have nb : b ≠ dx := ne_of_none e ndx
    have na' : b ≠ a := ne_of_none e na
    rw [upd_ne nb, del_ne na', upd_ne na', upd_ne nb, upd_ne na']
    exact e
/-! ### Folders as an object -/
def placesOf (ls : List (List Str)) : List (List Key × V) := ls.zipIdx.foldl (fun acc (p : List Str × Nat) => putK acc (p.1.map Sum.inr) (V.int (p.2 : Int))) []
theorem places_snoc {ls : List (List Str)} {i : Nat} {l : List Str} (h : ls[i]? = some l) : placesOf (ls.take (i + 1)) = putK (placesOf (ls.take i)) (l.map Sum.inr) (V.int (i : Int)) := by
  have hi := (List.getElem?_eq_some_iff.mp h).1
  unfold placesOf
  rw [take_succ h, List.zipIdx_append, List.foldl_append]
  have e : (ls.take i).length = i := by rw [List.length_take]; omega
  rw [e, Nat.zero_add]
  rfl
theorem places_len : ∀ ls : List (List Str), (placesOf ls).length ≤ ls.length := by
  intro ls
  have h : ∀ (l : List (List Str × Nat)) (acc : List (List Key × V)), (l.foldl (fun acc (p : List Str × Nat) => putK acc (p.1.map Sum.inr) (V.int (p.2 : Int))) acc).length ≤ acc.length + l.length := by
    intro l
    induction l with
    | nil => intro acc; exact Nat.le_refl _
    | cons x r ih =>
      intro acc
      have h1 := ih (putK acc (x.1.map Sum.inr) (V.int (x.2 : Int)))
      have h2 := length_putK acc (x.1.map Sum.inr) (V.int (x.2 : Int))
      show (r.foldl _ (putK acc (x.1.map Sum.inr) (V.int (x.2 : Int)))).length ≤ acc.length + (r.length + 1)
      omega
  have := h ls.zipIdx []
  rw [List.length_zipIdx] at this
  simpa [placesOf] using this
def foldersF (t pd : Addr) (ch : Bool) : List (Str × V) := [("names", .ref t), ("chain", .bl ch), ("places", .ref pd)]
def lotsFor (ch : Bool) (zs : List Str) : List (List Str) := if ch then chainLots zs else lotsOf zs
def mostFor (ch : Bool) : Nat := if ch then 12 else 5
/-- Folders of the names zs stand at x -/
def FoldersAt (C : Addr) (H : Hp) (x : Addr) (zs : List Str) (ch : Bool) : Prop := ∃ dx t pd, H x = some (.ins C dx (foldersF t pd ch)) ∧ H t = some (.tup (zs.map V.str)) ∧ H pd = some (.dT (placesOf (lotsFor ch zs)))
def spFolders (K : PySem.W.Frag) (C CB : Addr) : Sp := fun vs H Q E => ∃ (x dx : Addr) (nm : V) (o : Option (List V)) (ch : Bool), vs = [.ref x, nm, .bl ch] ∧ H x = some (.ins C dx []) ∧ Thing K H nm o ∧
  (∀ i d H', wrongOf o (mostFor ch) = some i → ExcAt H d "index" (.int (i : Int)) H' → E (.ref CB) (some d) H') ∧
  (∀ zs H', wrongOf o (mostFor ch) = none → o = some (zs.map V.str) → zs.Nodup → FoldersAt C H' x zs ch → (∀ b u, b ≠ x → H b = some u → H' b = some u) → Q .non H')
structure FolT (K : PySem.W.Frag) (mg : Str → Option Value) (C fI : Addr) : Prop where
  g : mg "Folders" = some (.ref C)
  cl : Cls K C
  nN : NoAttr K C "names"
  nC : NoAttr K C "chain"
  nP : NoAttr K C "places"
  make : Mk K C fI
theorem put1 (v : V) : putF "names" v [] = ([("names", v)] : List (Str × V)) := rfl
theorem put2 (v c : V) : putF "chain" c ([("names", v)] : List (Str × V)) = ([("names", v), ("chain", c)] : List (Str × V)) := by
  have h : ¬ (("names" : Str) = "chain") := by decide +kernel
  simp [putF, h]
theorem put3 (v c p : V) : putF "places" p ([("names", v), ("chain", c)] : List (Str × V)) = ([("names", v), ("chain", c), ("places", p)] : List (Str × V)) := by
  have h : ¬ (("names" : Str) = "places") := by decide +kernel
  have h2 : ¬ (("chain" : Str) = "places") := by decide +kernel
  simp [putF, h, h2]
theorem look_n2 (t : Addr) (c : V) : List.lookup ("names" : Str) ([("names", .ref t), ("chain", c)] : List (Str × V)) = some (.ref t) := by
  simp [List.lookup]
theorem look_names (t pd : Addr) (ch : Bool) : (foldersF t pd ch).lookup ("names" : Str) = some (.ref t) := by
  show List.lookup ("names" : Str) [(("names" : Str), V.ref t), ("chain", .bl ch), ("places", .ref pd)] = _
  simp [List.lookup]
/-- all but the object at x stays -/
def But (x : Addr) (H H' : Hp) : Prop := ∀ b u, b ≠ x → H b = some u → H' b = some u
theorem But.trans {x : Addr} {H H1 H2 : Hp} (a : But x H H1) (b : But x H1 H2) : But x H H2 := fun c u n e => b c u n (a c u n e)
theorem But.same {x : Addr} {H H' : Hp} (a : Same H H') : But x H H' := fun c u _ e => a c u e
theorem But.upd {x : Addr} {H : Hp} {o : HO} : But x H (L2.upd H x o) := fun c u n e => by rw [upd_ne n]; exact e
theorem rows_few : ∀ n, n < 6 → (lotRows n).length ≤ 31 := by decide +kernel
theorem lots_few {ch : Bool} {zs : List Str} (h : zs.length ≤ mostFor ch) : (lotsFor ch zs).length ≤ 2000 := by
  cases ch with
  | true =>
    have h : zs.length ≤ 12 := h
    have := flatMap_len (f := longRows zs) (m := 100) (l := List.range zs.length) fun x _ => by rw [longRows_len]; omega
    rw [List.length_range] at this
    show (chainLots zs).length ≤ 2000
    unfold chainLots
    omega
  | false =>
    have h : zs.length ≤ 5 := h
    have := rows_few zs.length (by omega)
    show (lotsOf zs).length ≤ 2000
    unfold lotsOf
    rw [List.length_map]
    omega
end Bk

namespace Bk
open PySem PySem.Spec PyProof.Rows L2
section
variable {K : PySem.W.Frag} {H H' : Hp}
/-! ### data: None, truth values, ints, texts, lists and tuples of these -/
mutual
theorem Dp.sm (e : Same H H') : ∀ (d : PyData) (v : V), Dp K H v d → Dp K H' v d
  | _, _, .non => .non
  | _, _, .bl b => .bl b
  | _, _, .int i => .int i
  | _, _, .str x => .str x
  | .list ds, _, .lst h a => .lst (e.seq h) (DpAll.sm e ds _ a)
  | .tuple ds, _, .tup h a => .tup (Same.sqt e h) (DpAll.sm e ds _ a)
theorem DpAll.sm (e : Same H H') : ∀ (ds : List PyData) (vs : List V), DpAll K H vs ds → DpAll K H' vs ds
  | [], _, .nil => .nil
  | d :: ds, _, .cons a r => .cons (Dp.sm e d _ a) (DpAll.sm e ds _ r)
end
theorem DpAll.len : ∀ {vs : List V} {ds : List PyData}, DpAll K H vs ds → vs.length = ds.length
  | _, _, .nil => rfl
  | _, _, .cons _ r => congrArg (· + 1) (DpAll.len r)
theorem DpAll.get : ∀ {vs : List V} {ds : List PyData}, DpAll K H vs ds → ∀ {i : Nat} {v : V}, vs[i]? = some v → ∃ d, ds[i]? = some d ∧ Dp K H v d
  | _, _, .nil, i, v, h => by simp at h
  | _, _, .cons a r, 0, v, h => by
    cases h
    exact ⟨_, rfl, a⟩
  | _, _, .cons a r, i + 1, v, h => DpAll.get r (by simpa using h)
theorem tyx_l {a : Addr} {xs : List V} (h : SqL K H a xs) : TyX K H (.ref a) (.type "list") := by
  rcases h with (h | ⟨o, h⟩) | ⟨o, its, n, h, c, _⟩
  · exact .base (.lst h)
  · exact .base (.frz h)
  · exact .kList h c
theorem tyx_t {a : Addr} {xs : List V} (h : SqT K H a xs) : TyX K H (.ref a) (.type "tuple") := by
  rcases h with (h | ⟨o, h⟩) | ⟨o, its, n, h, c, _⟩
  · exact .base (.tup h)
  · exact .fTuple h
  · exact .kTuple h c
/-- the kind of a piece of data -/
def kindD : PyData → String
  | .none => "NoneType"
  | .bool _ => "bool"
  | .int _ => "int"
  | .str _ => "str"
  | .list _ => "list"
  | .tuple _ => "tuple"
  | .dict _ => "dict"
theorem tyx_d {v : V} {d : PyData} (h : Dp K H v d) : TyX K H v (.type (kindD d)) := by
  cases h with
  | non => exact .base .non
  | bl b => exact .base (.bl b)
  | int i => exact .base (.int i)
  | str x => exact .base (.str x)
  | lst h _ => exact tyx_l h
  | tup h _ => exact tyx_t h
theorem depth_mem : ∀ {ds : List PyData} {d : PyData}, d ∈ ds → d.depth ≤ PyData.depthAll ds
  | x :: r, d, h => by
    have e : PyData.depthAll (x :: r) = max (PyData.depth x) (PyData.depthAll r) := by simp [PyData.depthAll]
    rw [e]
    rcases List.mem_cons.mp h with rfl | h
    · exact Nat.le_max_left _ _
    · exact Nat.le_trans (depth_mem h) (Nat.le_max_right _ _)
mutual
/-- the greatest length of a list or tuple within -/
def wide : PyData → Nat
  | .list xs => max xs.length (wideAll xs)
  | .tuple xs => max xs.length (wideAll xs)
  | _ => 0
def wideAll : List PyData → Nat
  | [] => 0
  | x :: r => max (wide x) (wideAll r)
end
theorem wide_mem : ∀ {ds : List PyData} {d : PyData}, d ∈ ds → wide d ≤ wideAll ds
  | x :: r, d, h => by
    have e : wideAll (x :: r) = max (wide x) (wideAll r) := by simp [wideAll]
    rw [e]
    rcases List.mem_cons.mp h with rfl | h
    · exact Nat.le_max_left _ _
    · exact Nat.le_trans (wide_mem h) (Nat.le_max_right _ _)
/-- both read as one piece of data: they are the same -/
def spSame (K : PySem.W.Frag) : Nat → Sp
  | 0 => fun _ _ _ _ => False
  | n + 1 => fun vs H Q _ => ∃ (x y : V) (d : PyData), vs = [x, y] ∧ Dp K H x d ∧ Dp K H y d ∧ d.depth ≤ n ∧ wide d ≤ 90000 ∧ ∀ H', Same H H' → Q (.bl true) H'
end
section
variable {P : Program} {w : World} {K : PySem.W.Frag} {mg : Str → Option Value} {base : Heap}
theorem ok_never {CX : CXT} {k : Nat} {f : Addr} {fd : FuncData} {ps : List Str} : FnOk P w K mg base CX k f fd ps (fun _ _ _ _ => False) := ⟨fun _ _ _ _ z => z.elim, fun _ _ _ _ _ _ _ _ _ _ _ _ _ z => z.elim⟩
end
section
variable {K : PySem.W.Frag}
theorem walk_zipT {a b : Addr} {xs ys : List V} {n : Nat} (hn : n = min xs.length ys.length) : Walk (RZ.ItzT K a b) n (fun H => SqT K H a xs ∧ SqT K H b ys) (YPair (fun i => xs[i]?) (fun i => ys[i]?)) := by
  subst hn
  refine ⟨fun i _ hi q => ?_, fun _ q => ⟨xs, ys, q.1, q.2, by omega⟩, fun i H v H' _ q y => ?_⟩
  · have h1 : i < xs.length := by omega
    have h2 : i < ys.length := by omega
    exact ⟨xs, ys, xs[i], ys[i], q.1, q.2, by simp [h1], by simp [h2]⟩
  · obtain ⟨T, x, z, h1, h2, h3, h4, h5⟩ := y
    exact ⟨T, x, z, h1, h2, h3, h4 xs q.1, h5 ys q.2⟩
/-- a comprehension over zip(x, y), x and y both lists or both tuples of one length -/
theorem lcZ {i j : Nat} {a b : Addr} {xs ys : List V} {g : TG} {tt : TT} {te : TE} {vs : List Nat} {σ : L2.St} {H : Hp} {Q : VK} (hv1 : σ[i]? = some (some (.ref a))) (hv2 : σ[j]? = some (some (.ref b)))
    (hS : (SqL K H a xs ∧ SqL K H b ys) ∨ (SqT K H a xs ∧ SqT K H b ys)) (hl : xs.length = ys.length)
    (h : ∀ D, H D = none → ∃ Pv : Nat → Hp → Prop, Pv 0 (upd H D (.lst [])) ∧ (∀ k H', Pv k H' → Same H H') ∧
      (∀ k v H' H2, k < xs.length → Pv k H' → YPair (fun i => xs[i]?) (fun i => ys[i]?) k H' v H2 → g v (wipe σ vs) H2 fun σ2 H3 => wipe σ2 vs = wipe σ vs ∧ tt σ2 H3 fun b H4 =>
        if b = true then te σ2 H4 fun y H5 => ∃ acc, H5 D = some (.lst acc) ∧ acc.length < sizeLine ∧ Pv (k + 1) (upd H5 D (.lst (acc ++ [y]))) else Pv (k + 1) H4) ∧
      ∀ H', Pv xs.length H' → Q (.ref D) H') : tLc (RZ.iZipA K (tCons (tVar i) (tCons (tVar j) tNil))) g tt te vs σ H Q := by
  have hm : xs.length = min xs.length ys.length := by omega
  refine ⟨_, hv1, _, hv2, a, b, xs, ys, rfl, ?_⟩
  rcases hS with ⟨h1, h2⟩ | ⟨h1, h2⟩
  · refine .inl ⟨h1, h2, fun D nD => ?_⟩
    obtain ⟨Pv, p0, ps, pt, pd⟩ := h D nD
    exact lc_it (walk_zip hm) Pv p0 (fun k H' _ p => ⟨(ps k H' p).seq h1, (ps k H' p).seq h2⟩) pt pd
  · refine .inr ⟨h1, h2, fun D nD => ?_⟩
    obtain ⟨Pv, p0, ps, pt, pd⟩ := h D nD
    exact lc_it (walk_zipT hm) Pv p0 (fun k H' _ p => ⟨Same.sqt (ps k H' p) h1, Same.sqt (ps k H' p) h2⟩) pt pd
end
section
variable {K : PySem.W.Frag} {H : Hp} {σ : L2.St} {i : Nat} {v : V} {R : VK}
theorem isi1 {c : String} {t : Value} {k : Bool} (hv : σ[i]? = some (some v)) (tv : TyX K H v t) (hk : PySem.W.kitOne K t (.type c) = some k) (r : R (.bl k) H) : tCB (rIsi K) (tCons (tVar i) (tCons (tC (.ty c)) tNil)) σ H R :=
  ⟨_, hv, v, _, t, _, k, rfl, .ty c, tv, hk, r⟩
theorem isi2 {c1 c2 : String} {t : Value} {k : Bool} (hv : σ[i]? = some (some v)) (tv : TyX K H v t) (hk : PySem.W.kitAny K t [.type c1, .type c2] = some k) (r : ∀ H1, Same H H1 → R (.bl k) H1) :
    tCB (rIsiT K) (tCons (tVar i) (tCons (tTup (tCons (tC (.ty c1)) (tCons (tC (.ty c2)) tNil))) tNil)) σ H R :=
  ⟨_, hv, by show 2 ≤ sizeLine; decide, fun p np => ⟨v, p, _, t, _, k, rfl, upd_same, .cons (.ty c1) (.cons (.ty c2) .nil), TyX.same tv (same_upd np), hk, r _ (same_upd np)⟩⟩
theorem isi3 {c1 c2 c3 : String} {t : Value} {k : Bool} (hv : σ[i]? = some (some v)) (tv : TyX K H v t) (hk : PySem.W.kitAny K t [.type c1, .type c2, .type c3] = some k) (r : ∀ H1, Same H H1 → R (.bl k) H1) :
    tCB (rIsiT K) (tCons (tVar i) (tCons (tTup (tCons (tC (.ty c1)) (tCons (tC (.ty c2)) (tCons (tC (.ty c3)) tNil)))) tNil)) σ H R :=
  ⟨_, hv, by show 3 ≤ sizeLine; decide, fun p np => ⟨v, p, _, t, _, k, rfl, upd_same, .cons (.ty c1) (.cons (.ty c2) (.cons (.ty c3) .nil)), TyX.same tv (same_upd np), hk, r _ (same_upd np)⟩⟩
theorem kit2 {k c1 c2 : String} {b1 b2 : Bool} (h1 : kitB k c1 = some b1) (h2 : kitB k c2 = some b2) : PySem.W.kitAny K (.type k) [.type c1, .type c2] = some (b1 || b2) := by
  refine kitAny_cons (kit_ty h1) (fun e => ?_) (fun e => by rw [e]; rfl)
  rw [e, Bool.false_or]
  exact kitAny_cons (kit_ty h2) (fun e => by rw [e]; exact kitAny_nil) (fun e => e)
theorem kit3 {k c1 c2 c3 : String} {b1 b2 b3 : Bool} (h1 : kitB k c1 = some b1) (h2 : kitB k c2 = some b2) (h3 : kitB k c3 = some b3) : PySem.W.kitAny K (.type k) [.type c1, .type c2, .type c3] = some (b1 || (b2 || b3)) := by
  refine kitAny_cons (kit_ty h1) (fun e => ?_) (fun e => by rw [e]; rfl)
  rw [e, Bool.false_or]
  exact kit2 h2 h3
end
def isL : PyData → Bool
  | .list _ => true
  | _ => false
theorem kd_L : ∀ d : PyData, kitB (kindD d) "list" = some (isL d)
  | .none => (by decide +kernel : kitB "NoneType" "list" = some false)
  | .bool _ => (by decide +kernel : kitB "bool" "list" = some false)
  | .int _ => (by decide +kernel : kitB "int" "list" = some false)
  | .str _ => (by decide +kernel : kitB "str" "list" = some false)
  | .list _ => (by decide +kernel : kitB "list" "list" = some true)
  | .tuple _ => (by decide +kernel : kitB "tuple" "list" = some false)
  | .dict _ => (by decide +kernel : kitB "dict" "list" = some false)
def isT : PyData → Bool
  | .tuple _ => true
  | _ => false
theorem kd_T : ∀ d : PyData, kitB (kindD d) "tuple" = some (isT d)
  | .none => (by decide +kernel : kitB "NoneType" "tuple" = some false)
  | .bool _ => (by decide +kernel : kitB "bool" "tuple" = some false)
  | .int _ => (by decide +kernel : kitB "int" "tuple" = some false)
  | .str _ => (by decide +kernel : kitB "str" "tuple" = some false)
  | .list _ => (by decide +kernel : kitB "list" "tuple" = some false)
  | .tuple _ => (by decide +kernel : kitB "tuple" "tuple" = some true)
  | .dict _ => (by decide +kernel : kitB "dict" "tuple" = some false)
def isI : PyData → Bool
  | .bool _ => true
  | .int _ => true
  | _ => false
theorem kd_I : ∀ d : PyData, kitB (kindD d) "int" = some (isI d)
  | .none => (by decide +kernel : kitB "NoneType" "int" = some false)
  | .bool _ => (by decide +kernel : kitB "bool" "int" = some true)
  | .int _ => (by decide +kernel : kitB "int" "int" = some true)
  | .str _ => (by decide +kernel : kitB "str" "int" = some false)
  | .list _ => (by decide +kernel : kitB "list" "int" = some false)
  | .tuple _ => (by decide +kernel : kitB "tuple" "int" = some false)
  | .dict _ => (by decide +kernel : kitB "dict" "int" = some false)
def isB : PyData → Bool
  | .bool _ => true
  | _ => false
theorem kd_B : ∀ d : PyData, kitB (kindD d) "bool" = some (isB d)
  | .none => (by decide +kernel : kitB "NoneType" "bool" = some false)
  | .bool _ => (by decide +kernel : kitB "bool" "bool" = some true)
  | .int _ => (by decide +kernel : kitB "int" "bool" = some false)
  | .str _ => (by decide +kernel : kitB "str" "bool" = some false)
  | .list _ => (by decide +kernel : kitB "list" "bool" = some false)
  | .tuple _ => (by decide +kernel : kitB "tuple" "bool" = some false)
  | .dict _ => (by decide +kernel : kitB "dict" "bool" = some false)
theorem flat_eq {K : PySem.W.Frag} {H : Hp} {x y : V} {d : PyData} (hx : Dp K H x d) (hy : Dp K H y d) (h : (isL d || isT d) = false) : x = y ∧ scal x y = true := by
  cases hx <;> cases hy <;> first | exact ⟨rfl, rfl⟩ | cases h
theorem cb1 {r : List V → Hp → VK → Prop} {te : TE} {σ : L2.St} {H : Hp} {R : VK} (h : te σ H fun x H1 => r [x] H1 R) : tCB r (tCons te tNil) σ H R := h
theorem lt_one (a b : Nat) : decide (([a] : List Nat) < [b]) = decide (a < b) := by
  by_cases h : a < b
  · rw [decide_eq_true h]
    exact decide_eq_true (List.cons_lt_cons_iff.mpr (.inl h))
  · rw [decide_eq_false h]
    refine decide_eq_false fun z => ?_
    rcases List.cons_lt_cons_iff.mp z with z | ⟨_, z⟩
    · exact h z
    · exact absurd z (by simp)
theorem filter_all {α : Type} {p : α → Bool} : ∀ {l : List α}, (l.filter p).length = l.length ↔ l.all p = true
  | [] => by simp
  | x :: r => by
    have ih := filter_all (p := p) (l := r)
    have hle := List.length_filter_le p r
    cases h : p x with
    | true =>
      rw [List.filter_cons_of_pos h, List.all_cons, h, Bool.true_and, List.length_cons, List.length_cons, ← ih]
      omega
    | false =>
      rw [List.filter_cons_of_neg (by rw [h]; exact Bool.false_ne_true), List.all_cons, h, Bool.false_and, List.length_cons]
      constructor
      · intro e
        omega
      · intro e
        cases e
/-- the law's own look at a name -/
theorem name_by_letters {z : Str} {n : Nat} (h : n = (z.cps.toList.filter fun c => decide (c ∈ lettersL)).length) : isNameS z = (decide (0 < n) && decide (n < 9) && decide (n = z.length)) := by
  have e : z.length = z.cps.toList.length := by simp [Str.length]
  unfold isNameS
  by_cases ha : (z.cps.toList.all fun c => decide (c ∈ lettersL)) = true
  · have hn := filter_all.mpr ha
    rw [ha, Bool.and_true, e, h, hn]
    rw [decide_eq_true (rfl : z.cps.toList.length = z.cps.toList.length), Bool.and_true, decide_eq_decide.mpr (show 1 ≤ z.cps.toList.length ↔ 0 < z.cps.toList.length by omega), decide_eq_decide.mpr (show z.cps.toList.length ≤ 8 ↔ z.cps.toList.length < 9 by omega)]
  · have hn : ¬ n = z.length := fun q => ha (filter_all.mp (by rw [← h, q, e]))
    rw [decide_eq_false hn, Bool.and_false]
    have : (z.cps.toList.all fun c => decide (c ∈ lettersL)) = false := by
      cases q : z.cps.toList.all fun c => decide (c ∈ lettersL) with
      | true => exact absurd q ha
      | false => rfl
    rw [this, Bool.and_false]
end Bk

namespace Bk
open PySem PySem.Spec PyProof.Rows L2
section
variable {X : Cx} {CX : CXT} {k n : Nat} {f C : Addr} {fd : FuncData} {ps ks : List Str} {sp : Sp} {E : L2.St → XK} {x : Str} {p pos : Pos} {e : Expr} {es : List Expr} {kws : List Keyword} {t tk : TA} {g : List Value → List Value → List Value} {gV : List V → List V → List V}
/-- C(.., k = v, ..) within a try: what the making raises is wished for at the slots as they stand -/
def tMakeKS (C : Addr) (n m : Nat) (sp : Sp) (gV : List V → List V → List V) (E : L2.St → XK) (t tk : TA) : TE := fun σ H Q => t σ H fun vs H1 => tk σ H1 fun zs H2 => vs.length = n ∧ zs.length = m ∧ ∀ y dx, H2 y = none → H2 dx = none → dx ≠ y →
  sp (gV (.ref y :: vs) zs) (upd (upd H2 dx (.own y)) y (.ins C dx [])) (fun v H3 => v = .non ∧ Q (.ref y) H3) (E σ)
theorem pe_makeKS (M : Mk X.K C f) (F : FnOk X.prog X.w X.K X.mg X.base CX k f fd ps sp) (hr : Room (k + 1) X.A) (hg : Gl X x) (hm : X.mg x = some (.ref C)) (hb : KBn X.K fd ps (n + 1) ks g gV) (hx : ∀ σ, PassesAt CX X σ (E σ)) (ha : PA X (e :: es) t) (hkw : PK X kws tk)
    (hall : (backToKw pos (keywordEach kws X.env)).all (·.1.isSome) = true := by rfl) (hks : (backToKw pos (keywordEach kws X.env)).filterMap (·.1) = ks := by rfl) (hdb : (x == ("__debug__" : Str)) = false := by decide)
    (he : starEach (e :: es) X.env = (false, eval e X.env) :: starEach es X.env := by rfl) (hpl : ((backTo pos (starEach (e :: es) X.env)).any (·.1) || (backToKw pos (keywordEach kws X.env)).any (·.1.isNone)) = false := by rfl) :
    PE X (.Call (.Name x p) (e :: es) kws pos) (tMakeKS C n ks.length sp gV E t tk) := by
  refine ⟨fun pins s σ H Q I h => wpAny_Call_Name_kw (ld_glob I hg hm ?_ hdb)⟩
  refine PySem.W.callWith_KW (h₀ := X.base) I.ok.mod.kin M.kp hall (thn (ha.run pos pins s σ H _ I h) fun us s1 ⟨vs, H1, I1, r, q⟩ => ?_) hpl he
  refine thn (hkw.run pos pins s1 σ H1 _ I1 q) fun ws s2 ⟨zs, H2, I2, rz, l1, l2, q2⟩ => ⟨I2.kIn, ?_⟩
  rw [hks]
  have hq := q2 (s2.heap.objs.size + 1) s2.heap.objs.size (I2.hok.fresh (Nat.le_succ _)) (I2.hok.fresh (Nat.le_refl _)) (Nat.ne_of_lt (Nat.lt_succ_self _))
  have J := Inv.made (C := C) I2
  have rel : Vals (V.ref (s2.heap.objs.size + 1) :: vs) (Value.ref (s2.heap.objs.size + 1) :: us) := .cons rfl r
  have len1 : (Value.ref (s2.heap.objs.size + 1) :: us).length = n + 1 := by rw [List.length_cons, ← r.length, l1]
  refine wpAny_call (make_map (f := f) I2.kIn M.makes M.init (beq_iff_eq.mp M.fn) (codeAny_mono (F.run _ X.stack _ _ ⟨_, ks.zip ws⟩ _ _ _ (E σ) (hr.make C us (ks.zip ws)) (J.env0.make C us (ks.zip ws)) (hb.to _ _ ws J.kIn len1 (rz.length.symm.trans l2)) (hb.rel rel rz) hq) fun r s' hq' => ?_))
  cases r with
  | error er => exact hx σ pins _ _ er s' J hq'
  | ok fl =>
    cases fl with
    | ret u =>
      obtain ⟨v, H', J3, rv, ev, q3⟩ := J.after hq'
      subst ev
      exact ⟨rv, ⟨V.ref (s2.heap.objs.size + 1), H', J3, rfl, q3⟩⟩
    | next => exact hq'.elim
    | brk => exact hq'.elim
    | cont => exact hq'.elim
theorem kFld (K : PySem.W.Frag) {ta : TE} {fl : Str} (he : PE X e ta) (hk : X.K = K := by rfl) (hb : attributeBase e fl X.env (eval e X.env) = eval e X.env := by rfl) : PE X (.Attribute e fl pos) (tFld K ta fl) := hk ▸ pe_fld he hb
end
end Bk

namespace Bk
open PySem PySem.Spec PyProof.Rows L2
section
variable {K : PySem.W.Frag} {H H' : Hp} {st c : Addr}
theorem TyX.keep {x : V} {t : Value} (h : TyX K H x t) (e : ∀ p o, x = .ref p → H p = some o → H' p = some o) : TyX K H' x t := by
  cases h with
  | base b =>
    cases b with
    | non => exact .base .non
    | bl y => exact .base (.bl y)
    | int i => exact .base (.int i)
    | str y => exact .base (.str y)
    | flt y => exact .base (.flt y)
    | lst q => exact .base (.lst (e _ _ rfl q))
    | frz q => exact .base (.frz (e _ _ rfl q))
    | tup q => exact .base (.tup (e _ _ rfl q))
    | dK q => exact .base (.dK (e _ _ rfl q))
    | dT q => exact .base (.dT (e _ _ rfl q))
    | ins q c1 c2 c3 c4 c5 => exact .base (.ins (e _ _ rfl q) c1 c2 c3 c4 c5)
  | byt b => exact .byt b
  | set q => exact .set (e _ _ rfl q)
  | kList q c => exact .kList q c
  | kTuple q c => exact .kTuple q c
  | kDict q c => exact .kDict q c
  | fTuple q => exact .fTuple (e _ _ rfl q)
  | fDict q => exact .fDict (e _ _ rfl q)
theorem sql_keep {a : Addr} {xs : List V} (h : SqL K H a xs) (e : ∀ o, H a = some o → H' a = some o) : SqL K H' a xs := by
  rcases h with (h | ⟨o, h⟩) | h
  · exact .inl (.inl (e _ h))
  · exact .inl (.inr ⟨o, e _ h⟩)
  · exact .inr h
theorem fcons {p : V → Prop} {x : V} {l : List V} (h : p x) (r : ∀ y ∈ l, p y) : ∀ y ∈ x :: l, p y := fun y m => by
  rcases List.mem_cons.mp m with rfl | m
  · exact h
  · exact r y m
/-- not the stream's own objects -/
def Off (st c : Addr) (x : V) : Prop := ∀ p, x = .ref p → p ≠ st ∧ p ≠ c
theorem Off.ref {p : Addr} (h1 : p ≠ st) (h2 : p ≠ c) : Off st c (.ref p) := fun q e => by cases e; exact ⟨h1, h2⟩
theorem Off.flat {x : V} (h : flatV x = true) : Off st c x := fun q e => by subst e; cases h
def Far (K : PySem.W.Frag) (H : Hp) (st c : Addr) (x : V) : Prop := Itm K H x ∧ Off st c x
theorem Far.kept {x : V} (h : Far K H st c x) (k : Kept st c H H') : Far K H' st c x := by
  obtain ⟨⟨t, a, b⟩, o⟩ := h
  exact ⟨⟨t, TyX.keep a fun p u e q => k p u (o p e).1 (o p e).2 q, b⟩, o⟩
theorem Far.str {z : Str} (h : z.length ≤ 100000) : Far K H st c (.str z) := ⟨.str h, Off.flat rfl⟩
theorem itm_kit {x : V} {k : String} (t : TyX K H x (.type k)) (h : kitB k "str" = some false) (hs : isStr x = false) : Itm K H x := ⟨_, t, by rw [hs]; exact kit_ty h, fun z e => by subst e; cases hs⟩
theorem sqs_kit {x : V} {k : String} {b1 b2 : Bool} (t : TyX K H x (.type k)) (h1 : kitB k "list" = some b1) (h2 : kitB k "tuple" = some b2) : Sqs K H x (b1 || b2) := ⟨_, t, kit2 h1 h2⟩
/-- a thing of any objects, none of them the stream's -/
def ThF (K : PySem.W.Frag) (H : Hp) (st c : Addr) (x : V) (o : Option (List V)) : Prop := Thing K H x o ∧ Off st c x ∧ ∀ xs, o = some xs → ∀ y ∈ xs, Far K H st c y
theorem ThF.kept {x : V} {o : Option (List V)} (h : ThF K H st c x o) (k : Kept st c H H') : ThF K H' st c x o := by
  obtain ⟨T, off, hy⟩ := h
  refine ⟨?_, off, fun xs e y m => (hy xs e y m).kept k⟩
  have sq : ∀ {b : Bool}, Sqs K H x b → Sqs K H' x b := fun ⟨t, a, b⟩ => ⟨t, TyX.keep a fun p u e q => k p u (off p e).1 (off p e).2 q, b⟩
  cases T with
  | @seq a xs hS b hi hl =>
    have ka : ∀ o, H a = some o → H' a = some o := fun o q => k a o (off a rfl).1 (off a rfl).2 q
    exact .seq (hS.imp (fun z => sql_keep z ka) fun z => ka _ z) (sq b) (fun y m => ((hy xs rfl y m).kept k).1) hl
  | no b => exact .no (sq b)
theorem thf_lst {a : Addr} {xs : List V} (h : H a = some (.lst xs)) (h1 : a ≠ st) (h2 : a ≠ c) (hl : xs.length ≤ 100000) (hy : ∀ y ∈ xs, Far K H st c y) : ThF K H st c (.ref a) (some xs) :=
  ⟨.seq (.inl (SqL.of h)) (sqs_kit (k := "list") (b1 := true) (b2 := false) (.base (.lst h)) (by decide +kernel) (by decide +kernel)) (fun y m => (hy y m).1) hl, Off.ref h1 h2, fun ys e y m => by cases e; exact hy y m⟩
theorem thf_tup {a : Addr} {xs : List V} (h : H a = some (.tup xs)) (h1 : a ≠ st) (h2 : a ≠ c) (hl : xs.length ≤ 100000) (hy : ∀ y ∈ xs, Far K H st c y) : ThF K H st c (.ref a) (some xs) :=
  ⟨.seq (.inr h) (sqs_kit (k := "tuple") (b1 := false) (b2 := true) (.base (.tup h)) (by decide +kernel) (by decide +kernel)) (fun y m => (hy y m).1) hl, Off.ref h1 h2, fun ys e y m => by cases e; exact hy y m⟩
theorem thf_no {x : V} {k : String} (t : TyX K H x (.type k)) (h1 : kitB k "list" = some false) (h2 : kitB k "tuple" = some false) (o : Off st c x) : ThF K H st c x none := ⟨.no (sqs_kit t h1 h2), o, fun _ e => by cases e⟩
/-- what a turn of the law starts from: the stream and the list of odd things -/
structure Ground (K : PySem.W.Frag) (H : Hp) (st c od : Addr) (n : Nat) : Prop where
  S : Strm H st c n
  n1 : od ≠ st
  n2 : od ≠ c
  odd : ∃ xs, H od = some (.lst xs) ∧ xs.length = 14 ∧ ∀ x ∈ xs, Far K H st c x
theorem Ground.kept {od : Addr} {n n' : Nat} (G : Ground K H st c od n) (S : Strm H' st c n') (k : Kept st c H H') : Ground K H' st c od n' := by
  obtain ⟨xs, h1, h2, h3⟩ := G.odd
  exact ⟨S, G.n1, G.n2, xs, k _ _ G.n1 G.n2 h1, h2, fun x m => (h3 x m).kept k⟩
theorem pk_lst {a : Addr} {xs : List V} (h : SqL K H a xs) (n1 : a ≠ st) (n2 : a ≠ c) : Pk K H st c (.ref a) xs.length (fun j => xs.getD j .non) :=
  .lst h n1 n2 fun j hj => by rw [List.getD_eq_getElem?_getD, List.getElem?_eq_getElem hj]; rfl
theorem getD_mem {xs : List V} {j : Nat} (h : j < xs.length) : xs.getD j .non ∈ xs := by
  rw [List.getD_eq_getElem?_getD, List.getElem?_eq_getElem h]
  exact List.getElem_mem h
/-! ### the answers as data -/
theorem dp_strs : ∀ zs : List Str, DpAll K H (zs.map V.str) (zs.map PyData.str)
  | [] => .nil
  | x :: r => .cons (.str x) (dp_strs r)
theorem depth_strs : ∀ zs : List Str, PyData.depthAll (zs.map PyData.str) = 0
  | [] => by simp [PyData.depthAll]
  | x :: r => by
    have := depth_strs r
    simp [PyData.depthAll, PyData.depth, this]
theorem wide_strs : ∀ zs : List Str, wideAll (zs.map PyData.str) = 0
  | [] => by simp [wideAll]
  | x :: r => by
    have := wide_strs r
    simp [wideAll, wide, this]
def dMade (zs : List Str) : PyData := .tuple [.str (Str.ofString "made"), .tuple (zs.map PyData.str)]
def dBad (i : Nat) : PyData := .tuple [.str (Str.ofString "bad"), .int (i : Int)]
theorem dp_made {p t : Addr} {zs : List Str} (hp : H p = some (.tup [.str (Str.ofString "made"), .ref t])) (ht : SqT K H t (zs.map V.str)) : Dp K H (.ref p) (dMade zs) := .tup (SqT.of hp) (.cons (.str _) (.cons (.tup ht (dp_strs zs)) .nil))
theorem dp_bad {p : Addr} {i : Nat} (hp : H p = some (.tup [.str (Str.ofString "bad"), .int (i : Int)])) : Dp K H (.ref p) (dBad i) := .tup (SqT.of hp) (.cons (.str _) (.cons (.int _) .nil))
theorem made_depth (zs : List Str) : (dMade zs).depth ≤ 3 := by
  have := depth_strs zs
  simp [dMade, PyData.depth, PyData.depthAll, this]
theorem bad_depth (i : Nat) : (dBad i).depth ≤ 3 := by simp [dBad, PyData.depth, PyData.depthAll]
theorem made_wide {zs : List Str} (h : zs.length ≤ 100) : wide (dMade zs) ≤ 90000 := by
  have := wide_strs zs
  simp [dMade, wide, wideAll, this]
  omega
theorem bad_wide (i : Nat) : wide (dBad i) ≤ 90000 := by simp [dBad, wide, wideAll]
end
end Bk

namespace Bk
open PySem PySem.Spec PyProof.Rows L2
section
variable {K : PySem.W.Frag}
/-! ### the top's facts -/
theorem fun_of {x qual : Str} {st : Stmt} {f : Addr} {fd : FuncData} (F : FunD K x qual (defArgs st) (defBody st) (defScope st) [] [] f fd) : Fun K x qual st f fd := by
  obtain ⟨⟨oc, od, dV, kV, doc, pm, an, cdv, ct, osl, rfl, lk, hcd, hD, _⟩, kp⟩ := F
  rcases hD with ⟨_, rfl⟩ | ⟨e, _⟩
  · exact ⟨⟨oc, od, kV, doc, pm, an, cdv, ct, osl, rfl, lk, hcd⟩, kp⟩
  · exact absurd rfl e
def mroE (C : Addr) : List Value → Bool
  | .ref C' :: bm => decide (C' = C) && PySem.HandSPX.refsVE bm
  | _ => false
theorem mroE_ok {C : Addr} {l : List Value} (h : mroE C l = true) : ∃ bm, l = .ref C :: bm ∧ PySem.HandSPX.refsVE bm = true := by
  unfold mroE at h
  split at h
  · obtain ⟨h1, h2⟩ := Bool.and_eq_true_iff.mp h
    have e := of_decide_eq_true h1
    subst e
    exact ⟨_, rfl, h2⟩
  · cases h
def sixE : List (Option Value) → Bool
  | [_, _, _, _, some (.builtin n), _] => decide (n = "ValueError.__new__")
  | _ => false
theorem sixE_ok {l : List (Option Value)} (h : sixE l = true) : ∃ a b c d e, l = [a, b, c, d, some (.builtin "ValueError.__new__"), e] := by
  unfold sixE at h
  split at h
  · have e := of_decide_eq_true h
    subst e
    exact ⟨_, _, _, _, _, rfl⟩
  · cases h
/-- the class at C is an own error class whose maker is ValueError's -/
def ownErr (K : PySem.W.Frag) (C : Addr) : Bool := match K.lookup C with
  | some ⟨.type t, _, .cls cd, sl⟩ => decide (t = "type") && (cd.hasDict && (!cd.hasDel && (mroE C cd.mro && sixE sl.toList)))
  | _ => false
theorem ownErr_ok {C : Addr} (h : ownErr K C = true) : ∃ nm q N bs bm sn sub ab col dd k0 k1 k2 k3 k5, K.lookup C = some (excClassObj nm q C N bs bm true sn sub ab col dd k0 k1 k2 k3 k5 "ValueError.__new__") ∧ PySem.HandSPX.refsVE bm = true := by
  unfold ownErr at h
  split at h
  · rename_i t dd cd sl q
    obtain ⟨h1, h⟩ := Bool.and_eq_true_iff.mp h
    obtain ⟨h2, h⟩ := Bool.and_eq_true_iff.mp h
    obtain ⟨h3, h⟩ := Bool.and_eq_true_iff.mp h
    obtain ⟨h4, h5⟩ := Bool.and_eq_true_iff.mp h
    have e1 := of_decide_eq_true h1
    obtain ⟨bm, e4, e5⟩ := mroE_ok h4
    obtain ⟨a, b, c, d, e, e6⟩ := sixE_ok h5
    obtain ⟨l⟩ := sl
    obtain ⟨c1, c2, c3, c4, c5, c6, c7, c8, c9, c10, c11⟩ := cd
    subst e1
    simp only at h2 h3 e4 e6
    subst h2 e4 e6
    have h3 : c11 = false := by
      cases c11 with
      | true => cases h3
      | false => rfl
    subst h3
    exact ⟨c1, c5, c4, c2, bm, c7, c8, c9, c10, dd, a, b, c, d, e, q, e5⟩
  · cases h
/-- what the law asks of an own error class beyond its facts by name -/
def errB (K : PySem.W.Frag) (C f : Addr) : Bool := ownErr K C && (xfB K C && (decide (PySem.W.subIn K (.ref C) (.type "BaseException") = some true) && (decide (PySem.W.typeIn K (.ref C) = some (.type "type")) && (PySem.W.keepIn K (.ref C) && (decide (PySem.W.typeIn K (.ref f) = some (.type "function")) &&
  decide (PySem.W.findIn K (.ref C) "__setattr__" = some (some (.builtin "object.__setattr__"))))))))
theorem errB_ok {mg : Str → Option Value} {x : Str} {C fI : Addr} {f : Str} (h : errB K C fI = true) (g : mg x = some (.ref C)) (noF : PySem.W.findIn K (.ref C) f = some none) (iC : PySem.W.findIn K (.ref C) "__init__" = some (some (.ref fI))) (te : PySem.W.exmOne K (.ref C) (.ref C) = some true) : ExT K mg x C fI f := by
  obtain ⟨h1, h⟩ := Bool.and_eq_true_iff.mp h
  obtain ⟨h2, h⟩ := Bool.and_eq_true_iff.mp h
  obtain ⟨h3, h⟩ := Bool.and_eq_true_iff.mp h
  obtain ⟨h4, h⟩ := Bool.and_eq_true_iff.mp h
  obtain ⟨h5, h⟩ := Bool.and_eq_true_iff.mp h
  obtain ⟨h6, h7⟩ := Bool.and_eq_true_iff.mp h
  exact ⟨g, ⟨ownErr_ok h1, of_decide_eq_true h7, of_decide_eq_true h3, of_decide_eq_true h4, h5⟩, xfB_ok h2, noF, iC, of_decide_eq_true h6, te⟩
/-- isinstance of the instances of the class at C -/
def insB (K : PySem.W.Frag) (C : Addr) : Bool := decide (PySem.W.findIn K (.ref C) "__class__" = some (some (.builtin "object.__class__"))) && (decide (PySem.W.specialIn K (.builtin "object.__class__") "__get__" = some (some (.builtin "getset_descriptor.__get__"))) &&
  (decide (PySem.W.takesIn K (.builtin "object.__class__") = some true) && decide (PySem.W.mroIn K C (.type "object") = some true)))
theorem insB_ok {C : Addr} (h : insB K C = true) (c : Cls K C) (H : Hp) (x dx : Addr) (fs : List (Str × V)) (e : H x = some (.ins C dx fs)) : TyX K H (.ref x) (.ref C) := by
  obtain ⟨h1, h⟩ := Bool.and_eq_true_iff.mp h
  obtain ⟨h2, h⟩ := Bool.and_eq_true_iff.mp h
  obtain ⟨h3, h4⟩ := Bool.and_eq_true_iff.mp h
  exact .base (.ins e c (of_decide_eq_true h1) (of_decide_eq_true h2) (of_decide_eq_true h3) (of_decide_eq_true h4))
end
end Bk

namespace Bk
open PySem PySem.Spec PyProof.Rows L2
/-! ### the law's own rows of places -/
def startB (r : List Nat) : Nat := if r = [] then 0 else lastOf r + 1
def growB (n : Nat) (r : List Nat) : List (List Nat) := (List.range' (startB r) (n - startB r)).map fun j => r ++ [j]
def bRows (n : Nat) : Nat → List (List Nat)
  | 0 => [[]]
  | k + 1 => (bRows n k).flatMap (growB n)
structure BOk (n k : Nat) (r : List Nat) : Prop where
  len : r.length = k
  lt : ∀ x ∈ r, x < n
theorem bRows_ok {n : Nat} : ∀ k, ∀ r ∈ bRows n k, BOk n k r
  | 0, r, hr => by
    rw [List.mem_singleton.mp hr]
    exact ⟨rfl, fun x hx => nomatch hx⟩
  | k + 1, r, hr => by
    obtain ⟨r0, h0, hr⟩ := List.mem_flatMap.mp hr
    obtain ⟨j, hj, rfl⟩ := List.mem_map.mp hr
    obtain ⟨j1, j2⟩ := List.mem_range'_1.mp hj
    have o := bRows_ok k r0 h0
    refine ⟨by rw [List.length_append, o.len]; rfl, fun x hx => ?_⟩
    rcases List.mem_append.mp hx with hx | hx
    · exact o.lt x hx
    · rw [List.mem_singleton.mp hx]
      omega
theorem BOk.start {n k : Nat} {r : List Nat} (h : BOk n k r) : startB r ≤ n := by
  unfold startB
  split
  · exact Nat.zero_le _
  · rename_i e
    exact h.lt _ (lastOf_mem e)
theorem growB_length (n : Nat) (r : List Nat) : (growB n r).length = n - startB r := by
  unfold growB
  rw [List.length_map, List.length_range']
theorem growB_at {n : Nat} {r : List Nat} {j : Nat} (hj : j < n - startB r) : (growB n r)[j]? = some (r ++ [startB r + j]) := by
  unfold growB
  rw [List.getElem?_map, List.getElem?_range' hj]
  simp
theorem bRows_len {n : Nat} (hn : n ≤ 5) : ∀ k, (bRows n k).length ≤ 5 ^ k
  | 0 => Nat.le_refl _
  | k + 1 => by
    have h1 := flatMap_len (f := growB n) (m := 5) (l := bRows n k) fun x _ => by rw [growB_length]; omega
    have h2 := bRows_len hn k
    rw [Nat.pow_succ]
    show ((bRows n k).flatMap (growB n)).length ≤ _
    omega
theorem bRows_snoc {n : Nat} {rows : List (List Nat)} {i : Nat} {r : List Nat} (h : rows[i]? = some r) : (rows.take (i + 1)).flatMap (growB n) = (rows.take i).flatMap (growB n) ++ growB n r := by
  rw [take_succ h, List.flatMap_append, List.flatMap_cons, List.flatMap_nil, List.append_nil]
/-- both rows alike -/
theorem growB_eq {n k : Nat} {r : List Nat} (h : RowOk n k r) : growB n r = growRow n r := by
  unfold growB growRow startB
  rw [if_neg h.ne]
theorem flatMap_eq {α β : Type} {f g : α → List β} : ∀ {l : List α}, (∀ x ∈ l, f x = g x) → l.flatMap f = l.flatMap g
  | [], _ => rfl
  | x :: r, h => by rw [List.flatMap_cons, List.flatMap_cons, h x List.mem_cons_self, flatMap_eq (l := r) fun y hy => h y (List.mem_cons_of_mem _ hy)]
theorem bRows_one (n : Nat) : bRows n 1 = firstRows n := by
  show [[]].flatMap (growB n) = firstRows n
  rw [List.flatMap_cons, List.flatMap_nil, List.append_nil]
  unfold growB firstRows startB
  rw [if_pos rfl, Nat.sub_zero, List.range_eq_range']
  rfl
theorem bRows_next {n : Nat} : ∀ k, (∀ r ∈ bRows n (k + 1), RowOk n k r) ∧ bRows n (k + 2) = nextRows n (bRows n (k + 1))
  | 0 => by
    have h : ∀ r ∈ bRows n 1, RowOk n 0 r := by
      rw [bRows_one]
      exact firstRows_ok
    exact ⟨h, flatMap_eq fun r m => growB_eq (h r m)⟩
  | k + 1 => by
    obtain ⟨h1, h2⟩ := bRows_next (n := n) k
    have h : ∀ r ∈ bRows n (k + 2), RowOk n (k + 1) r := by
      rw [h2]
      exact nextRows_ok h1
    exact ⟨h, flatMap_eq fun r m => growB_eq (h r m)⟩
/-- all rows of one, two, .. places, as the law joins them -/
def bAll (n : Nat) : List (List Nat) := (List.range n).flatMap fun k => bRows n (k + 1)
theorem rowsFrom_b {n : Nat} : ∀ f k, rowsFrom n f (bRows n (k + 1)) = (List.range' k f).flatMap fun j => bRows n (j + 1)
  | 0, k => rfl
  | f + 1, k => by
    show bRows n (k + 1) ++ rowsFrom n f (nextRows n (bRows n (k + 1))) = _
    rw [← (bRows_next k).2, rowsFrom_b f (k + 1), List.range'_succ, List.flatMap_cons]
theorem bAll_eq (n : Nat) : bAll n = lotRows n := by
  unfold bAll lotRows
  rw [← bRows_one, rowsFrom_b n 0, List.range_eq_range']
theorem depth_rows (r : List Nat) : PyData.depthAll (r.map fun (k : Nat) => PyData.int (k : Int)) = 0 := by
  induction r with
  | nil => simp [PyData.depthAll]
  | cons x r ih => simp [PyData.depthAll, PyData.depth, ih]
theorem lay_rows (r : List Nat) : PyData.canLayAll0 (r.map fun (k : Nat) => PyData.int (k : Int)) = true := by
  induction r with
  | nil => simp [PyData.canLayAll0]
  | cons x r ih => simp [PyData.canLayAll0, PyData.canLay0, ih]
theorem shaped_row (r : List Nat) : SeqAt.shaped (.tuple (r.map fun (k : Nat) => PyData.int (k : Int))) = true := by
  have h1 := lay_rows r
  have h2 := depth_rows r
  simp [SeqAt.shaped, PyData.canLay0, PyData.depth, h1, h2]
theorem eqv_row (r : List Nat) : PyData.eqv (.tuple (r.map fun (k : Nat) => PyData.int (k : Int))) (.tuple []) = r.isEmpty := by
  cases r <;> simp [PyData.eqv, PyData.eqvAll]
theorem dp_row {K : PySem.W.Frag} {H : Hp} : ∀ r : List Nat, DpAll K H (rowV r) (r.map fun (k : Nat) => PyData.int (k : Int))
  | [] => .nil
  | x :: r => .cons (.int _) (dp_row r)
def pickAt (zs : List Str) (r : List Nat) : List Str := r.map fun k => zs.getD k Str.empty
/-- the lots of the first i lengths -/
def lawLots (ch : Bool) (zs : List Str) (i : Nat) : List (List Str) := if ch then (List.range i).flatMap (longRows zs) else ((List.range i).flatMap fun k => bRows zs.length (k + 1)).map (pickAt zs)
theorem lawLots_all (ch : Bool) (zs : List Str) : lawLots ch zs zs.length = lotsFor ch zs := by
  cases ch with
  | true => rfl
  | false =>
    show (bAll zs.length).map (pickAt zs) = lotsOf zs
    rw [bAll_eq]
    rfl
theorem lawLots_next (ch : Bool) (zs : List Str) (i : Nat) : lawLots ch zs (i + 1) = lawLots ch zs i ++ (if ch then longRows zs i else (bRows zs.length (i + 1)).map (pickAt zs)) := by
  cases ch with
  | true =>
    show (List.range (i + 1)).flatMap (longRows zs) = (List.range i).flatMap (longRows zs) ++ longRows zs i
    rw [List.range_succ, List.flatMap_append, List.flatMap_cons, List.flatMap_nil, List.append_nil]
  | false =>
    show ((List.range (i + 1)).flatMap fun k => bRows zs.length (k + 1)).map (pickAt zs) = _
    rw [List.range_succ, List.flatMap_append, List.flatMap_cons, List.flatMap_nil, List.append_nil, List.map_append]
    rfl
def spBlots (K : PySem.W.Frag) : Sp := fun vs H Q _ => ∃ (a : Addr) (zs : List Str) (ch : Bool), vs = [.ref a, .bl ch] ∧ H a = some (.lst (zs.map V.str)) ∧ zs.length ≤ mostFor ch ∧
  ∀ (D : Addr) (ws : List V) (H' : Hp), H D = none → Same H H' → H' D = some (.lst ws) → Ats H' (fun l => l.map V.str) ws (lotsFor ch zs) → Q (.ref D) H'
def spRows (K : PySem.W.Frag) : Nat → Sp
  | 0 => fun _ _ _ _ => False
  | m + 1 => fun vs H Q _ => ∃ k n : Nat, vs = [.int (k : Int), .int (n : Int)] ∧ k ≤ m ∧ k ≤ 5 ∧ n ≤ 5 ∧ ∀ (D : Addr) (ws : List V) (H' : Hp), H D = none → Same H H' → H' D = some (.lst ws) → Ats H' rowV ws (bRows n k) → Q (.ref D) H'
end Bk

namespace Bk
open PySem PySem.Spec PyProof.Rows L2
/-! ### no lot stands twice -/
theorem nodup_inj {α : Type} {l : List α} (h : l.Nodup) {i j : Nat} (hi : i < l.length) (hj : j < l.length) (e : l[i] = l[j]) : i = j := by
  have p := List.pairwise_iff_getElem.mp h
  rcases Nat.lt_trichotomy i j with q | q | q
  · exact absurd e (p i j hi hj q)
  · exact q
  · exact absurd e.symm (p j i hj hi q)
theorem growB_nodup (n : Nat) (r : List Nat) : (growB n r).Nodup := by
  unfold growB
  unfold List.Nodup
  rw [List.pairwise_map]
  refine List.Pairwise.imp ?_ (List.nodup_range' (s := startB r) (n := n - startB r) (step := 1))
  intro a b hne e
  exact hne (by simpa using e)
theorem bRows_nodup (n : Nat) : ∀ k, (bRows n k).Nodup
  | 0 => List.nodup_cons.mpr ⟨(fun h => nomatch h), List.nodup_nil⟩
  | k + 1 => by
    show ((bRows n k).flatMap (growB n)).Nodup
    unfold List.Nodup
    rw [List.pairwise_flatMap]
    refine ⟨fun r _ => growB_nodup n r, List.Pairwise.imp ?_ (bRows_nodup n k)⟩
    intro a b hne x hx y hy e
    subst e
    obtain ⟨i, _, rfl⟩ := List.mem_map.mp hx
    obtain ⟨j, _, h⟩ := List.mem_map.mp hy
    exact hne (List.append_inj_left' h rfl).symm
theorem range_pair (n : Nat) : (List.range n).Pairwise (· ≠ ·) := List.nodup_range
theorem bAll_nodup (n : Nat) : (bAll n).Nodup := by
  unfold bAll
  unfold List.Nodup
  rw [List.pairwise_flatMap]
  refine ⟨fun k _ => bRows_nodup n (k + 1), List.Pairwise.imp ?_ (range_pair n)⟩
  intro a b hne x hx y hy e
  subst e
  have h1 := (bRows_ok (a + 1) x hx).len
  have h2 := (bRows_ok (b + 1) x hy).len
  exact hne (by omega)
theorem getD_inj {zs : List Str} (h : zs.Nodup) {i j : Nat} (hi : i < zs.length) (hj : j < zs.length) (e : zs.getD i Str.empty = zs.getD j Str.empty) : i = j := by
  rw [List.getD_eq_getElem?_getD, List.getD_eq_getElem?_getD, List.getElem?_eq_getElem hi, List.getElem?_eq_getElem hj] at e
  exact nodup_inj h hi hj e
theorem pick_inj {zs : List Str} (h : zs.Nodup) : ∀ {a b : List Nat}, (∀ x ∈ a, x < zs.length) → (∀ x ∈ b, x < zs.length) → pickAt zs a = pickAt zs b → a = b
  | [], [], _, _, _ => rfl
  | [], _ :: _, _, _, e => nomatch e
  | _ :: _, [], _, _, e => nomatch e
  | x :: r, y :: t, ha, hb, e => by
    have e : zs.getD x Str.empty :: pickAt zs r = zs.getD y Str.empty :: pickAt zs t := e
    injection e with e1 e2
    have h1 := getD_inj h (ha x List.mem_cons_self) (hb y List.mem_cons_self) e1
    have h2 := pick_inj h (fun z m => ha z (List.mem_cons_of_mem _ m)) (fun z m => hb z (List.mem_cons_of_mem _ m)) e2
    rw [h1, h2]
theorem bAll_lt {n : Nat} {r : List Nat} (h : r ∈ bAll n) : ∀ x ∈ r, x < n := by
  obtain ⟨k, _, hr⟩ := List.mem_flatMap.mp h
  exact (bRows_ok (k + 1) r hr).lt
theorem map_nodup {α β : Type} {f : α → β} : ∀ {l : List α}, l.Nodup → (∀ x ∈ l, ∀ y ∈ l, f x = f y → x = y) → (l.map f).Nodup
  | [], _, _ => List.nodup_nil
  | x :: r, h, hf => by
    obtain ⟨h1, h2⟩ := List.nodup_cons.mp h
    rw [List.map_cons, List.nodup_cons]
    refine ⟨fun m => ?_, map_nodup h2 fun a ha b hb => hf a (List.mem_cons_of_mem _ ha) b (List.mem_cons_of_mem _ hb)⟩
    obtain ⟨y, hy, e⟩ := List.mem_map.mp m
    have := hf y (List.mem_cons_of_mem _ hy) x List.mem_cons_self e
    exact h1 (this ▸ hy)
theorem lotsOf_nodup {zs : List Str} (h : zs.Nodup) : (lotsOf zs).Nodup := by
  show ((lotRows zs.length).map (pickAt zs)).Nodup
  rw [← bAll_eq]
  exact map_nodup (bAll_nodup _) fun x hx y hy e => pick_inj h (bAll_lt hx) (bAll_lt hy) e
theorem cut_head {zs : List Str} {i l : Nat} (h : i < zs.length) : ((zs.drop i).take (l + 1))[0]? = some zs[i] := by
  rw [List.getElem?_take_of_lt (Nat.succ_pos _), List.getElem?_drop, Nat.add_zero, List.getElem?_eq_getElem h]
theorem longRows_nodup {zs : List Str} (h : zs.Nodup) (l : Nat) : (longRows zs l).Nodup := by
  unfold longRows
  refine map_nodup List.nodup_range fun i hi j hj e => ?_
  have hi := List.mem_range.mp hi
  have hj := List.mem_range.mp hj
  have h1 := cut_head (zs := zs) (l := l) (i := i) (by omega)
  have h2 := cut_head (zs := zs) (l := l) (i := j) (by omega)
  rw [e, h2] at h1
  exact (nodup_inj h (by omega) (by omega) (Option.some.inj h1)).symm
theorem chainLots_nodup {zs : List Str} (h : zs.Nodup) : (chainLots zs).Nodup := by
  unfold chainLots
  unfold List.Nodup
  rw [List.pairwise_flatMap]
  refine ⟨fun l _ => longRows_nodup h l, List.Pairwise.imp ?_ (range_pair zs.length)⟩
  intro a b hne x hx y hy e
  subst e
  obtain ⟨i, hi, rfl⟩ := List.mem_map.mp hx
  obtain ⟨j, hj, e⟩ := List.mem_map.mp hy
  have hi := List.mem_range.mp hi
  have hj := List.mem_range.mp hj
  have := congrArg List.length e
  rw [List.length_take, List.length_take, List.length_drop, List.length_drop] at this
  exact hne (by omega)
theorem lots_nodup {ch : Bool} {zs : List Str} (h : zs.Nodup) : (lotsFor ch zs).Nodup := by
  cases ch with
  | true => exact chainLots_nodup h
  | false => exact lotsOf_nodup h
theorem inr_inj : ∀ {a b : List Str}, (a.map Sum.inr : List Key) = b.map Sum.inr → a = b
  | [], [], _ => rfl
  | [], _ :: _, h => nomatch h
  | _ :: _, [], h => nomatch h
  | x :: r, y :: t, h => by
    have h : (Sum.inr x : Key) :: r.map Sum.inr = Sum.inr y :: t.map Sum.inr := h
    injection h with h1 h2
    injection h1 with h1
    rw [h1, inr_inj h2]
theorem putK_fresh {kvs : List (List Key × V)} {k : List Key} {v : V} (h : k ∉ kvs.map (·.1)) : putK kvs k v = kvs ++ [(k, v)] := by
  unfold putK
  rw [if_neg]
  intro e
  obtain ⟨p, hp, hk⟩ := List.any_eq_true.mp e
  exact h (List.mem_map.mpr ⟨p, hp, of_decide_eq_true hk⟩)
theorem places_keys {ls : List (List Str)} (h : ls.Nodup) : ∀ i, i ≤ ls.length → (placesOf (ls.take i)).map (·.1) = (ls.take i).map fun l => (l.map Sum.inr : List Key)
  | 0, _ => rfl
  | i + 1, hi => by
    have ih := places_keys h i (by omega)
    have e : ls[i]? = some ls[i] := List.getElem?_eq_getElem (by omega)
    rw [places_snoc e, putK_fresh, List.map_append, ih, take_succ e, List.map_append]
    · rfl
    · rw [ih]
      intro m
      obtain ⟨l, hl, q⟩ := List.mem_map.mp m
      have q := inr_inj q
      subst q
      obtain ⟨j, hj, e2⟩ := List.mem_take_iff_getElem.mp hl
      have := nodup_inj h (by omega) (by omega) e2
      omega
theorem keys_ats {H : Hp} {kvs : List (List Key × V)} {bs : List Addr} {ls : List (List Str)} (h : IsKeys H kvs bs) (e : kvs.map (·.1) = ls.map fun l => (l.map Sum.inr : List Key)) : Ats H (fun l : List Str => l.map V.str) (bs.map V.ref) ls := by
  unfold IsKeys at h
  induction h generalizing ls with
  | nil =>
    cases ls with
    | nil => exact .nil
    | cons l r => cases e
  | @cons p b ps bs hp t ih =>
    cases ls with
    | nil => cases e
    | cons l r =>
      have e : p.1 :: ps.map (·.1) = (l.map Sum.inr : List Key) :: r.map fun l => (l.map Sum.inr : List Key) := e
      injection e with e1 e2
      have a := Ats.one (g := fun l : List Str => l.map V.str) (H := H) (b := b) (x := l) (by
        rw [hp, e1, List.map_map]
        rfl)
      exact a.append (ih e2)
/-- the keys of places are the lots, in their order -/
theorem places_ats {H : Hp} {ch : Bool} {zs : List Str} {bs : List Addr} (hn : zs.Nodup) (h : IsKeys H (placesOf (lotsFor ch zs)) bs) : Ats H (fun l : List Str => l.map V.str) (bs.map V.ref) (lotsFor ch zs) := by
  have := places_keys (lots_nodup (ch := ch) hn) (lotsFor ch zs).length (Nat.le_refl _)
  rw [List.take_length] at this
  exact keys_ats h this
end Bk

namespace Bk
open PySem PySem.Spec PyProof.Rows L2
/-- what a turn of the law of made folders keeps: the stream, the list of names, the folders made of them -/
structure Grd (C : Addr) (H : Hp) (st c nl x : Addr) (n : Nat) (zs : List Str) (ch : Bool) : Prop where
  S : Strm H st c n
  nm : H nl = some (.lst (zs.map V.str))
  fo : FoldersAt C H x zs ch
section
variable {C st c nl x : Addr} {H H' : Hp} {n : Nat} {zs : List Str} {ch : Bool}
theorem FoldersAt.same {C x : Addr} {H H' : Hp} {zs : List Str} {ch : Bool} (h : FoldersAt C H x zs ch) (e : Same H H') : FoldersAt C H' x zs ch := by
  obtain ⟨dx, t, pd, h1, h2, h3⟩ := h
  exact ⟨dx, t, pd, e _ _ h1, e _ _ h2, e _ _ h3⟩
theorem FoldersAt.updL {p : Addr} {l : List V} {o : HO} (h : FoldersAt C H x zs ch) (hp : H p = some (.lst l)) : FoldersAt C (upd H p o) x zs ch := by
  obtain ⟨dx, t, pd, h1, h2, h3⟩ := h
  refine ⟨dx, t, pd, ?_, ?_, ?_⟩
  · rw [upd_ne (ne_of h1 hp (fun z => nomatch z))]
    exact h1
  · rw [upd_ne (ne_of h2 hp (fun z => nomatch z))]
    exact h2
  · rw [upd_ne (ne_of h3 hp (fun z => nomatch z))]
    exact h3
theorem Grd.same (g : Grd C H st c nl x n zs ch) (e : Same H H') : Grd C H' st c nl x n zs ch := ⟨g.S.same e, e _ _ g.nm, g.fo.same e⟩
theorem Grd.updL {p : Addr} {l : List V} {o : HO} (g : Grd C H st c nl x n zs ch) (hp : H p = some (.lst l)) (h1 : p ≠ st) (h2 : p ≠ c) (h3 : p ≠ nl) : Grd C (upd H p o) st c nl x n zs ch :=
  ⟨g.S.upd h1 h2, by rw [upd_ne h3.symm]; exact g.nm, g.fo.updL hp⟩
end
theorem wrong_ok {zs : List Str} {most : Nat} (h0 : zs ≠ []) (hl : zs.length ≤ most) (hn : ∀ z ∈ zs, isNameS z = true) (nd : zs.Nodup) : wrongOf (some (zs.map V.str)) most = none := by
  have all : ∀ k i, zs.length - i = k → wrongFrom (zs.map V.str) most i ((zs.map V.str).drop i) = none := by
    intro k
    induction k with
    | zero => exact fun i e => wrong_end (by rw [List.length_map]; omega)
    | succ k ih =>
      intro i e
      have hi : i < zs.length := by omega
      have hx : (zs.map V.str)[i]? = some (.str zs[i]) := by rw [List.getElem?_map, List.getElem?_eq_getElem hi]; rfl
      rw [wrong_step hx, if_neg, ih (i + 1) (by omega)]
      have h1 := hn zs[i] (List.getElem_mem hi)
      have h2 : inV (.str zs[i]) ((zs.map V.str).take i) = false := by
        rw [← List.map_take, inV_strs]
        refine decide_eq_false fun m => ?_
        obtain ⟨j, hj, e2⟩ := List.mem_take_iff_getElem.mp m
        have := nodup_inj nd (by omega) hi e2
        omega
      have h3 : ¬ i = most := by omega
      simp [badAt, isNameB, h1, h2, h3]
  show firstWrong (zs.map V.str) most = none
  unfold firstWrong
  rw [if_neg (fun e => h0 (List.map_eq_nil_iff.mp e))]
  exact all _ 0 rfl
theorem look_lots (t pd : Addr) (ch : Bool) : (foldersF t pd ch).lookup ("lots" : Str) = none := by
  have h : (("lots" : Str) == ("names" : Str)) = false := by decide +kernel
  have h2 : (("lots" : Str) == ("chain" : Str)) = false := by decide +kernel
  have h3 : (("lots" : Str) == ("places" : Str)) = false := by decide +kernel
  show List.lookup ("lots" : Str) [(("names" : Str), V.ref t), ("chain", .bl ch), ("places", .ref pd)] = _
  simp [List.lookup, h, h2, h3]
theorem lot_len {ch : Bool} {zs l : List Str} (m : l ∈ lotsFor ch zs) : l.length ≤ zs.length := by
  cases ch with
  | true =>
    obtain ⟨k, _, hl⟩ := List.mem_flatMap.mp (show l ∈ (List.range zs.length).flatMap (longRows zs) from m)
    obtain ⟨j, _, rfl⟩ := List.mem_map.mp hl
    rw [List.length_take, List.length_drop]
    omega
  | false =>
    obtain ⟨r, hr, rfl⟩ := List.mem_map.mp (show l ∈ (lotRows zs.length).map _ from m)
    obtain ⟨k, o⟩ := lotRows_ok r hr
    have h1 := o.len
    have h2 := o.last
    have h3 := o.lt_last
    rw [List.length_map]
    omega
/-! ### lots as data -/
section
variable {K : PySem.W.Frag} {H : Hp}
def dLots (ls : List (List Str)) : PyData := .list (ls.map fun l => .tuple (l.map PyData.str))
theorem dp_lots {ws : List V} {ls : List (List Str)} (h : Ats H (fun l : List Str => l.map V.str) ws ls) : DpAll K H ws (ls.map fun l => .tuple (l.map PyData.str)) := by
  induction ls generalizing ws with
  | nil =>
    have : ws = [] := List.length_eq_zero_iff.mp h.1
    subst this
    exact .nil
  | cons l r ih =>
    cases ws with
    | nil => exact absurd h.1 (by simp)
    | cons w ws =>
      obtain ⟨b, rfl, hb⟩ := h.2 0 w l rfl rfl
      refine .cons (.tup (SqT.of hb) (dp_strs l)) (ih ⟨by simpa using h.1, fun i v x h1 h2 => h.2 (i + 1) v x (by simpa using h1) (by simpa using h2)⟩)
theorem depth_lots : ∀ ls : List (List Str), PyData.depthAll (ls.map fun l => PyData.tuple (l.map PyData.str)) ≤ 1
  | [] => by simp [PyData.depthAll]
  | l :: r => by
    have := depth_lots r
    have h := depth_strs l
    simp [PyData.depthAll, PyData.depth, h]
    omega
theorem wide_lots {m : Nat} : ∀ ls : List (List Str), (∀ l ∈ ls, l.length ≤ m) → wideAll (ls.map fun l => PyData.tuple (l.map PyData.str)) ≤ m
  | [], _ => by simp [wideAll]
  | l :: r, h => by
    have := wide_lots r fun x hx => h x (List.mem_cons_of_mem _ hx)
    have h1 := wide_strs l
    have h2 := h l List.mem_cons_self
    simp [wideAll, wide, h1]
    omega
def dTold (zs : List Str) (ch : Bool) : PyData := .list [.tuple (zs.map PyData.str), .bool ch, .int (zs.length : Int)]
theorem dp_told {q t : Addr} {zs : List Str} {ch : Bool} (hq : H q = some (.lst [.ref t, .bl ch, .int (zs.length : Int)])) (ht : H t = some (.tup (zs.map V.str))) : Dp K H (.ref q) (dTold zs ch) :=
  .lst (SqL.of hq) (.cons (.tup (SqT.of ht) (dp_strs zs)) (.cons (.bl ch) (.cons (.int _) .nil)))
end
theorem told_depth (zs : List Str) (ch : Bool) : (dTold zs ch).depth ≤ 3 := by
  have := depth_strs zs
  simp [dTold, PyData.depth, PyData.depthAll, this]
theorem told_wide {zs : List Str} {ch : Bool} (h : zs.length ≤ 100) : wide (dTold zs ch) ≤ 90000 := by
  have := wide_strs zs
  simp [dTold, wide, wideAll, this]
  omega
theorem lots_depth (ls : List (List Str)) : (dLots ls).depth ≤ 3 := by
  have := depth_lots ls
  simp [dLots, PyData.depth]
  omega
theorem lots_wide {ls : List (List Str)} (h1 : ls.length ≤ 2000) (h2 : ∀ l ∈ ls, l.length ≤ 100) : wide (dLots ls) ≤ 90000 := by
  have := wide_lots ls h2
  simp [dLots, wide]
  omega
/-! ### rows of truth values -/
theorem rep_bools (n m : Nat) : (List.replicate (n : Int).toNat [V.bl true]).flatten ++ (List.replicate (m : Int).toNat [V.bl false]).flatten = (List.range (n + m)).map fun j => V.bl (decide (j < n)) := by
  rw [Int.toNat_natCast, Int.toNat_natCast, List.flatten_replicate_singleton, List.flatten_replicate_singleton]
  refine List.ext_getElem (by simp) fun i h1 h2 => ?_
  by_cases h : i < n
  · rw [List.getElem_append_left (by simpa using h)]
    simp [h]
  · rw [List.getElem_append_right (by simpa using h)]
    simp [h]
theorem dp_bools {K : PySem.W.Frag} {H : Hp} {α : Type} (f : α → Bool) : ∀ l : List α, DpAll K H (l.map fun j => V.bl (f j)) (l.map fun j => PyData.bool (f j))
  | [] => .nil
  | x :: r => .cons (.bl _) (dp_bools f r)
def dBools {α : Type} (f : α → Bool) (l : List α) : PyData := .list (l.map fun j => PyData.bool (f j))
theorem bools_depth {α : Type} (f : α → Bool) (l : List α) : (dBools f l).depth ≤ 3 := by
  have h : ∀ l : List α, PyData.depthAll (l.map fun j => PyData.bool (f j)) = 0 := by
    intro l
    induction l with
    | nil => simp [PyData.depthAll]
    | cons x r ih => simp [PyData.depthAll, PyData.depth, ih]
  have := h l
  simp [dBools, PyData.depth, this]
theorem bools_wide {α : Type} (f : α → Bool) {l : List α} (hl : l.length ≤ 100) : wide (dBools f l) ≤ 90000 := by
  have h : ∀ l : List α, wideAll (l.map fun j => PyData.bool (f j)) = 0 := by
    intro l
    induction l with
    | nil => simp [wideAll]
    | cons x r ih => simp [wideAll, wide, ih]
  have := h l
  simp [dBools, wide, this]
  omega
theorem inV_odd {y : V} (h : ∀ s, y ≠ .str s) : ∀ zs : List Str, inV y (zs.map V.str) = false
  | [] => rfl
  | x :: r => by
    have ih := inV_odd h r
    unfold inV at ih ⊢
    rw [List.map_cons, List.any_cons, ih, Bool.or_false]
    cases y <;> first | rfl | exact absurd rfl (h _)
end Bk

namespace Bk
open PySem PySem.Spec PyProof.Rows L2
theorem cut_upto (xs : List V) (k : Nat) : cutV xs none (some (k : Int)) = xs.take k := by
  unfold cutV
  rw [HT.sIx_none, HT.sIx_nat, List.drop_zero, Nat.sub_zero]
  by_cases h : k ≤ xs.length
  · rw [Nat.min_eq_left h]
  · rw [Nat.min_eq_right (by omega), List.take_length, List.take_of_length_le (by omega)]
theorem cut_from (xs : List V) (k : Nat) : cutV xs (some (k : Int)) none = xs.drop k := by
  unfold cutV
  rw [HT.sIx_none, HT.sIx_nat]
  by_cases h : k ≤ xs.length
  · rw [Nat.min_eq_left h, List.take_of_length_le (by rw [List.length_drop]; exact Nat.le_refl _)]
  · rw [Nat.min_eq_right (by omega), Nat.sub_self, List.take_zero, List.drop_of_length_le (by omega)]
theorem cut_last (xs : List V) (k : Nat) (hk : 0 < k) : cutV xs (some (-(k : Int))) none = xs.drop (xs.length - k) := by
  have e : HT.sIx xs.length 0 (some (-(k : Int))) = xs.length - k := by
    show (if -(k : Int) < 0 then (-(k : Int) + (xs.length : Int)).toNat else min (-(k : Int)).toNat xs.length) = _
    rw [if_pos (by omega)]
    omega
  unfold cutV
  rw [HT.sIx_none, e, List.take_of_length_le (by rw [List.length_drop]; omega)]
theorem cut_but (xs : List V) (k : Nat) (hk : 0 < k) : cutV xs none (some (-(k : Int))) = xs.take (xs.length - k) := by
  have e : HT.sIx xs.length xs.length (some (-(k : Int))) = xs.length - k := by
    show (if -(k : Int) < 0 then (-(k : Int) + (xs.length : Int)).toNat else min (-(k : Int)).toNat xs.length) = _
    rw [if_pos (by omega)]
    omega
  unfold cutV
  rw [HT.sIx_none, e, List.drop_zero, Nat.sub_zero]
/-- names that can be made to folders -/
structure Fit (zs : List Str) (m : Nat) : Prop where
  ne : zs ≠ []
  len : zs.length ≤ m
  nm : ∀ z ∈ zs, isNameS z = true
  nd : zs.Nodup
section
variable {zs : List Str} {m : Nat} {s : Str}
theorem Fit.right (h : Fit zs m) : wrongOf (some (zs.map V.str)) m = none := wrong_ok h.ne h.len h.nm h.nd
theorem Fit.pos (h : Fit zs m) : 0 < zs.length := List.length_pos_iff.mpr h.ne
theorem Fit.snoc (h : Fit zs m) (hs : isNameS s = true) (hn : s ∉ zs) : (∀ z ∈ zs ++ [s], isNameS z = true) ∧ (zs ++ [s]).Nodup := by
  refine ⟨fun z mz => ?_, ?_⟩
  · rcases List.mem_append.mp mz with mz | mz
    · exact h.nm z mz
    · rw [List.mem_singleton.mp mz]
      exact hs
  · rw [List.nodup_append]
    exact ⟨h.nd, (by simp), fun a ha b hb e => hn (by rw [List.mem_singleton.mp hb] at e; rw [← e]; exact ha)⟩
theorem Fit.take5 (h : Fit zs m) (m' : Nat) (hm : 5 ≤ m') : Fit (zs.take 5) m' :=
  ⟨fun e => by
    have h1 := congrArg List.length e
    rw [List.length_take, List.length_nil] at h1
    have h2 := h.pos
    omega, by rw [List.length_take]; omega, fun z mz => h.nm z (List.mem_of_mem_take mz), h.nd.sublist (List.take_sublist 5 zs)⟩
theorem Fit.tail5 (h : Fit zs m) (hm : 5 ≤ m) (hs : isNameS s = true) (hn : s ∉ zs) : Fit (((zs ++ [s]).drop 1).drop (zs.length - 5)) m ∧ s ∈ ((zs ++ [s]).drop 1).drop (zs.length - 5) := by
  have hp := h.pos
  obtain ⟨h1, h2⟩ := h.snoc hs hn
  have hm' : s ∈ ((zs ++ [s]).drop 1).drop (zs.length - 5) := by
    rw [List.drop_drop, List.drop_append_of_le_length (by omega)]
    exact List.mem_append_right _ List.mem_cons_self
  refine ⟨⟨(fun e => by rw [e] at hm'; exact nomatch hm'), ?_, fun z mz => h1 z (List.mem_of_mem_drop (List.mem_of_mem_drop mz)), h2.sublist ((List.drop_sublist _ _).trans (List.drop_sublist _ _))⟩, hm'⟩
  rw [List.length_drop, List.length_drop, List.length_append]
  simp
  omega
theorem Fit.last (h : Fit zs m) (hs : isNameS s = true) (hn : s ∉ zs) : Fit (zs.take (zs.length - 1) ++ [s]) m := by
  have hp := h.pos
  have hl := h.len
  refine ⟨by simp, ?_, fun z mz => ?_, ?_⟩
  · rw [List.length_append, List.length_take]
    simp
    omega
  · rcases List.mem_append.mp mz with mz | mz
    · exact h.nm z (List.mem_of_mem_take mz)
    · rw [List.mem_singleton.mp mz]
      exact hs
  · rw [List.nodup_append]
    exact ⟨h.nd.sublist (List.take_sublist _ _), (by simp), fun a ha b hb e => hn (by rw [List.mem_singleton.mp hb] at e; rw [← e]; exact List.mem_of_mem_take ha)⟩
theorem Fit.rev (h : Fit zs m) : Fit zs.reverse m := ⟨by simp [h.ne], by rw [List.length_reverse]; exact h.len, fun z mz => h.nm z (List.mem_reverse.mp mz), (by unfold List.Nodup; rw [List.pairwise_reverse]; exact List.Pairwise.imp (fun q e => q e.symm) h.nd)⟩
theorem rev_other (h : zs.Nodup) (hl : 1 < zs.length) : zs ≠ zs.reverse := fun e => by
  have h0 : zs[0]? = zs.reverse[0]? := by rw [← e]
  rw [List.getElem?_reverse (by omega), List.getElem?_eq_getElem (by omega), List.getElem?_eq_getElem (by omega)] at h0
  have := nodup_inj h (by omega) (by omega) (Option.some.inj h0)
  omega
end
/-- folders that are not those of zs and ch -/
def Oth (C : Addr) (zs : List Str) (ch : Bool) (H : Hp) (v : V) : Prop := ∃ (b : Addr) (zs' : List Str) (ch' : Bool), v = .ref b ∧ FoldersAt C H b zs' ch' ∧ (∀ z ∈ zs', isNameS z = true) ∧ (decide (zs = zs') && decide (ch = ch')) = false
theorem Oth.same {C : Addr} {zs : List Str} {ch : Bool} {H H' : Hp} {v : V} (h : Oth C zs ch H v) (e : Same H H') : Oth C zs ch H' v := by
  obtain ⟨b, zs', ch', h1, h2, h3, h4⟩ := h
  exact ⟨b, zs', ch', h1, h2.same e, h3, h4⟩
theorem Oth.updL {C : Addr} {zs : List Str} {ch : Bool} {H : Hp} {v : V} {p : Addr} {l : List V} {o : HO} (h : Oth C zs ch H v) (hp : H p = some (.lst l)) : Oth C zs ch (upd H p o) v := by
  obtain ⟨b, zs', ch', h1, h2, h3, h4⟩ := h
  exact ⟨b, zs', ch', h1, h2.updL hp, h3, h4⟩
end Bk

/-! len, in, comparisons and subscripts of instances whose class says them itself: my own rules beside the layer's -/
namespace Bk
open PySem PySem.Spec PyProof.Rows L2
section
variable {X : Cx} {CX : CXT} {n : Nat} {C f : Addr} {fd : FuncData} {ps : List Str} {sp : Sp} {E : XK} {A : Around}
/-- a def of the text called from within a builtin -/
theorem own_run {pins : List (Addr × Obj)} {σ : L2.St} {H : Hp} {s : Shared} {Q : VK} {vs : List V} {us : List Value} (F : FnOk X.prog X.w X.K X.mg X.base CX n f fd ps sp) (hb : Binds X.K fd ps []) (hx : Passes CX X E) (sb : Sub X n A) (I : Inv X pins σ H s) (r : Vals vs us)
    (h : sp vs H Q E) : wpAny (model X.prog X.w) A (call (.ref f) us) (EP X pins σ Q) X.xe s := by
  have e := I.env0
  have e0 : Env0 X.prog X.w X.K X.mg X.base A X.stack s H := ⟨by rw [sb.fr]; exact e.frames, e.mod, e.bs, e.bsz, e.funs, e.frf, e.hok, e.bare⟩
  have hl := F.len _ _ _ _ h
  refine wpAny_call (codeAny_mono (F.run A X.stack s H ⟨us, []⟩ us vs _ E sb.room e0 (by
    have := hb s us I.kIn (by rw [List.append_nil, ← r.length, hl])
    simpa using this) r h) fun z s' hq => ?_)
  cases z with
  | error er => exact hx pins σ H s er s' I hq
  | ok fl =>
    cases fl with
    | ret w => exact I.after hq
    | next => exact False.elim hq
    | brk => exact False.elim hq
    | cont => exact False.elim hq
/-- a method that the class at C says itself, by name -/
structure Own (K : PySem.W.Frag) (C : Addr) (m : Str) (f : Addr) : Prop where
  at_ : PySem.W.findIn K (.ref C) m = some (some (.ref f))
  fn : PySem.W.isFn K (.ref f) = true
/-- len(x) -/
def rLenOwn (C : Addr) (sp : Sp) (E : XK) : List V → Hp → VK → Prop := fun xs H Q => ∃ (a dx : Addr) (fs : List (Str × V)), xs = [.ref a] ∧ H a = some (.ins C dx fs) ∧ sp [.ref a] H (fun v H' => ∃ k : Int, v = .int k ∧ 0 ≤ k ∧ k < 2 ^ 63 ∧ Q (.int k) H') E
theorem call_lenOwn (F : FnOk X.prog X.w X.K X.mg X.base CX n f fd ps sp) (hb : Binds X.K fd ps []) (hx : Passes CX X E) (hr : Room (n + 1) X.A) (m : Own X.K C "__len__" f) : CallR X (.builtin "len") (rLenOwn C sp E) := by
  intro pins s σ H xs us Q I r h
  obtain ⟨a, dx, fs, rfl, ha, hs⟩ := h
  cases r with
  | cons ra rn =>
    cases rn
    cases ra
    obtain ⟨mA, J, _⟩ := ins_get I.hok ha
    obtain ⟨od, J, _⟩ := J.look
    have sb : Sub X (n + 1) X.A := ⟨hr, rfl⟩
    obtain ⟨_, hF⟩ := I.fr
    refine PySem.W.len_K hF I.ok.mod.kin J m.at_ m.fn (wpAny_mono (own_run (vs := [.ref a]) F hb hx sb.in1 I (.cons rfl .nil) hs) (fun v s' hv => ?_) fun _ _ z => z)
    obtain ⟨x, H', I', rv, k, rfl, h0, h1, q⟩ := hv
    obtain ⟨t, rfl⟩ := rv
    exact ⟨⟨h0, h1⟩, .int k, H', I'.tok _, ⟨_, rfl⟩, q⟩
/-- x in y, y such an instance -/
def rInOwn (C : Addr) (sp : Sp) (E : XK) (neg : Bool) : R2 := fun x y H Q => ∃ (a dx : Addr) (fs : List (Str × V)), y = .ref a ∧ H a = some (.ins C dx fs) ∧ sp [.ref a, x] H (fun v H' => ∃ b : Bool, v = .bl b ∧ Q (.bl (if neg then !b else b)) H') E
theorem op_inOwn (F : FnOk X.prog X.w X.K X.mg X.base CX n f fd ps sp) (hb : Binds X.K fd ps []) (hx : Passes CX X E) (hr : Room n X.A) (m : Own X.K C "__contains__" f) : OpR X (compareOp .In) (rInOwn C sp E false) := by
  intro pins s σ H x y v u Q I rx ry h
  obtain ⟨a, dx, fs, rfl, ha, hs⟩ := h
  cases ry
  obtain ⟨mA, J, _⟩ := ins_get I.hok ha
  obtain ⟨od, J, _⟩ := J.look
  obtain ⟨_, hF⟩ := I.fr
  refine PySem.W.in_K hF I.ok.mod.kin J m.at_ m.fn (wpAny_mono (own_run (vs := [.ref a, x]) F hb hx ⟨hr, rfl⟩ I (.cons rfl (.cons rx .nil)) hs) (fun v s' hv => ?_) fun _ _ z => z)
  obtain ⟨x, H', I', rv, b, rfl, q⟩ := hv
  cases rv
  exact wpAny_truthy_bool ⟨.bl b, H', I', rfl, q⟩
theorem op_notInOwn (F : FnOk X.prog X.w X.K X.mg X.base CX n f fd ps sp) (hb : Binds X.K fd ps []) (hx : Passes CX X E) (hr : Room n X.A) (m : Own X.K C "__contains__" f) : OpR X (compareOp .NotIn) (rInOwn C sp E true) := by
  intro pins s σ H x y v u Q I rx ry h
  obtain ⟨a, dx, fs, rfl, ha, hs⟩ := h
  cases ry
  obtain ⟨mA, J, _⟩ := ins_get I.hok ha
  obtain ⟨od, J, _⟩ := J.look
  obtain ⟨_, hF⟩ := I.fr
  refine PySem.W.notIn_K hF I.ok.mod.kin J m.at_ m.fn (wpAny_mono (own_run (vs := [.ref a, x]) F hb hx ⟨hr, rfl⟩ I (.cons rfl (.cons rx .nil)) hs) (fun v s' hv => ?_) fun _ _ z => z)
  obtain ⟨x, H', I', rv, b, rfl, q⟩ := hv
  cases rv
  exact wpAny_truthy_bool ⟨.bl (!b), H', I', rfl, q⟩
end
section
variable {X : Cx} {pins : List (Addr × Obj)} {σ : L2.St} {H : Hp} {s : Shared}
theorem looks_cls {M : Model} {h : Heap} {a : Addr} {o : Obj} {t : Value} (e : h.get? a = some o) (c : o.cls = t) : PySem.W.Looks M h (typeOf (.ref a)) t := fun _ _ _ _ k q => wpAny_typeOf_ref (k _ _ e) (by rw [c]; exact q)
/-- the class of what a tracked value stands for -/
theorem type_of {x : V} {u t : Value} (I : Inv X pins σ H s) (rx : RelV x u) (ty : TyX X.K H x t) : PySem.W.Looks (model X.prog X.w) s.heap (typeOf u) t := by
  cases ty with
  | base b =>
    cases b with
    | non => cases (show u = Value.none from rx); exact PySem.W.Looks.of_pure rfl
    | bl y => cases (show u = Value.bool y from rx); exact PySem.W.Looks.of_pure rfl
    | int i => obtain ⟨t, q⟩ := (show ∃ t, u = Value.int i t from rx); cases q; exact PySem.W.Looks.of_pure rfl
    | str y => obtain ⟨t, q⟩ := (show ∃ t, u = Value.str y t from rx); cases q; exact PySem.W.Looks.of_pure rfl
    | flt y => obtain ⟨t, q⟩ := (show ∃ t, u = Value.float y t from rx); cases q; exact PySem.W.Looks.of_pure rfl
    | @lst a xs ea =>
      cases (show u = Value.ref a from rx)
      obtain ⟨_, _, n, _, h1⟩ := (show ObjOk X.prog X.w H s.heap a (.lst xs) from I.hok a _ ea)
      exact looks_cls h1 rfl
    | @frz a ob xs ea =>
      cases (show u = Value.ref a from rx)
      obtain ⟨_, _, _, n, _, h1⟩ := (show ObjOk X.prog X.w H s.heap a (.frz ob (.lst xs)) from I.hok a _ ea)
      exact looks_cls h1 rfl
    | @tup a xs ea =>
      cases (show u = Value.ref a from rx)
      obtain ⟨_, _, _, o, h1, h2, _⟩ := (show ObjOk X.prog X.w H s.heap a (.tup xs) from I.hok a _ ea)
      exact looks_cls h1 h2
    | @dK a kvs ea =>
      cases (show u = Value.ref a from rx)
      obtain ⟨_, _, vs, _, o, es, ep, h1, h2, _⟩ := (show ObjOk X.prog X.w H s.heap a (.dK kvs) from I.hok a _ ea)
      exact looks_cls h1 h2.1
    | @dT a kvs ea =>
      cases (show u = Value.ref a from rx)
      obtain ⟨_, _, xs, _, o, es, ep, h1, h2, _⟩ := (show ObjOk X.prog X.w H s.heap a (.dT kvs) from I.hok a _ ea)
      exact looks_cls h1 h2.1
    | @ins a C dx fs ea cl ha hn htk hm =>
      cases (show u = Value.ref a from rx)
      obtain ⟨mA, O, _⟩ := ins_get I.hok ea
      exact looks_cls O.obj rfl
  | byt y => obtain ⟨t, q⟩ := (show ∃ t, u = Value.bytes y t from rx); cases q; exact PySem.W.Looks.of_pure rfl
  | @set a S n ea =>
    cases (show u = Value.ref a from rx)
    obtain ⟨o, _, _, _, e, ex, _⟩ := I.hok a _ ea
    exact looks_cls e ex.1
  | @kList a o e c =>
    cases (show u = Value.ref a from rx)
    exact looks_cls (I.kIn a o e) c
  | @kTuple a o e c =>
    cases (show u = Value.ref a from rx)
    exact looks_cls (I.kIn a o e) c
  | @kDict a o e c =>
    cases (show u = Value.ref a from rx)
    exact looks_cls (I.kIn a o e) c
  | @fTuple a o xs ea =>
    cases (show u = Value.ref a from rx)
    obtain ⟨_, _, _, _, o', h1, h2, _⟩ := (show ObjOk X.prog X.w H s.heap a (.frz o (.tup xs)) from I.hok a _ ea)
    exact looks_cls h1 h2
  | @fDict a o kvs ea =>
    cases (show u = Value.ref a from rx)
    obtain ⟨_, _, _, vs, _, o', es, ep, h1, h2, _⟩ := (show ObjOk X.prog X.w H s.heap a (.frz o (.dK kvs)) from I.hok a _ ea)
    exact looks_cls h1 h2.1
end
section
variable {X : Cx} {CX : CXT} {n : Nat} {C f : Addr} {fd : FuncData} {ps : List Str} {sp : Sp} {E : XK}
/-- x op y, x an instance whose class says the comparison itself; it tells a truth value -/
def rCmpOwn (K : PySem.W.Frag) (C : Addr) (sp : Sp) (E : XK) : R2 := fun x y H Q => ∃ (a dx : Addr) (fs : List (Str × V)) (t : Value), x = .ref a ∧ H a = some (.ins C dx fs) ∧ TyX K H y t ∧ PySem.W.notFirst K C t = true ∧ sp [.ref a, y] H (fun v H' => ∃ b : Bool, v = .bl b ∧ Q (.bl b) H') E
theorem op_cmpOwn {op : CmpOp} (F : FnOk X.prog X.w X.K X.mg X.base CX n f fd ps sp) (hb : Binds X.K fd ps []) (hx : Passes CX X E) (hr : Room n X.A) (m : Own X.K C (cmpInfo op).2.1 f) (hop : compareOp op = richCompare op := by rfl) : OpR X (compareOp op) (rCmpOwn X.K C sp E) := by
  intro pins s σ H x y v u Q I rx ry h
  obtain ⟨a, dx, fs, t, rfl, ha, ty, nf, hs⟩ := h
  cases rx
  obtain ⟨mA, J, _⟩ := ins_get I.hok ha
  obtain ⟨od, J, _⟩ := J.look
  obtain ⟨_, hF⟩ := I.fr
  rw [hop]
  refine PySem.W.cmp_K (op := op) hr.units0 hF I.ok.mod.kin J (type_of I ry ty) nf m.at_ m.fn (wpAny_mono (own_run (vs := [.ref a, y]) F hb hx ⟨hr, rfl⟩ I (.cons rfl (.cons ry .nil)) hs) (fun v s' hv => ?_) fun _ _ z => z)
  obtain ⟨z, H', I', rv, b, rfl, q⟩ := hv
  cases rv
  exact ⟨.bl b, H', I', rfl, q⟩
end
end Bk

/-! == with an instance on the right whose class says == itself, and in of a tuple for such an instance -/
namespace Bk
open PySem PySem.Spec PyProof.Rows L2
open AutoSeq1 (wpAny_loadPart')
open MeetsSeq
theorem str_eq_inst (b : Str) (u : Tok) (l : Addr) (c : Value) (dd : Option Addr) (sl : Array (Option Value)) :
    Meets (Builtin.«str.__eq__» ⟨[.str b u, .ref l], []⟩) (fun _ R s => s.heap.get? l = some { cls := c, dict := dd, data := .plain, slots := sl } ∧ R (.ok (.ret .notImplemented)) s) :=
  .of_wp fun prog w A R s h => by obtain ⟨hp, g, d, tk, os⟩ := s; obtain ⟨hl, h⟩ := h; wp_walk using wpAny_loadPart' hl, wpAny_load hl; exact ⟨_, rfl, h⟩
theorem int_eq_inst (b : Int) (u : Tok) (l : Addr) (c : Value) (dd : Option Addr) (sl : Array (Option Value)) :
    Meets (Builtin.«int.__eq__» ⟨[.int b u, .ref l], []⟩) (fun _ R s => s.heap.get? l = some { cls := c, dict := dd, data := .plain, slots := sl } ∧ R (.ok (.ret .notImplemented)) s) :=
  .of_wp fun prog w A R s h => by obtain ⟨hp, g, d, tk, os⟩ := s; obtain ⟨hl, h⟩ := h; wp_walk using wpAny_loadPart' hl, wpAny_load hl; exact ⟨_, rfl, h⟩
def NotSub (C : Addr) (T : String) (s : Shared) : Prop := ∀ (M : Model) (A : Around) (E : Value → Shared → Prop) (Q : Bool → Shared → Prop), Q false s → wpAny M A (isSubtype (.ref C) (.type T)) Q E s
theorem list_eq_inst (l b C : Addr) (items : Array Value) (n : Nat) (dd db : Option Addr) (sl sb : Array (Option Value)) :
    Meets (Builtin.«list.__eq__» ⟨[.ref l, .ref b], []⟩) (fun _ R s => s.heap.get? l = some { cls := .type "list", dict := dd, data := .seq items n, slots := sl } ∧ s.heap.get? b = some { cls := .ref C, dict := db, data := .plain, slots := sb } ∧ NotSub C "list" s ∧ R (.ok (.ret .notImplemented)) s) :=
  .of_wp fun prog w A R s h => by obtain ⟨hp, g, d, tk, os⟩ := s; obtain ⟨hl, hb, hn, h⟩ := h; wp_walk using wpAny_loadPart' hl, wpAny_loadPart' hb; refine hn _ _ _ _ ?_; wp_walk; exact ⟨_, rfl, h⟩
theorem tuple_eq_inst (l b C : Addr) (items : Array Value) (n : Nat) (dd db : Option Addr) (sl sb : Array (Option Value)) :
    Meets (Builtin.«tuple.__eq__» ⟨[.ref l, .ref b], []⟩) (fun _ R s => s.heap.get? l = some { cls := .type "tuple", dict := dd, data := .seq items n, slots := sl } ∧ s.heap.get? b = some { cls := .ref C, dict := db, data := .plain, slots := sb } ∧ NotSub C "tuple" s ∧ R (.ok (.ret .notImplemented)) s) :=
  .of_wp fun prog w A R s h => by obtain ⟨hp, g, d, tk, os⟩ := s; obtain ⟨hl, hb, hn, h⟩ := h; wp_walk using wpAny_loadPart' hl, wpAny_loadPart' hb; refine hn _ _ _ _ ?_; wp_walk; exact ⟨_, rfl, h⟩
section
variable {X : Cx} {prog : Program} {w : World} {A : Around} {E : Value → Shared → Prop} {s : Shared} {K : PySem.W.Frag} {a C f : Addr} {ox : Obj} {od : Option Obj} {u : Value} {T id : String}
theorem rc_own_refl {Q : Value → Shared → Prop} (hu : A.units < cLine) (X : K.In s.heap) (ha : s.TypeIs u T) (I : PySem.W.InstAt s.heap a ox C od) (hsub : PySem.W.subIn K (.ref C) (.type T) = some false) (h1 : Slot T (cmpInfo .Eq).2.1 id)
    (hc1 : ∀ Q' : Value → Shared → Prop, Q' .notImplemented s → wpAny (model prog w) A (call (.builtin id) [u, .ref a]) Q' E s)
    (hs : PySem.W.findIn K (.ref C) "__eq__" = some (some (.ref f))) (hf : PySem.W.isFn K (.ref f) = true) (h : wpAny (model prog w) A (call (.ref f) [.ref a, u]) (PySem.W.CmpBack Q) E s) : wpAny (model prog w) A (richCompare .Eq u (.ref a)) Q E s := by
  have one : wpAny (model prog w) A (tryCompare (.ref a) (cmpInfo .Eq).2.2 u) (fun r s' => ∃ v, r = some v ∧ Q v s') E s := by
    unfold tryCompare
    refine wpAny_bind (PySem.W.ifBound_K X I hs hf (wpAny_mono h (fun v s' hv => ?_) fun _ _ e => e))
    cases v <;> first | exact hv.elim | exact wpAny_pure ⟨_, rfl, hv⟩
  rcases hi : cmpInfo CmpOp.Eq with ⟨sym, f1, r⟩
  rw [hi] at h1 one
  simp only [richCompare, hi, ha.oneThing_none]
  try with_reducible refine wpAny_holding ?_
  refine wpAny_bind (wpAny_cRoomFor_or (.inr hu) ?_)
  refine wpAny_bind (wpAny_typeOf ha (wpAny_bind (I.type.here ?_)))
  have hne : (Value.type T != Value.ref C) = true := rfl
  simp only [hne, if_true]
  refine wpAny_bind ((PySem.W.looks_subIn X hsub).here ?_)
  simp only [Bool.false_eq_true, if_false, Bool.not_false, if_true]
  refine wpAny_bind (m := tryCompare u _ (.ref a)) (wpAny_tryCompare_declines ha h1 (hc1 _ ⟨rfl, ?_⟩))
  refine wpAny_bind (m := tryCompare (.ref a) _ u) (wpAny_mono one (fun r s' z => ?_) fun _ _ e => e)
  obtain ⟨v, rfl, hq⟩ := z
  exact wpAny_pure hq
end
/-- values of the kinds whose own == knows nothing of an instance -/
inductive Bik (H : Hp) : V → String → Prop where
  | non : Bik H .non "NoneType"
  | int (i : Int) : Bik H (.int i) "int"
  | str (z : Str) : Bik H (.str z) "str"
  | lst {l : Addr} {xs : List V} (h : H l = some (.lst xs)) : Bik H (.ref l) "list"
  | tup {l : Addr} {xs : List V} (h : H l = some (.tup xs)) : Bik H (.ref l) "tuple"
section
variable {X : Cx} {CX : CXT} {n : Nat} {C f : Addr} {fd : FuncData} {ps : List Str} {sp : Sp} {E : XK}
theorem not_sub {K : PySem.W.Frag} {T : String} {s : Shared} (X : K.In s.heap) (h : PySem.W.subIn K (.ref C) (.type T) = some false) : NotSub C T s := fun M A E Q q => (PySem.W.looks_subIn X h).here q
def rEqRefl (K : PySem.W.Frag) (C : Addr) (sp : Sp) (E : XK) : R2 := fun x y H Q => ∃ (a dx : Addr) (fs : List (Str × V)) (T : String), y = .ref a ∧ H a = some (.ins C dx fs) ∧ Bik H x T ∧ PySem.W.subIn K (.ref C) (.type T) = some false ∧ sp [.ref a, x] H (fun v H' => ∃ b : Bool, v = .bl b ∧ Q (.bl b) H') E
/-- the comparison of such a value with an instance, at any place below the body -/
theorem rc_refl {A : Around} {pins : List (Addr × Obj)} {σ : L2.St} {H : Hp} {s : Shared} {x : V} {v : Value} {a dx : Addr} {fs : List (Str × V)} {T : String} {Q : VK} (FO : FnOk X.prog X.w X.K X.mg X.base CX n f fd ps sp) (hb : Binds X.K fd ps []) (hx : Passes CX X E) (sb : Sub X n A) (m : Own X.K C "__eq__" f)
    (I : Inv X pins σ H s) (rx : RelV x v) (ha : H a = some (.ins C dx fs)) (bk : Bik H x T) (hsub : PySem.W.subIn X.K (.ref C) (.type T) = some false) (hs : sp [.ref a, x] H (fun v H' => ∃ b : Bool, v = .bl b ∧ Q (.bl b) H') E) :
    wpAny (model X.prog X.w) A (richCompare .Eq v (.ref a)) (EP X pins σ Q) X.xe s := by
  obtain ⟨mA, O, _⟩ := ins_get I.hok ha
  have ob := O.obj
  obtain ⟨od, J, _⟩ := O.look
  have hu : A.units < cLine := sb.room.units0
  have fin : wpAny (model X.prog X.w) A (call (.ref f) [.ref a, v]) (PySem.W.CmpBack (EP X pins σ Q)) X.xe s := by
    refine wpAny_mono (own_run (vs := [.ref a, x]) FO hb hx sb I (.cons rfl (.cons rx .nil)) hs) (fun v s' hv => ?_) fun _ _ z => z
    obtain ⟨z, H', I', rv, b, rfl, q⟩ := hv
    cases rv
    exact ⟨.bl b, H', I', rfl, q⟩
  cases bk with
  | non =>
    cases rx
    exact rc_own_refl hu I.kIn rfl J hsub F.slot_NoneType_eq (fun _ hq => call_gives F.slot_NoneType_eq rfl F.entry_NoneType_eq (F.args_NoneType_eq_2 _ _) (SeqAt.NoneType___eq___none_ref_0 a) hq) m.at_ m.fn fin
  | int i =>
    obtain ⟨t, rfl⟩ := rx
    exact rc_own_refl hu I.kIn (typeIs_int s i t) J hsub F.slot_int_eq (fun _ hq => call_meets F.slot_int_eq (typeIs_int s i t) F.entry_int_eq (F.args_int_eq_2 _ _) (int_eq_inst i t a (.ref C) _ _) ⟨ob, hq⟩) m.at_ m.fn fin
  | str z =>
    obtain ⟨t, rfl⟩ := rx
    exact rc_own_refl hu I.kIn (typeIs_str s z t) J hsub F.slot_str_eq (fun _ hq => call_meets F.slot_str_eq (typeIs_str s z t) F.entry_str_eq (F.args_str_eq_2 _ _) (str_eq_inst z t a (.ref C) _ _) ⟨ob, hq⟩) m.at_ m.fn fin
  | @lst l xs hl =>
    cases rx
    obtain ⟨_, its, k, _, h1⟩ := (show ObjOk X.prog X.w H s.heap l (.lst xs) from I.hok l _ hl)
    exact rc_own_refl hu I.kIn ⟨_, h1, rfl⟩ J hsub F.slot_list_eq (fun _ hq => call_meets F.slot_list_eq ⟨_, h1, rfl⟩ F.entry_list_eq (F.args_list_eq_2 _ _) (list_eq_inst l a C _ _ _ _ _ _) ⟨h1, ob, not_sub I.kIn hsub, hq⟩) m.at_ m.fn fin
  | @tup l xs hl =>
    cases rx
    obtain ⟨_, its, _, o, h1, h2, k, h3⟩ := (show ObjOk X.prog X.w H s.heap l (.tup xs) from I.hok l _ hl)
    obtain ⟨cls, dd, data, sl⟩ := o
    simp only at h2 h3
    subst h2 h3
    exact rc_own_refl hu I.kIn ⟨_, h1, rfl⟩ J hsub F.slot_tuple_eq (fun _ hq => call_meets F.slot_tuple_eq ⟨_, h1, rfl⟩ F.entry_tuple_eq (F.args_tuple_eq_2 _ _) (tuple_eq_inst l a C _ _ _ _ _ _) ⟨h1, ob, not_sub I.kIn hsub, hq⟩) m.at_ m.fn fin
theorem op_eqRefl (FO : FnOk X.prog X.w X.K X.mg X.base CX n f fd ps sp) (hb : Binds X.K fd ps []) (hx : Passes CX X E) (hr : Room n X.A) (m : Own X.K C "__eq__" f) : OpR X (compareOp .Eq) (rEqRefl X.K C sp E) := by
  intro pins s σ H x y v u Q I rx ry h
  obtain ⟨a, dx, fs, T, rfl, ha, bk, hsub, hs⟩ := h
  cases ry
  show wpAny (model X.prog X.w) X.A (richCompare .Eq v (.ref a)) (EP X pins σ Q) X.xe s
  exact rc_refl FO hb hx ⟨hr, rfl⟩ m I rx ha bk hsub hs
end
end Bk

/-! in of a tuple of texts for an instance whose class says == itself -/
namespace Bk
open PySem PySem.Spec PyProof.Rows L2
open AutoSeq1 (wpAny_loadPart')
open MeetsSeq MeetsSeq2 MeetsSeq3 SeqRoads2
section
variable {prog : Program} {w : World} {A : Around} {R : Result → Shared → Prop}
theorem contains_no (l : Addr) (items : Array Value) (n : Nat) (dd : Option Addr) (sl : Array (Option Value)) (x : Value) (I : Shared → Prop)
    (turn : ∀ y, y ∈ items → ∀ s, I s → wpAny (model prog w) A.in1 (eqBool y x) (fun r s' => r = false ∧ I s') (fun e s' => R (.error e) s') s) (fin : ∀ s, I s → R (.ok (.ret (.bool false))) s)
    {s : Shared} (hl : s.heap.get? l = some { cls := .type "tuple", dict := dd, data := .seq items n, slots := sl }) (h : I s) :
    wpAny (model prog w) A.in1 (Builtin.«tuple.__contains__» ⟨[.ref l, x], []⟩) (GQ.FinOf prog w A R) (fun e s' => R (.error e) s') s := by
  have h0 := h
  obtain ⟨hp, g, d, tk, os⟩ := s
  wp_walk using wpAny_loadPart' hl, wpAny_forIn_array _ (fun rest b s' => b.1 = none ∧ (∀ y, y ∈ rest → y ∈ items) ∧ I s') _

  case turn =>
    rintro y rest b s' ⟨hb, hmem, hI⟩
    refine wpAny_bind (wpAny_mono (turn y (hmem y (List.mem_cons_self ..)) s' hI) (fun r s2 q2 => ?_) fun _ _ x => x)
    obtain ⟨hr, q2⟩ := q2
    subst hr
    wp_walk
    exact ⟨rfl, fun z hz => hmem z (List.mem_cons_of_mem _ hz), q2⟩
  case fin =>
    rintro ⟨b1, b2⟩ s' ⟨hb, -, hI⟩
    simp only at hb
    subst hb
    have hR := fin s' hI
    wp_walk
    simpa using hR
  case h =>
    exact ⟨rfl, fun y hy => by simpa using hy, h0⟩
end
section
variable {X : Cx} {CX : CXT} {n : Nat} {C f : Addr} {fd : FuncData} {ps : List Str} {sp : Sp} {E : XK}
theorem strs_vals : ∀ {zs : List Str} {us : List Value}, Vals (zs.map V.str) us → ∀ u ∈ us, ∃ z ∈ zs, RelV (.str z) u
  | [], _, r, u, hu => by cases r; cases hu
  | z :: zs, _, r, u, hu => by
    cases r with
    | cons r1 r2 =>
      rcases List.mem_cons.mp hu with rfl | hu
      · exact ⟨z, List.mem_cons_self, r1⟩
      · obtain ⟨z', m, q⟩ := strs_vals r2 u hu
        exact ⟨z', List.mem_cons_of_mem _ m, q⟩
def rInOdd (K : PySem.W.Frag) (C : Addr) (sp : Sp) (E : XK) : R2 := fun x y H Q => ∃ (a dx p : Addr) (fs : List (Str × V)) (zs : List Str), x = .ref a ∧ y = .ref p ∧ H a = some (.ins C dx fs) ∧ H p = some (.tup (zs.map V.str)) ∧ PySem.W.subIn K (.ref C) (.type "str") = some false ∧
  (∀ z ∈ zs, ∀ H', Ext H H' → sp [.ref a, .str z] H' (fun v H'' => ∃ b : Bool, v = .bl b ∧ ∃ c : Bool, V.bl b = .bl c ∧ c = false ∧ Ext H H'') E) ∧ ∀ H', Ext H H' → Q (.bl false) H'
theorem op_inOdd (FO : FnOk X.prog X.w X.K X.mg X.base CX n f fd ps sp) (hb : Binds X.K fd ps []) (hx : Passes CX X E) (hr : Room (n + 1) X.A) (m : Own X.K C "__eq__" f) : OpR X (compareOp .In) (rInOdd X.K C sp E) := by
  intro pins s σ H x y v u Q I rx ry h
  obtain ⟨a, dx, p, fs, zs, rfl, rfl, ha, hp, hsub, hs, q⟩ := h
  cases rx
  cases ry
  have sb : Sub X (n + 1) X.A := ⟨hr, rfl⟩
  obtain ⟨_, its, rv, o, h1, h2, k, h3⟩ := (show ObjOk X.prog X.w H s.heap p (.tup (zs.map V.str)) from I.hok p _ hp)
  obtain ⟨cls, dd, data, sl⟩ := o
  simp only at h2 h3
  subst h2 h3
  have turn : ∀ y, y ∈ its.toArray → ∀ s, (∃ H', Inv X pins σ H' s ∧ Ext H H') → wpAny (model X.prog X.w) X.A.in1 (eqBool y (.ref a)) (fun r s' => r = false ∧ ∃ H', Inv X pins σ H' s' ∧ Ext H H') X.xe s := by
    rintro y hy s1 ⟨H1, I1, e1⟩
    obtain ⟨z, mz, rz⟩ := strs_vals rv y (by simpa using hy)
    have rz' := rz
    obtain ⟨t, rfl⟩ := rz
    unfold eqBool
    refine wpAny_holding ?_
    refine wpAny_ite_split (fun hab => absurd (eq_of_beq hab) nofun) (fun _ => ?_)
    refine wpAny_bind (wpAny_mono (rc_refl (Q := fun v H' => ∃ b : Bool, v = .bl b ∧ b = false ∧ Ext H H') FO hb hx sb.in1 m I1 rz' (e1 _ _ ha) (.str z) hsub ?_) (fun r s' hv => ?_) fun _ _ x => x)
    · exact hs z mz H1 e1
    · obtain ⟨w, H', I', rw', b, rfl, rfl, e⟩ := hv
      cases rw'
      exact wpAny_truthy_bool ⟨rfl, H', I', e⟩
  show wpAny _ X.A (do return .bool (← contains (.ref p) (.ref a))) (EP X pins σ Q) X.xe s
  refine wpAny_bind (wpAny_contains_slot (T := "tuple") ⟨_, h1, rfl⟩ F.slot_tuple_contains (wpAny_mono (GQ.call_here (E := X.xe) (Q := fun v s' => v = .bool false ∧ ∃ H', Inv X pins σ H' s' ∧ Ext H H') F.slot_tuple_contains ⟨_, h1, rfl⟩ F.entry_tuple_contains (F.args_tuple_contains_2 _ _) (contains_no p _ _ _ _ (.ref a) (fun s' => ∃ H', Inv X pins σ H' s' ∧ Ext H H') turn (fun s' q => ⟨rfl, q⟩) h1 ⟨H, I, Ext.rfl'⟩)) (fun v s' hv => ?_) fun _ _ x => x))
  obtain ⟨rfl, H', I', e⟩ := hv
  exact wpAny_truthy_bool (wpAny_pure ⟨.bl false, H', I', rfl, q H' e⟩)
end
end Bk

/-! != of two instances of a class that says == itself and nothing of != -/
namespace Bk
open PySem PySem.Spec PyProof.Rows L2
theorem ns_some {K : PySem.W.Frag} {h : Heap} {N : Addr} {mN : Str → Option Value} {m : Str} {u : Value} (kin : K.In h) (ns : h.Ns N mN) (e : PySem.W.nsIn K N m = some (some u)) : mN m = some u := by
  obtain ⟨ob, ents, epo, atN, dat, _, look⟩ := ns
  unfold PySem.W.nsIn at e
  split at e
  · rename_i cl di ents' epo' slo lk
    have both := kin _ _ lk
    rw [atN] at both
    cases both
    cases dat
    split at e
    · rename_i ent found
      cases e
      rw [← look]
      unfold nsFind findBy
      rw [← Array.find?_toList, found]
      rfl
    · split at e <;> cases e
  · cases e
def sixB : List (Option Value) → Bool
  | [_, _, _, _, some (.builtin _), _] => true
  | _ => false
theorem sixB_ok {l : List (Option Value)} (h : sixB l = true) : ∃ a b c d n e, l = [a, b, c, d, some (.builtin n), e] := by
  unfold sixB at h
  split at h
  · exact ⟨_, _, _, _, _, _, rfl⟩
  · cases h
def eqCls (K : PySem.W.Frag) (C f : Addr) : Bool := match K.lookup C with
  | some ⟨.type t, _, .cls cd, sl⟩ => decide (t = "type") && (decide (cd.mro = [.ref C, .type "object"]) && (!cd.hasDel && (sixB sl.toList && (PySem.W.nsOkIn K cd.ns && (decide (PySem.W.nsIn K cd.ns "__eq__" = some (some (.ref f))) && decide (PySem.W.nsIn K cd.ns "__ne__" = some none))))))
  | _ => false
theorem eqCls_ok {K : PySem.W.Frag} {C f x : Addr} {h : Heap} {o : Obj} (X : K.In h) (e : eqCls K C f = true) (hf : PySem.W.isFn K (.ref f) = true) (hx : h.get? x = some o) (hc : o.cls = .ref C) : h.OwnEqNoNe x C f "object" [.type "object"] := by
  unfold eqCls at e
  split at e
  · rename_i t dd cd sl q
    obtain ⟨h1, e⟩ := Bool.and_eq_true_iff.mp e
    obtain ⟨h2, e⟩ := Bool.and_eq_true_iff.mp e
    obtain ⟨h3, e⟩ := Bool.and_eq_true_iff.mp e
    obtain ⟨h4, e⟩ := Bool.and_eq_true_iff.mp e
    obtain ⟨h5, e⟩ := Bool.and_eq_true_iff.mp e
    obtain ⟨h6, h7⟩ := Bool.and_eq_true_iff.mp e
    have e1 := of_decide_eq_true h1
    have e2 := of_decide_eq_true h2
    obtain ⟨a, b, c, d, n, e', e6⟩ := sixB_ok h4
    obtain ⟨l⟩ := sl
    obtain ⟨c1, c2, c3, c4, c5, c6, c7, c8, c9, c10, c11⟩ := cd
    subst e1
    simp only at e2 e6 h5 h6 h7
    subst e2 e6
    have h3 : c11 = false := by
      cases c11 with
      | true => cases h3
      | false => rfl
    subst h3
    have hN : h.Ns c4 (h.nsMap c4) := .of_isNs (PySem.W.isNs_of_in X h5)
    have hff : ∃ of, h.get? f = some of ∧ of.cls = .type "function" := by
      have z : (K.lookup f).map (·.cls) = some (.type "function") := beq_iff_eq.mp hf
      cases q2 : K.lookup f with
      | none =>
        rw [q2] at z
        cases z
      | some of =>
        rw [q2] at z
        exact ⟨of, X _ _ q2, Option.some.inj z⟩
    obtain ⟨of, g1, g2⟩ := hff
    exact ⟨o, of, c1, c5, c4, c2, c6, c7, c8, c9, c10, dd, a, b, c, d, e', n, h.nsMap c4, _, hx, hc, X _ _ q, hN, ns_some X hN (of_decide_eq_true h6), g1, g2, F.cmp_object.mro, F.cmp_object.eq.lookup, PySem.W.nsMap_none_of_in X h5 (of_decide_eq_true h7)⟩
  · cases e
section
variable {X : Cx} {CX : CXT} {n : Nat} {C f : Addr} {fd : FuncData} {ps : List Str} {sp : Sp} {E : XK}
def rNeOwn (C : Addr) (sp : Sp) (E : XK) : R2 := fun x y H Q => ∃ (a dx b dy : Addr) (fs gs : List (Str × V)), x = .ref a ∧ y = .ref b ∧ H a = some (.ins C dx fs) ∧ H b = some (.ins C dy gs) ∧ sp [.ref a, .ref b] H (fun v H' => ∃ r : Bool, v = .bl r ∧ Q (.bl (!r)) H') E
theorem op_neOwn (FO : FnOk X.prog X.w X.K X.mg X.base CX n f fd ps sp) (hb : Binds X.K fd ps []) (hx : Passes CX X E) (hr : Room (n + 1) X.A) (e : eqCls X.K C f = true) (hf : PySem.W.isFn X.K (.ref f) = true) : OpR X (compareOp .NotEq) (rNeOwn C sp E) := by
  intro pins s σ H x y v u Q I rx ry h
  obtain ⟨a, dx, b, dy, fs, gs, rfl, rfl, ha, hb', hs⟩ := h
  cases rx
  cases ry
  have sb : Sub X (n + 1) X.A := ⟨hr, rfl⟩
  obtain ⟨mA, OA, _⟩ := ins_get I.hok ha
  obtain ⟨mB, OB, _⟩ := ins_get I.hok hb'
  obtain ⟨hp, g, d, t, os⟩ := s
  refine compareOp_ne_ownEq F.cmp_object (eqCls_ok I.kIn e hf OA.obj rfl) OB.obj rfl (hu_of hr) (wpAny_mono (own_run (vs := [.ref a, .ref b]) FO hb hx sb.in1 I (.cons rfl (.cons rfl .nil)) hs) (fun v s' hv => ?_) fun _ _ z => z)
  obtain ⟨z, H', I', rv, r, rfl, q⟩ := hv
  cases rv
  exact ⟨r, rfl, .bl (!r), H', I', rfl, q⟩
end
end Bk

/-! in of a tuple of texts for lists, tuples and dicts: never -/
namespace Bk
open PySem PySem.Spec PyProof.Rows L2
open AutoSeq1 (wpAny_loadPart')
open MeetsSeq MeetsSeq2 MeetsSeq3 SeqRoads2
theorem str_eq_dict (b : Str) (u : Tok) (l : Addr) (c : Value) (es : Array DictEntry) (ep : Nat) (dd : Option Addr) (sl : Array (Option Value)) :
    Meets (Builtin.«str.__eq__» ⟨[.str b u, .ref l], []⟩) (fun _ R s => s.heap.get? l = some { cls := c, dict := dd, data := .dict es ep, slots := sl } ∧ R (.ok (.ret .notImplemented)) s) :=
  .of_wp fun prog w A R s h => by obtain ⟨hp, g, d, tk, os⟩ := s; obtain ⟨hl, h⟩ := h; wp_walk using wpAny_loadPart' hl, wpAny_load hl; exact ⟨_, rfl, h⟩
theorem dict_eq_str (l : Addr) (es : Array DictEntry) (ep : Nat) (dd : Option Addr) (sl : Array (Option Value)) (b : Str) (u : Tok) :
    Meets (Builtin.«dict.__eq__» ⟨[.ref l, .str b u], []⟩) (fun _ R s => s.heap.get? l = some { cls := .type "dict", dict := dd, data := .dict es ep, slots := sl } ∧ R (.ok (.ret .notImplemented)) s) :=
  .of_wp fun prog w A R s h => by obtain ⟨hp, g, d, tk, os⟩ := s; obtain ⟨hl, h⟩ := h; have f1 := F.sub_str_dict; wp_walk using wpAny_loadPart' hl; exact ⟨_, rfl, h⟩
section
variable {A : Around} {s : Shared}
theorem at_str_dict {l : Addr} {o : Obj} {es : Array DictEntry} {ep : Nat} (b : Str) (u : Tok) (hl : s.heap.get? l = some o) (hc : o.cls = .type "dict") (hd : o.data = .dict es ep) (hu : A.units < cLine) : SeqAt.EqAt A s (.str b u) (.ref l) false := fun prog w E Q h => by
  obtain ⟨cls, dd, data, sl⟩ := o
  simp only at hc hd
  subst hc hd
  unfold eqBool
  refine wpAny_holding ?_
  refine wpAny_ite_split (fun hab => absurd (eq_of_beq hab) nofun) (fun _ => ?_)
  refine wpAny_bind (SeqAt.rc_eq_decline_or (k := false) (typeIs_str s b u) ⟨_, hl, rfl⟩ (by decide) F.sub_dict_str F.slot_str_eq F.slot_dict_eq_refl
    (fun _ hq => call_meets F.slot_str_eq (typeIs_str s b u) F.entry_str_eq (F.args_str_eq_2 _ _) (str_eq_dict b u l (.type "dict") es ep dd sl) ⟨hl, hq⟩)
    (fun _ hq => call_meets F.slot_dict_eq_refl ⟨_, hl, rfl⟩ F.entry_dict_eq (F.args_dict_eq_2 _ _) (dict_eq_str l es ep dd sl b u) ⟨hl, hq⟩)
    (fun _ hq => wpAny_of_eq (rfl : isSame (.str b u) (.ref l) = pure false) hq) (.inr hu) (wpAny_truthy_bool h))
end
/-- lists, tuples, dicts that the heap tracks -/
inductive Box (H : Hp) : V → Prop where
  | lst {l : Addr} {xs : List V} (h : H l = some (.lst xs)) : Box H (.ref l)
  | tup {l : Addr} {xs : List V} (h : H l = some (.tup xs)) : Box H (.ref l)
  | dK {l : Addr} {kvs : List (Key × V)} (h : H l = some (.dK kvs)) : Box H (.ref l)
section
variable {X : Cx}
theorem at_str_box {A : Around} {pins : List (Addr × Obj)} {σ : L2.St} {H : Hp} {s : Shared} {x : V} {v : Value} (I : Inv X pins σ H s) (bx : Box H x) (rx : RelV x v) (hu : A.units < cLine) (b : Str) (t : Tok) : SeqAt.EqAt A s (.str b t) v false := by
  cases bx with
  | @lst l xs h =>
    cases rx
    obtain ⟨_, its, k, _, h1⟩ := (show ObjOk X.prog X.w H s.heap l (.lst xs) from I.hok l _ h)
    exact SeqAt.EqAt.str_list b t (items := its.toArray) ⟨_, h1, rfl, _, rfl⟩ hu
  | @tup l xs h =>
    cases rx
    obtain ⟨_, its, _, p⟩ := (show ObjOk X.prog X.w H s.heap l (.tup xs) from I.hok l _ h)
    exact SeqAt.EqAt.str_tuple b t p hu
  | @dK l kvs h =>
    cases rx
    obtain ⟨_, _, vs, _, o, es, ep, h1, h2, h3, _⟩ := (show ObjOk X.prog X.w H s.heap l (.dK kvs) from I.hok l _ h)
    exact at_str_dict b t h1 h2.1 h3 hu
def rInBox : R2 := fun x y H Q => ∃ (p : Addr) (zs : List Str), y = .ref p ∧ H p = some (.tup (zs.map V.str)) ∧ Box H x ∧ Q (.bl false) H
theorem op_inBox (hu : X.A.units + 1 < cLine) : OpR X (compareOp .In) rInBox := by
  intro pins s σ H x y v u Q I rx ry h
  obtain ⟨p, zs, rfl, hp, bx, q⟩ := h
  cases ry
  obtain ⟨_, its, rv, pl⟩ := (show ObjOk X.prog X.w H s.heap p (.tup (zs.map V.str)) from I.hok p _ hp)
  refine SeqAt.in_tupleAt (fun _ => false) pl (fun w hw => ?_) ⟨.bl false, H, I, ?_, q⟩
  · obtain ⟨z, mz, t, rfl⟩ := strs_vals rv w (by simpa using hw)
    exact at_str_box I bx rx (A := X.A.in1) (by show X.A.in1.units < cLine; exact hu) z t
  · have : its.toArray.any (fun _ => false) = false := by simp
    rw [this]
    rfl
end
end Bk

/-! the same with K told, and xs[::-1] -/
namespace Bk
open PySem PySem.Spec PyProof.Rows L2
section
variable {X : Cx} {CX : CXT} {n : Nat} {C f : Addr} {fd : FuncData} {ps : List Str} {sp : Sp} {E : XK} (K : PySem.W.Frag)
theorem kEqOwn (F : FnOk X.prog X.w X.K X.mg X.base CX n f fd ps sp) (hb : Binds X.K fd ps []) (hx : Passes CX X E) (hr : Room n X.A) (m : Own X.K C "__eq__" f) (e : X.K = K := by rfl) : OpR X (compareOp .Eq) (rCmpOwn K C sp E) := e ▸ op_cmpOwn (op := .Eq) F hb hx hr m
theorem kEqRefl (F : FnOk X.prog X.w X.K X.mg X.base CX n f fd ps sp) (hb : Binds X.K fd ps []) (hx : Passes CX X E) (hr : Room n X.A) (m : Own X.K C "__eq__" f) (e : X.K = K := by rfl) : OpR X (compareOp .Eq) (rEqRefl K C sp E) := e ▸ op_eqRefl F hb hx hr m
theorem kRev {e : Expr} {te : TE} {k : Nat} {p1 p2 p3 pos : Pos} (he : PE X e te) (h : X.K = K := by rfl) : PE X (.Subscript e (.Slice none none (some (.UnaryOp .USub (.Constant (.int 1) k p1) p2)) p3) pos) (tRevL K te) := h ▸ pe_revL he
end
end Bk

namespace Bk
open PySem PySem.Spec PyProof.Rows L2
def topS (i : Nat) : Stmt := PySem.Challenge.pw_blockshares_k01_folders_made.main.body.getD i (.Pass ⟨0, 0, 0, 0⟩)
section
variable {P : Program} {w : World} {K : PySem.W.Frag} {mg : Str → Option Value} {base : Heap}
theorem scIsList : FnScope ["thing"] ["thing"] (defScope (topS 6)) := ⟨rfl, rfl, rfl, by decide +kernel, rfl, by decide +kernel, by decide +kernel⟩
theorem ok_is_list (B : Bi mg) {f : Addr} {fd : FuncData} (F : Fun K "is_list" "is_list" (topS 6) f fd) : FnOk P w K mg base CX0 1 f fd ["thing"] (spIsList K) := by
  refine F.ok scIsList (fun vs H Q E h => ?_) (fun cdv A outer s H vs Q E hr h => ?_)
  · obtain ⟨x, b, rfl, _⟩ := h
    rfl
  · obtain ⟨x, b, rfl, ⟨t, ty, kk⟩, q⟩ := h
    have nd := scIsList.nd
    refine ⟨_, (pss_one (ps_ret (pe_callB (kIsiT K) (by rfl) B.isinstance (by decide +kernel) (pa_cons (pv 0) (pa_cons (pe_tup (pa_cons (pe_bltn (v := .ty "list") (by rfl) B.list (by decide +kernel) rfl) (pa_cons (pe_bltn (v := .ty "tuple") (by rfl) B.tuple (by decide +kernel) rfl) pa_nil))) pa_nil))))), ?_⟩
    refine ⟨_, rfl, by show 2 ≤ sizeLine; decide, fun p np => ?_⟩
    have ty' : TyX K (upd H p (.tup [.ty "list", .ty "tuple"])) x t := TyX.same ty (same_upd np)
    exact ⟨x, p, _, t, _, b, rfl, upd_same, .cons (.ty _) (.cons (.ty _) .nil), ty', kk, q _ (same_upd np)⟩
theorem scIsName : FnScope ["thing", "letter"] ["thing"] (defScope (topS 7)) := ⟨rfl, rfl, rfl, by decide +kernel, rfl, by decide +kernel, by decide +kernel⟩
theorem ok_is_name (B : Bi mg) {f : Addr} {fd : FuncData} {t1 t2 : Tok} (g_LETTERS : mg "LETTERS" = some (.str (Str.ofString "abcdefghijklmnopqrstuvwxyz") t1)) (g_LONGEST_NAME : mg "LONGEST_NAME" = some (.int 8 t2)) (F : Fun K "is_name" "is_name" (topS 7) f fd) : FnOk P w K mg base CX0 1 f fd ["thing"] (spIsName K) := by
  refine F.ok scIsName (fun vs H Q E h => ?_) (fun cdv A outer s H vs Q E hr h => ?_)
  · obtain ⟨x, rfl, _⟩ := h
    rfl
  · obtain ⟨x, rfl, ⟨t, ty, kk, hz⟩, q⟩ := h
    have nd := scIsName.nd
    refine ⟨_, (pss_cons (ps_if (PW.pt (pw_or (pt_not (pt_val (pe_callB (kIsi K) (by rfl) B.isinstance (by decide +kernel) (pa_cons (pv 0) (pa_cons (pe_bltn (v := .ty "str") (by rfl) B.str (by decide +kernel) rfl) pa_nil))))) (pw_or1 (pt_not (pt_chain op_le op_le pe_int (pe_callB (kLen K) (by rfl) B.len PySem.boot_len (pa_cons (pv 0) pa_nil)) (pe_glob (v := .int 8) (by rfl) g_LONGEST_NAME ⟨_, rfl⟩)))))) (pss_one (ps_ret pe_bl)) pss_nil)
      (pss_one (ps_ret (pe_callB (kAll K rfl) (by rfl) B.all (by decide +kernel) (pa_cons (pe_lc (own := [("letter", 1)]) rfl nd (pi_str (pv 0)) (blkOk_by (N := ["thing", "letter"]) (sc := defScope (topS 7)) (by decide +kernel)) (fun _ _ _ _ _ => (pg_name (i := 1) nd rfl (Or.inl rfl))) (fun _ _ _ _ _ => pts_nil) (fun _ _ _ _ _ => (pe_cmpR op_in_sign (pv 1) (pe_glob (v := .str (Str.ofString "abcdefghijklmnopqrstuvwxyz")) (by rfl) g_LETTERS ⟨_, rfl⟩) rfl))) pa_nil))))), ?_⟩
    refine ⟨_, rfl, x, _, t, _, _, rfl, .ty _, ty, kk, _, rfl, ?_⟩
    cases x with
    | str z =>
      refine iteF ?_
      have hz1 : z.length ≤ sizeLine := Evl.sz_of (hz z rfl)
      refine ⟨_, rfl, _, _, rfl, ⟨hz1, rfl⟩, _, _, rfl, rfl, _, rfl, ?_⟩
      refine ite2 (fun h1 => ?_) (fun h1 => ?_)
      · refine ⟨_, _, rfl, rfl, _, rfl, ?_⟩
        refine ite2 (fun h2 => ?_) (fun h2 => ?_)
        · have e : isNameB (.str z) = false := by
            have h2 : ¬ z.length ≤ 8 := by
              intro h3
              have : decide ((z.length : Int) ≤ 8) = true := decide_eq_true (by omega)
              rw [this] at h2
              cases h2
            simp [isNameB, isNameS, h2]
          rw [e] at q
          exact q _ (Same.refl _)
        · have e : isNameB (.str z) = (z.cps.toList.map fun c => decide (c ∈ lettersL)).all id := by
            have h1 := of_decide_eq_true h1
            have h2 : z.length ≤ 8 := by
              by_cases h3 : (z.length : Int) ≤ 8
              · omega
              · rw [decide_eq_false h3] at h2
                exact (h2 rfl).elim
            simp [isNameB, isNameS, h2, show 1 ≤ z.length by omega]
          refine ⟨_, rfl, z, rfl, fun D nD => lc_it walk_str (Upto H D z.cps.toList fun c => V.bl (decide (c ∈ lettersL))) (.zero nD) (fun _ _ _ _ => trivial) ?_ ?_⟩
          · rintro i x H1 H2 hi u ⟨rfl, c, hc, rfl⟩
            have hc' : z.cps.toList[i]? = some c := by rw [← hc]; simp
            refine ⟨rfl, ?_⟩
            refine yes2 ?_
            exact ⟨_, rfl, c, _, rfl, rfl, u.next nD hc' (Same.refl _) (hz z rfl)⟩
          · intro H1 u
            have hD := u.all (by simp)
            rw [e] at q
            exact ⟨D, z.cps.toList.map fun c => decide (c ∈ lettersL), rfl, .of (by rw [List.map_map]; exact hD), q _ u.sm⟩
      · refine ⟨_, rfl, ?_⟩
        refine iteT ?_
        have e : isNameB (.str z) = false := by
          have h1 : ¬ 1 ≤ z.length := by
            intro h3
            exact h1 (decide_eq_true (by omega))
          simp [isNameB, isNameS, h1]
        rw [e] at q
        exact q _ (Same.refl _)
    | _ => exact iteT (iteT (q _ (Same.refl _)))
end
end Bk

namespace Bk
open PySem PySem.Spec PyProof.Rows L2
section
variable {P : Program} {w : World} {K : PySem.W.Frag} {mg : Str → Option Value} {base : Heap}
theorem scStart : FnScope ["_law_script"] ["_law_script"] (defScope (topS 17)) := ⟨rfl, rfl, rfl, by decide +kernel, rfl, by decide +kernel, by decide +kernel⟩
theorem ok_start (B : Bi mg) {f : Addr} {fd : FuncData} (F : Fun K "_law_start" "_law_start" (topS 17) f fd) : FnOk P w K mg base CX0 1 f fd ["_law_script"] (spStart K) := by
  refine F.ok scStart (fun vs H Q E h => ?_) (fun cdv A outer s H vs Q E hr h => ?_)
  · obtain ⟨a, ns, rfl, _⟩ := h
    rfl
  · obtain ⟨a, ns, rfl, hS, q⟩ := h
    refine ⟨_, (pss_one (ps_ret (pe_lst (pa_cons (pe_callTy (kList K) (by rfl) B.list (by decide +kernel) (pa_cons (pv 0) pa_nil)) (pa_cons pe_int (pa_cons pe_int (pa_cons pe_int pa_nil))))))), ?_⟩
    refine ⟨_, rfl, a, _, rfl, .inl hS, fun c nc => ⟨by show 4 ≤ sizeLine; decide, fun st nst => ?_⟩⟩
    have hne : c ≠ st := fun e => by
      rw [← e, upd_same] at nst
      cases nst
    have nst' : H st = none := by rw [upd_ne hne.symm] at nst; exact nst
    refine q st c _ (Same.trans (same_upd nc) (same_upd nst)) nst' nc ⟨hne, ns, 0, 0, 11, ?_, upd_same, by omega, by omega, by omega, by omega, by omega⟩
    rw [upd_ne hne, upd_same]
theorem scDraw : FnScope ["_law_stream", "_law_many", "_law_cell", "_law_digit", "_law_mixed"] ["_law_stream", "_law_many"] (defScope (topS 18)) := ⟨rfl, rfl, rfl, by decide +kernel, rfl, by decide +kernel, by decide +kernel⟩
theorem ok_draw (B : Bi mg) {f : Addr} {fd : FuncData} (F : Fun K "_law_draw" "_law_draw" (topS 18) f fd) : FnOk P w K mg base CX0 1 f fd ["_law_stream", "_law_many"] spDraw := by
  refine F.ok scDraw (fun vs H Q E h => ?_) (fun cdv A outer s H vs Q E hr h => ?_)
  · obtain ⟨st, c, n, k, rfl, _⟩ := h
    rfl
  · obtain ⟨st, c, n, k, rfl, S, hn, hk0, hk1, q⟩ := h
    have hu := hu_of hr
    have nd := scDraw.nd
    refine ⟨_, (Evl.pss_cut (ps_asg (pe_op op_add (pe_ix (kIxL K) (pv 0) pe_int (fun _ _ => rfl)) pe_int) (pg_sub (pv 0) pe_int set_list))
      (Evl.pss_cut (ps_if (PW.pt (pw_and (pt_cmpR op_eq (pe_ix (kIxL K) (pv 0) pe_int (fun _ _ => rfl)) pe_int (nomark _)) (pw_and1 (pt_cmpR (kNeD K hr.units) (pe_ix (kIxL K) (pv 0) pe_int (fun _ _ => rfl)) (pe_lst pa_nil) (nomark _))))) (pss_cons (ps_set (i := 2) nd rfl (Or.inl rfl) (pe_bm PySem.F.plainAttrs_list PySem.F.slot_list_pop PySem.F.type_list_pop mt_popAt (pe_ix (kIxL K) (pv 0) pe_int (fun _ _ => rfl)) (pa_cons pe_int pa_nil)))
      (pss_cons (ps_asg (pe_op op_mod (pe_callTy call_int1 (by rfl) B.int (by decide +kernel) (pa_cons (pe_op op_add (pe_op op_add (pe_op op_mul (pe_ix (kIxL K) (pv 0) pe_int (fun _ _ => rfl)) pe_int) (pv 2)) pe_int) pa_nil)) pe_int) (pg_sub (pv 0) pe_int set_list))
      (pss_one (ps_asg (pe_ifExp (pt_cmpR op_ge (pv 2) (pe_op op_pow pe_int pe_int) (nomark _)) (pv 2) pe_int) (pg_sub (pv 0) pe_int set_list))))) pss_nil)
      (pss_cons (ps_if (pt_cmpR op_gt (pe_ix (kIxL K) (pv 0) pe_int (fun _ _ => rfl)) pe_int (nomark _)) (pss_cons (ps_set (i := 3) nd rfl (Or.inl rfl) (pe_op op_mod (pe_callTy call_int1 (by rfl) B.int (by decide +kernel) (pa_cons (pe_ix (kIxL K) (pv 0) pe_int (fun _ _ => rfl)) pa_nil)) (pv 1)))
      (pss_cons (ps_asg (pe_op op_fdiv (pe_ix (kIxL K) (pv 0) pe_int (fun _ _ => rfl)) (pv 1)) (pg_sub (pv 0) pe_int set_list))
      (pss_one (ps_ret (pv 3))))) pss_nil)
      (pss_cons (ps_set (i := 4) nd rfl (Or.inl rfl) (pe_op op_mod (pe_callTy call_int1 (by rfl) B.int (by decide +kernel) (pa_cons (pe_op op_pow (pe_op op_add (pe_op op_add (pe_ix (kIxL K) (pv 0) pe_int (fun _ _ => rfl)) (pe_op op_mul pe_int (pe_ix (kIxL K) (pv 0) pe_int (fun _ _ => rfl)))) pe_int) pe_int) pa_nil)) pe_int))
      (pss_one (ps_ret (pe_op op_mod (pe_op op_mod (pe_callTy call_int1 (by rfl) B.int (by decide +kernel) (pa_cons (pe_op op_pow (pe_op op_add (pe_op op_add (pe_op op_mul (pv 4) pe_int) (pe_op op_mul pe_int (pe_ix (kIxL K) (pv 0) pe_int (fun _ _ => rfl)))) pe_int) pe_int) pa_nil)) pe_int) (pv 1)))))))), ?_⟩
    obtain ⟨ne, cells, a, b, m, hc, hs, ha, hb0, hb1, hm0, hm1⟩ := S
    refine ⟨fun σ' H1 => σ' = [some (.ref st), some (.int k), none, none, none] ∧ H1 st = some (.lst [.ref c, .int a, .int (b + 1), .int m]) ∧ H1 c = some (.lst (cells.map V.int)) ∧ Kept st c H H1, ?_, ?_⟩
    · refine ⟨_, rfl, st, _, _, _, rfl, rfl, SqL.of hs, atI_nat rfl, _, _, rfl, rfl, _, rfl, st, _, _, 2, rfl, rfl, hs, rfl, rfl, upd_same, by rw [upd_ne ne]; exact hc, fun x o n1 _ e => by rw [upd_ne n1]; exact e⟩
    rintro σ1 H1 ⟨rfl, hs1, hc1, kp1⟩
    refine ⟨fun σ' H2 => ∃ (a' m' : Int) (cells' : List Int) (v2 : Option V), 0 ≤ a' ∧ 0 ≤ m' ∧ m' < 2147483647 ∧ H2 c = some (.lst (cells'.map V.int)) ∧ H2 st = some (.lst [.ref c, .int a', .int (b + 1), .int m']) ∧ Kept st c H H2 ∧ σ' = [some (.ref st), some (.int k), v2, none, none], ?_, ?_⟩
    · refine ⟨_, rfl, st, _, _, _, rfl, rfl, SqL.of hs1, atI_nat rfl, rfl, _, rfl, ?_⟩
      refine ite2 (fun h => ?_) (fun h => ?_)
      · refine ⟨_, rfl, st, _, _, _, rfl, rfl, SqL.of hs1, atI_nat rfl, by show 0 ≤ sizeLine; exact Nat.zero_le _, fun l nl => ?_⟩
        have e1 := same_upd (H := H1) (o := HO.lst []) nl
        refine ⟨.list (cells.map PyData.int), .list [], .lst (SqL.of (e1 _ _ hc1)) (dp_ints cells), .lst (SqL.of upd_same) .nil, shaped_ints cells, rfl, _, rfl, ?_⟩
        rw [eqv_nil]
        have hs2 := e1 _ _ hs1
        have hc2 := e1 _ _ hc1
        have kp2 := kp1.trans (Same.kept e1)
        generalize upd H1 l (.lst []) = H2 at hs2 hc2 kp2 ⊢
        clear e1 nl
        cases cells with
        | nil => exact ⟨a, m, [], none, ha, hm0, hm1, hc2, hs2, kp2, rfl⟩
        | cons x r =>
          refine iteT ?_
          refine ⟨_, rfl, st, _, _, _, rfl, rfl, SqL.of hs2, atI_nat rfl, .inl ⟨rfl, _, SqL.of hc2⟩, c, _, 0, 0, _, rfl, rfl, hc2, by decide, by decide, (ixN_seq (Evl.ixN_nat (j := 0) (by simp))).1, rfl, ?_⟩
          have hc3 : (upd H2 c (HO.lst ((List.map V.int (x :: r)).eraseIdx 0))) c = some (.lst (r.map V.int)) := upd_same
          have hs3 : (upd H2 c (HO.lst ((List.map V.int (x :: r)).eraseIdx 0))) st = some (.lst [.ref c, .int a, .int (b + 1), .int m]) := by rw [upd_ne ne.symm]; exact hs2
          have kp3 : Kept st c H (upd H2 c (HO.lst ((List.map V.int (x :: r)).eraseIdx 0))) := kp2.trans fun y o _ n2 e => by rw [upd_ne n2]; exact e
          generalize upd H2 c (HO.lst ((List.map V.int (x :: r)).eraseIdx 0)) = H3 at hc3 hs3 kp3 ⊢
          have m0 := Int.emod_nonneg (m * 8191 + x + 3) (show (2147483647 : Int) ≠ 0 by omega)
          have m1 := Int.emod_lt_of_pos (m * 8191 + x + 3) (show (0 : Int) < 2147483647 by omega)
          refine ⟨_, rfl, st, _, _, _, rfl, rfl, SqL.of hs3, atI_nat rfl, _, _, rfl, rfl, .inl ⟨by omega, by omega⟩, _, rfl, _, _, rfl, rfl, _, _, rfl, rfl, .inl ⟨_, rfl, ?_⟩⟩
          refine ⟨_, _, rfl, rfl, by omega, ?_⟩
          refine ⟨_, rfl, st, _, _, 3, rfl, rfl, hs3, rfl, ?_⟩
          refine ⟨_, rfl, _, _, rfl, rfl, ⟨by omega, by omega, by omega⟩, _, _, rfl, rfl, _, rfl, ?_⟩
          refine ite2 (fun hx => ?_) (fun hx => ?_)
          · have hx : (10 : Int) ^ (18 : Int).toNat ≤ x := of_decide_eq_true hx
            have hp : (0 : Int) ≤ 10 ^ (18 : Int).toNat := by decide
            refine ⟨_, rfl, _, rfl, st, _, _, 1, rfl, rfl, upd_same, rfl, ?_⟩
            refine ⟨x, _, r, some (.int x), by omega, m0, m1, ?_, upd_same, ?_, rfl⟩
            · rw [upd_ne ne, upd_ne ne]; exact hc3
            · exact kp3.trans fun y o n1 _ e => by rw [upd_ne n1, upd_ne n1]; exact e
          · refine ⟨_, rfl, st, _, _, 1, rfl, rfl, upd_same, rfl, ?_⟩
            refine ⟨0, _, r, some (.int x), by omega, m0, m1, ?_, upd_same, ?_, rfl⟩
            · rw [upd_ne ne, upd_ne ne]; exact hc3
            · exact kp3.trans fun y o n1 _ e => by rw [upd_ne n1, upd_ne n1]; exact e
      · exact ⟨a, m, cells, none, ha, hm0, hm1, hc1, hs1, kp1, rfl⟩
    · rintro σ' H2 ⟨a', m', cells', v2, ha', hm0', hm1', hc2, hs2, kp2, rfl⟩
      refine ⟨_, rfl, st, _, _, _, rfl, rfl, SqL.of hs2, atI_nat rfl, _, _, rfl, rfl, _, rfl, ?_⟩
      refine ite2 (fun h => ?_) (fun h => ?_)
      · have h := of_decide_eq_true h
        refine ⟨_, rfl, st, _, _, _, rfl, rfl, SqL.of hs2, atI_nat rfl, .inl ⟨_, rfl, ?_⟩⟩
        refine ⟨_, rfl, _, _, rfl, rfl, hk0, ?_⟩
        refine ⟨_, rfl, st, _, _, _, rfl, rfl, SqL.of hs2, atI_nat rfl, ?_⟩
        refine ⟨_, rfl, _, _, rfl, rfl, ⟨hk0, by omega⟩, ?_⟩
        refine ⟨_, rfl, st, _, _, 1, rfl, rfl, hs2, rfl, ?_⟩
        refine ⟨_, rfl, ?_⟩
        refine q (a' % k) _ (Int.emod_nonneg _ (by omega)) (Int.emod_lt_of_pos _ hk0) ⟨ne, cells', a' / k, b + 1, m', by rw [upd_ne ne]; exact hc2, upd_same, Int.ediv_nonneg ha' (by omega), by omega, by omega, hm0', hm1'⟩ (kp2.trans fun x o n1 _ e => by rw [upd_ne n1]; exact e)
      · refine ⟨_, rfl, st, _, _, _, rfl, rfl, SqL.of hs2, atI_nat rfl, ?_⟩
        refine ⟨_, rfl, st, _, _, _, rfl, rfl, SqL.of hs2, atI_nat rfl, _, _, rfl, rfl, .inl ⟨by omega, by omega⟩, ?_⟩
        refine ⟨_, _, rfl, rfl, _, _, rfl, rfl, _, _, rfl, rfl, ⟨by omega, by omega, by omega⟩, .inl ⟨_, rfl, ?_⟩⟩
        refine ⟨_, _, rfl, rfl, by omega, ?_⟩
        have d0 := Int.emod_nonneg ((m' + 7919 * (b + 1) + 104729) ^ (5 : Int).toNat) (show (2147483629 : Int) ≠ 0 by omega)
        have d1 := Int.emod_lt_of_pos ((m' + 7919 * (b + 1) + 104729) ^ (5 : Int).toNat) (show (0 : Int) < 2147483629 by omega)
        generalize (m' + 7919 * (b + 1) + 104729) ^ (5 : Int).toNat % 2147483629 = mx at d0 d1 ⊢
        refine ⟨_, rfl, _, _, rfl, rfl, .inl ⟨by omega, by omega⟩, ?_⟩
        refine ⟨_, rfl, st, _, _, _, rfl, rfl, SqL.of hs2, atI_nat rfl, _, _, rfl, rfl, .inl ⟨by omega, by omega⟩, ?_⟩
        refine ⟨_, _, rfl, rfl, _, _, rfl, rfl, _, _, rfl, rfl, ⟨by omega, by omega, by omega⟩, .inl ⟨_, rfl, ?_⟩⟩
        refine ⟨_, _, rfl, rfl, by omega, ?_⟩
        refine ⟨_, rfl, _, _, rfl, rfl, hk0, ?_⟩
        exact q _ _ (Int.emod_nonneg _ (by omega)) (Int.emod_lt_of_pos _ hk0) ⟨ne, cells', a', b + 1, m', hc2, hs2, ha', by omega, by omega, hm0', hm1'⟩ kp2
theorem scPick : FnScope ["_law_stream", "_law_some"] ["_law_stream", "_law_some"] (defScope (topS 19)) := ⟨rfl, rfl, rfl, by decide +kernel, rfl, by decide +kernel, by decide +kernel⟩
theorem pk_len {H : Hp} {st c : Addr} {x : V} {len : Nat} {f : Nat → V} (p : Pk K H st c x len f) : LenV K x H len := by
  cases p with
  | lst h => exact .inl ⟨_, h, rfl⟩
  | tup h => exact .inr ⟨_, h, rfl⟩
  | str hz => exact ⟨hz, rfl⟩
theorem pk_at {H H' : Hp} {st c : Addr} {x : V} {len : Nat} {f : Nat → V} {j : Nat} {Q : VK} (p : Pk K H st c x len f) (k : Kept st c H H') (hj : j < len) (q : Q (f j) H') : rIx K x (.int (j : Int)) H' Q := by
  have sq : ∀ {a : Addr} {u : HO}, Rd H a u → a ≠ st → a ≠ c → Rd H' a u := fun h n1 n2 => h.elim (fun h => .inl (k _ _ n1 n2 h)) fun ⟨o, h⟩ => .inr ⟨o, k _ _ n1 n2 h⟩
  cases p with
  | lst h n1 n2 e => exact .inl ⟨_, _, _, _, rfl, rfl, h.imp (fun h => sq h n1 n2) id, atI_nat (e j hj), q⟩
  | tup h n1 n2 e => exact .inr (.inl ⟨_, _, _, _, rfl, rfl, h.imp (fun h => sq h n1 n2) id, atI_nat (e j hj), q⟩)
  | str hz e =>
    obtain ⟨ch, h1, h2⟩ := e j hj
    rw [h2] at q
    exact .inr (.inr ⟨_, _, ch, rfl, rfl, hz, atI_nat h1, q⟩)
theorem ok_pick (B : Bi mg) {f f1 : Addr} {fd fd1 : FuncData} (c__law_draw : Cal P w K mg base CX0 1 "_law_draw" f1 fd1 ["_law_stream", "_law_many"] spDraw) (F : Fun K "_law_pick" "_law_pick" (topS 19) f fd) : FnOk P w K mg base CX0 2 f fd ["_law_stream", "_law_some"] (spPick K) := by
  refine F.ok scPick (fun vs H Q E h => ?_) (fun cdv A outer s H vs Q E hr h => ?_)
  · obtain ⟨st, c, n, len, x, f, rfl, _⟩ := h
    rfl
  · obtain ⟨st, c, n, len, x, f, rfl, S, hn, h0, h1, pk, q⟩ := h
    have hr__law_draw := hr
    have nd := scPick.nd
    refine ⟨_, (pss_one (ps_ret (pe_ix (kIx K) (pv 1) (pe_call c__law_draw.ok hr__law_draw (by rfl) c__law_draw.g c__law_draw.kp c__law_draw.b .nil pass0 (pa_cons (pv 0) (pa_cons (pe_callB (kLen K) (by rfl) B.len PySem.boot_len (pa_cons (pv 1) pa_nil)) pa_nil))) (fun _ _ => rfl)))), ?_⟩
    refine ⟨_, rfl, _, rfl, _, rfl, _, _, rfl, pk_len pk, st, c, n, _, rfl, S, hn, by omega, by omega, fun d H' d0 d1 S' kp => ?_⟩
    have e : ((d.toNat : Nat) : Int) = d := Int.toNat_of_nonneg d0
    rw [← e]
    exact pk_at pk kp (by omega) (q d.toNat H' (by omega) S' kp)
end
end Bk

namespace Bk
open PySem PySem.Spec PyProof.Rows L2
open TL (tl)
section
variable {P : Program} {w : World} {K : PySem.W.Frag} {mg : Str → Option Value} {base : Heap}
theorem width_at : ∀ j : Nat, j < 6 → ∃ wd : Nat, ([V.int 1, V.int 1, V.int 2, V.int 3, V.int 5, V.int 8] : List V)[j]? = some (V.int (wd : Int)) ∧ 1 ≤ wd ∧ wd ≤ 8
  | 0, _ => ⟨1, rfl, by decide, by decide⟩
  | 1, _ => ⟨1, rfl, by decide, by decide⟩
  | 2, _ => ⟨2, rfl, by decide, by decide⟩
  | 3, _ => ⟨3, rfl, by decide, by decide⟩
  | 4, _ => ⟨5, rfl, by decide, by decide⟩
  | 5, _ => ⟨8, rfl, by decide, by decide⟩
  | n + 6, h => absurd h (by omega)
/-- a text of one sign -/
def sg (c : Nat) : Str := ⟨#[c]⟩
theorem join_sg (cs : List Nat) : (Txt.join (Str.ofString "") (cs.map sg)).cps.toList = cs := by
  show TL.tl (Txt.join (Str.ofString "") (cs.map sg)) = cs
  rw [TL.join_eq, TL.tl_join, List.map_map]
  rw [show TL.tl (Str.ofString "") = [] from rfl]
  have h : ∀ l : List Nat, TL.joinL [] (l.map (TL.tl ∘ sg)) = l := by
    intro l
    induction l with
    | nil => rfl
    | cons a r ih =>
      cases r with
      | nil => rfl
      | cons b r =>
        show [a] ++ ([] ++ TL.joinL [] ((b :: r).map (TL.tl ∘ sg))) = a :: b :: r
        rw [ih]
        rfl
  exact h cs
theorem isName_of {z : Str} (h1 : 1 ≤ z.cps.toList.length) (h2 : z.cps.toList.length ≤ 8) (h : ∀ c ∈ z.cps.toList, c ∈ lettersL) : isNameS z = true := by
  have e : z.length = z.cps.toList.length := by simp [Str.length]
  unfold isNameS
  rw [e, decide_eq_true h1, decide_eq_true h2, List.all_eq_true.mpr fun c hc => decide_eq_true (h c hc)]
  rfl
theorem scName : FnScope ["_law_stream", "_law_width", "_law_k"] ["_law_stream"] (defScope (topS 21)) := ⟨rfl, rfl, rfl, by decide +kernel, rfl, by decide +kernel, by decide +kernel⟩
theorem ok_name (B : Bi mg) {f f1 f2 : Addr} {fd fd1 fd2 : FuncData} (c__law_draw : Cal P w K mg base CX0 1 "_law_draw" f1 fd1 ["_law_stream", "_law_many"] spDraw) (c__law_pick : Cal P w K mg base CX0 2 "_law_pick" f2 fd2 ["_law_stream", "_law_some"] (spPick K))
    (F : Fun K "_law_name" "_law_name" (topS 21) f fd) : FnOk P w K mg base CX0 3 f fd ["_law_stream"] spName := by
  refine F.ok scName (fun vs H Q E h => ?_) (fun cdv A outer s H vs Q E hr h => ?_)
  · obtain ⟨st, c, n, rfl, _⟩ := h
    rfl
  · obtain ⟨st, c, n, rfl, S, hn, q⟩ := h
    have hr__law_pick := hr
    have hr__law_draw : Room 1 _ := hr.mono (by decide)
    have nd := scName.nd
    refine ⟨_, (Evl.pss_cut (ps_set (i := 1) nd rfl (Or.inl rfl) (pe_ix (kIxL K) (pe_lst (pa_cons pe_int (pa_cons pe_int (pa_cons pe_int (pa_cons pe_int (pa_cons pe_int (pa_cons pe_int pa_nil))))))) (pe_call c__law_draw.ok hr__law_draw (by rfl) c__law_draw.g c__law_draw.kp c__law_draw.b .nil pass0 (pa_cons (pv 0) (pa_cons pe_int pa_nil))) (fun _ _ => rfl)))
      (pss_one (ps_ret (pe_join pe_str (pe_lc (own := [("_law_k", 2)]) rfl nd (pi_range1 (by rfl) B.range (pa_cons (pv 1) pa_nil)) (blkOk_by (N := ["_law_stream", "_law_width", "_law_k"]) (sc := defScope (topS 21)) (by decide +kernel)) (fun _ _ _ _ _ => (pg_name (i := 2) nd rfl (Or.inl rfl))) (fun _ _ _ _ _ => pts_nil) (fun _ _ _ _ _ => (pe_call c__law_pick.ok hr__law_pick (by rfl) c__law_pick.g c__law_pick.kp c__law_pick.b .nil pass0 (pa_cons (pv 0) (pa_cons pe_str pa_nil))))))))), ?_⟩
    refine ⟨fun σ' H1 => ∃ wd : Nat, 1 ≤ wd ∧ wd ≤ 8 ∧ σ' = [some (.ref st), some (.int (wd : Int)), none] ∧ Strm H1 st c (n + 1) ∧ Kept st c H H1, ?_, ?_⟩
    · refine ⟨by show 6 ≤ sizeLine; decide, fun l nl => ?_⟩
      have k1 := same_upd (o := HO.lst [V.int 1, V.int 1, V.int 2, V.int 3, V.int 5, V.int 8]) nl
      obtain ⟨n1, n2⟩ := S.notfree nl
      refine ⟨_, rfl, st, c, n, 6, rfl, S.same k1, by omega, by omega, by omega, fun d H1 d0 d1 S1 kp => ?_⟩
      obtain ⟨wd, e1, w1, w8⟩ := width_at d.toNat (by omega)
      refine ⟨l, _, _, _, rfl, rfl, SqL.of (kp l _ n1 n2 upd_same), ?_, wd, w1, w8, rfl, S1, (Same.kept k1).trans kp⟩
      rw [← Int.toNat_of_nonneg d0]
      exact atI_nat e1
    · rintro σ1 H1 ⟨wd, w1, w8, rfl, S1, k1⟩
      refine ⟨⟨_, rfl⟩, _, rfl, (wd : Int), rfl, by omega, by omega, fun D nD => ?_⟩
      obtain ⟨n1, n2⟩ := S1.notfree nD
      have hD0 := k1.free nD n1 n2
      refine lc_it walk_range (fun i H2 => ∃ cs : List Nat, cs.length = i ∧ (∀ x ∈ cs, x ∈ lettersL) ∧ H2 D = some (.lst ((cs.map sg).map V.str)) ∧ Strm H2 st c (n + 1 + i) ∧ Kept st c H H2) ?_ (fun _ _ _ _ => trivial) ?_ ?_
      · exact ⟨[], rfl, (fun x z => nomatch z), upd_same, S1.same (same_upd nD), k1.trans (Same.kept (same_upd nD))⟩
      · rintro i x H2 H3 hi ⟨cs, e1, e2, e3, S2, k2⟩ ⟨rfl, rfl⟩
        have hi : i < wd := by omega
        refine ⟨rfl, yes2 ?_⟩
        refine ⟨_, rfl, st, c, n + 1 + i, 26, _, fun j => V.str (sg (lettersL.getD j 0)), rfl, S2, by omega, by omega, by omega, ?_, fun j H4 hj S4 k4 => ?_⟩
        · refine Pk.str (z := Str.ofString "abcdefghijklmnopqrstuvwxyz") (by decide +kernel) fun j hj => ⟨lettersL.getD j 0, ?_, rfl⟩
          have hj : j < lettersL.length := hj
          show lettersL[j]? = _
          rw [List.getD_eq_getElem?_getD, List.getElem?_eq_getElem hj]
          rfl
        · refine ⟨_, k4 D _ n1 n2 e3, ?_, cs ++ [lettersL.getD j 0], by rw [List.length_append, e1]; rfl, ?_, ?_, ?_, ?_⟩
          · rw [List.length_map, List.length_map]
            exact Evl.sz_lt (by omega)
          · intro x hx
            rcases List.mem_append.mp hx with hx | hx
            · exact e2 x hx
            · rw [List.mem_singleton.mp hx]
              have hj : j < lettersL.length := hj
              rw [List.getD_eq_getElem?_getD, List.getElem?_eq_getElem hj]
              exact List.getElem_mem hj
          · rw [upd_same, List.map_append, List.map_append]
            rfl
          · exact S4.upd n1 n2
          · exact (k2.trans k4).grow hD0
      · rintro H2 ⟨cs, e1, e2, e3, S2, k2⟩
        have e1 : cs.length = wd := by omega
        refine ⟨_, D, cs.map sg, rfl, rfl, .inl (SqL.of e3), ?_, ?_⟩
        · have h1 : ∀ l : List Nat, ((l.map sg).map (·.length)).sum = l.length := by
            intro l
            induction l with
            | nil => rfl
            | cons a r ih =>
              simp only [List.map_cons, List.sum_cons, List.length_cons, ih]
              show 1 + r.length = r.length + 1
              omega
          rw [h1, List.length_map, show (Str.ofString "").length = 0 from rfl]
          omega
        · refine q _ H2 (isName_of ?_ ?_ ?_) (S2.more (by omega)) k2 <;> rw [join_sg]
          · omega
          · omega
          · exact e2
end
end Bk

namespace Bk
open PySem PySem.Spec PyProof.Rows L2
/-- the names that are taken where the drawn one stands already -/
def backNames : List Str := (Str.ofString "abcdefghijklmnop").cps.toList.map fun c => sg c ++ Str.ofString "jq"
theorem back_nodup : backNames.Nodup := by decide +kernel
theorem back_len : backNames.length = 16 := by decide +kernel
theorem back_names : ∀ z ∈ backNames, isNameS z = true := by decide +kernel
theorem back_sizes : ∀ z ∈ backNames, z.length ≤ 100 := by decide +kernel
/-- the first name that is not yet among those found -/
theorem fresh_name (z : Str) (hz : isNameS z = true) (found : List Str) (hf : found.length < 16) : ∃ y r, (z :: backNames).filter (fun x => decide (¬ x ∈ found)) = y :: r ∧ isNameS y = true ∧ y ∉ found := by
  cases e : (z :: backNames).filter (fun x => decide (¬ x ∈ found)) with
  | nil =>
    have h : ∀ x ∈ backNames, x ∈ found := by
      intro x hx
      by_cases h : x ∈ found
      · exact h
      · have : x ∈ (z :: backNames).filter (fun x => decide (¬ x ∈ found)) := List.mem_filter.mpr ⟨List.mem_cons_of_mem _ hx, decide_eq_true h⟩
        rw [e] at this
        cases this
    have := pigeon backNames found back_nodup h
    rw [back_len] at this
    omega
  | cons y r =>
    have hy : y ∈ (z :: backNames).filter (fun x => decide (¬ x ∈ found)) := by rw [e]; exact List.mem_cons_self
    obtain ⟨h1, h2⟩ := List.mem_filter.mp hy
    refine ⟨y, r, rfl, ?_, of_decide_eq_true h2⟩
    rcases List.mem_cons.mp h1 with h | h
    · rw [h]; exact hz
    · exact back_names y h
section
variable {P : Program} {w : World} {K : PySem.W.Frag} {mg : Str → Option Value} {base : Heap}
theorem scNames : FnScope ["_law_stream", "_law_many", "_law_found", "_law_k", "_law_spare_here", "_law_letter", "_law_x"] ["_law_stream", "_law_many"] (defScope (topS 22)) := ⟨rfl, rfl, rfl, by decide +kernel, rfl, by decide +kernel, by decide +kernel⟩
theorem ok_names (B : Bi mg) {f f1 : Addr} {fd fd1 : FuncData} (c__law_name : Cal P w K mg base CX0 3 "_law_name" f1 fd1 ["_law_stream"] spName)
    (F : Fun K "_law_names" "_law_names" (topS 22) f fd) : FnOk P w K mg base CX0 4 f fd ["_law_stream", "_law_many"] (spNames K) := by
  refine F.ok scNames (fun vs H Q E h => ?_) (fun cdv A outer s H vs Q E hr h => ?_)
  · obtain ⟨st, c, n, many, rfl, _⟩ := h
    rfl
  · obtain ⟨st, c, n, many, rfl, S, hn, hm, q⟩ := h
    have hr__law_name := hr
    have nd := scNames.nd
    refine ⟨_, (pss_cons (ps_set (i := 2) nd rfl (Or.inr rfl) (pe_lst pa_nil))
      (pss_cons (ps_for PassesOwn.never rfl (pi_range1 (by rfl) B.range (pa_cons (pv 1) pa_nil)) (pg_name (i := 3) nd rfl (Or.inl rfl)) (Evl.pss_cut (ps_set (i := 4) nd rfl (Or.inl rfl) (pe_op op_cat (pe_lst (pa_cons (pe_call c__law_name.ok hr__law_name (by rfl) c__law_name.g c__law_name.kp c__law_name.b .nil pass0 (pa_cons (pv 0) pa_nil)) pa_nil)) (pe_lc (own := [("_law_letter", 5)]) rfl nd (pi_str pe_str) (blkOk_by (N := ["_law_stream", "_law_many", "_law_found", "_law_k", "_law_spare_here", "_law_letter", "_law_x"]) (sc := defScope (topS 22)) (by decide +kernel)) (fun _ _ _ _ _ => (pg_name (i := 5) nd rfl (Or.inl rfl))) (fun _ _ _ _ _ => pts_nil) (fun _ _ _ _ _ => (pe_op op_add_str (pv 5) pe_str)))))
      (pss_one (ps_expr (pe_bm PySem.F.plainAttrs_list PySem.F.slot_list_append PySem.F.type_list_append mt_append (pv 2) (pa_cons (pe_ix (kIxL K) (pe_lc (own := [("_law_x", 6)]) rfl nd (kPiL K (pv 4)) (blkOk_by (N := ["_law_stream", "_law_many", "_law_found", "_law_k", "_law_spare_here", "_law_letter", "_law_x"]) (sc := defScope (topS 22)) (by decide +kernel)) (fun _ _ _ _ _ => (pg_name (i := 6) nd rfl (Or.inl rfl))) (fun _ _ _ _ _ => (pts_one (pt_cmpR (kNotIn K) (pv 6) (pv 2) rfl))) (fun _ _ _ _ _ => (pv 6))) pe_int (fun _ _ => rfl)) pa_nil))))))
      (pss_one (ps_ret (pv 2))))), ?_⟩
    refine ⟨by show 0 ≤ sizeLine; exact Nat.zero_le _, fun l nl => ?_⟩
    obtain ⟨l1, l2⟩ := S.notfree nl
    refine ⟨_, rfl, (many : Int), rfl, by omega, by omega, ?_⟩
    refine for_it walk_range (fun i σ H1 => ∃ (zs : List Str) (v3 v4 : Option V), σ = [some (.ref st), some (.int (many : Int)), some (.ref l), v3, v4, none, none] ∧ zs.length = i ∧ zs.Nodup ∧ (∀ z ∈ zs, isNameS z = true) ∧
      H1 l = some (.lst (zs.map V.str)) ∧ Strm H1 st c (n + 9 * i) ∧ Kept st c H H1) ?_ (fun _ _ _ _ _ => trivial) ?_ ?_
    · exact ⟨[], none, none, rfl, rfl, List.nodup_nil, (fun _ z => nomatch z), upd_same, S.same (same_upd nl), Same.kept (same_upd nl)⟩
    · rintro i x σ H1 H2 hi ⟨zs, v3, v4, rfl, z1, z2, z3, z4, S1, k1⟩ ⟨rfl, rfl⟩
      have hi : i < many := by omega
      -- the spare ones
      refine ⟨fun σ' H3 => ∃ (p : Addr) (z : Str), isNameS z = true ∧ σ' = [some (.ref st), some (.int (many : Int)), some (.ref l), some (.int (0 + (i : Int))), some (.ref p), none, none] ∧ p ≠ l ∧
        H3 p = some (.lst ((z :: backNames).map V.str)) ∧ H3 l = some (.lst (zs.map V.str)) ∧ Strm H3 st c (n + 9 * i + 9) ∧ Kept st c H H3, ?_, ?_⟩
      · refine ⟨_, rfl, st, c, n + 9 * i, rfl, S1, by omega, fun z H3 hz S3 k3 => ?_⟩
        refine ⟨by show 1 ≤ sizeLine; decide, fun a na => ?_⟩
        have ka := same_upd (o := HO.lst [V.str z]) na
        obtain ⟨a1, a2⟩ := S3.notfree na
        have S4 : Strm (upd H3 a (.lst [V.str z])) st c (n + 9 * i + 9) := S3.same ka
        have zl : (upd H3 a (.lst [V.str z])) l = some (.lst (zs.map V.str)) := ka _ _ (k3 l _ l1 l2 z4)
        refine ⟨_, rfl, fun D nD => lc_it walk_str (Upto (upd H3 a (.lst [V.str z])) D (Str.ofString "abcdefghijklmnop").cps.toList fun ch => V.str (sg ch ++ Str.ofString "jq")) (.zero nD) (fun _ _ _ _ => trivial) ?_ ?_⟩
        · rintro j x H5 H6 hj u ⟨rfl, ch, hc, rfl⟩
          refine ⟨rfl, yes2 ?_⟩
          have hc' : (Str.ofString "abcdefghijklmnop").cps.toList[j]? = some ch := by rw [← hc]; simp
          exact ⟨_, rfl, _, _, rfl, rfl, (by show 3 ≤ sizeLine; decide), u.next nD hc' (Same.refl _) (by decide)⟩
        · intro H5 u
          have eD := u.all (by simp)
          have sm := u.sm
          refine ⟨a, D, [V.str z], backNames.map V.str, rfl, rfl, sm _ _ upd_same, ?_, ?_, fun p np => ?_⟩
          · rw [eD]
            unfold backNames
            rw [List.map_map]
            rfl
          · rw [List.length_map, back_len]
            show 1 + 16 ≤ sizeLine
            decide
          · have sp := same_upd (o := HO.lst ([V.str z] ++ backNames.map V.str)) np
            refine ⟨p, z, hz, rfl, (ne_of_none (sm _ _ zl) np).symm, upd_same, sp _ _ (sm _ _ zl), (S4.same sm).same sp, ((k1.trans k3).trans (Same.kept ka)).trans ((Same.kept sm).trans (Same.kept sp))⟩
      · rintro σ2 H3 ⟨p, z, hz, rfl, npl, ep, el, S3, k3⟩
        obtain ⟨y, r, ey, hy, hny⟩ := fresh_name z hz zs (by omega)
        refine ⟨_, rfl, .inl ⟨rfl, _, SqL.of el⟩, ?_⟩
        refine ⟨_, rfl, p, rfl, ⟨_, SqL.of ep⟩, fun D nD => lc_it (walk_list (xs := (z :: backNames).map V.str)) (UptoF H3 D (z :: backNames) V.str fun x => decide (¬ x ∈ zs)) (.zero nD) (fun j H4 _ u => SqL.of (u.sm _ _ ep)) ?_ ?_⟩
        · rintro j x H4 H5 hj u ⟨rfl, hx⟩
          rw [List.getElem?_map] at hx
          obtain ⟨y0, hy0, rfl⟩ := Option.map_eq_some_iff.mp hx
          refine ⟨rfl, ?_⟩
          refine ⟨_, rfl, _, rfl, l, _, rfl, .inl (SqL.of (u.sm _ _ el)), rfl, flat_strs _, _, rfl, ?_⟩
          rw [inV_strs]
          by_cases hm : y0 ∈ zs
          · rw [decide_eq_true hm]
            refine iteF ?_
            exact u.no hy0 (by simp [hm]) (Same.refl _)
          · rw [decide_eq_false hm]
            refine iteT ?_
            exact ⟨_, rfl, u.yes nD hy0 (by simp [hm]) (Same.refl _) (by rw [List.length_cons, back_len]; decide)⟩
        · intro H4 u
          have eD := u.all (by rw [List.length_map])
          rw [ey] at eD
          have el4 := u.sm _ _ el
          refine ⟨D, _, 0, V.str y, rfl, rfl, SqL.of eD, atI_nat (j := 0) rfl, l, _, _, rfl, rfl, el4, ?_, ?_⟩
          · rw [List.length_map]
            exact Evl.sz_lt (by omega)
          · have S4 := S3.same u.sm
            refine ⟨zs ++ [y], _, _, rfl, by rw [List.length_append, z1]; rfl, ?_, ?_, ?_, ?_, ?_⟩
            · rw [List.nodup_append]
              exact ⟨z2, (by simp), fun a ha b hb e => hny (by rw [List.mem_singleton.mp hb] at e; rw [← e]; exact ha)⟩
            · intro x hx
              rcases List.mem_append.mp hx with hx | hx
              · exact z3 x hx
              · rw [List.mem_singleton.mp hx]; exact hy
            · rw [upd_same, List.map_append]
              rfl
            · exact (S4.upd l1 l2).more (by omega)
            · exact (k3.trans (Same.kept u.sm)).grow nl
    · rintro σ H1 ⟨zs, v3, v4, rfl, z1, z2, z3, z4, S1, k1⟩
      have z1 : zs.length = many := by omega
      exact ⟨_, rfl, q l zs H1 nl z1 z2 z3 (S1.more (by omega)) k1 z4⟩
end
end Bk

namespace Bk
open PySem PySem.Spec PyProof.Rows L2
section
variable {P : Program} {w : World} {K : PySem.W.Frag} {mg : Str → Option Value} {base : Heap}
theorem scFirst : FnScope ["names", "most", "at", "name"] ["names", "most"] (defScope (topS 12)) := ⟨rfl, rfl, rfl, by decide +kernel, rfl, by decide +kernel, by decide +kernel⟩
theorem ok_first (B : Bi mg) {f f1 f2 : Addr} {fd fd1 fd2 : FuncData} (c_is_list : Cal P w K mg base CX0 1 "is_list" f1 fd1 ["thing"] (spIsList K)) (c_is_name : Cal P w K mg base CX0 1 "is_name" f2 fd2 ["thing"] (spIsName K))
    (F : Fun K "first_wrong" "first_wrong" (topS 12) f fd) : FnOk P w K mg base CX0 2 f fd ["names", "most"] (spFirstWrong K) := by
  refine F.ok scFirst (fun vs H Q E h => ?_) (fun cdv A outer s H vs Q E hr h => ?_)
  · obtain ⟨x, o, most, rfl, _⟩ := h
    rfl
  · obtain ⟨x, o, most, rfl, T, q⟩ := h
    have hr_is_list := hr
    have hr_is_name := hr
    have nd := scFirst.nd
    refine ⟨_, (pss_cons (ps_if (PW.pt (pw_or (pt_not (pt_val (pe_call c_is_list.ok hr_is_list (by rfl) c_is_list.g c_is_list.kp c_is_list.b .nil pass0 (pa_cons (pv 0) pa_nil)))) (pw_or1 (pt_cmpR op_eq (pe_callB (kLen K) (by rfl) B.len PySem.boot_len (pa_cons (pv 0) pa_nil)) pe_int (nomark _))))) (pss_one (ps_ret pe_int)) pss_nil)
      (pss_cons (ps_for PassesOwn.never rfl (kPiE K (by rfl) B.enumerate (pa_cons (pv 0) pa_nil)) (kTg K 2 rfl (pgs_cons (pg_name (i := 2) nd rfl (Or.inl rfl)) (pgs_cons (pg_name (i := 3) nd rfl (Or.inl rfl)) pgs_nil))) (pss_one (ps_if (PW.pt (pw_or (pt_cmpR op_eq (pv 2) (pv 1) (nomark _)) (pw_or (pt_not (pt_val (pe_call c_is_name.ok hr_is_name (by rfl) c_is_name.g c_is_name.kp c_is_name.b .nil pass0 (pa_cons (pv 3) pa_nil)))) (pw_or1 (pt_cmpR (kIn K) (pv 3) (pe_slice ((kSlL K).or (kSlT K)) (pv 0) po_none (po_some (pv 2))) rfl))))) (pss_one (ps_ret (pv 2))) pss_nil)))
      (pss_one (ps_ret pe_non)))), ?_⟩
    cases T with
    | no b =>
      refine ⟨_, rfl, _, false, rfl, b, fun H1 e1 => ⟨_, rfl, ?_⟩⟩
      refine iteT ?_
      refine iteT ?_
      exact q H1 e1
    | @seq a xs hS0 b hi hl =>
      have hS : SqL K H a xs ∨ SqT K H a xs := hS0.imp id SqT.of
      clear hS0
      refine ⟨_, rfl, _, true, rfl, b, fun H1 e1 => ⟨_, rfl, ?_⟩⟩
      refine iteF ?_
      have hS1 : SqL K H1 a xs ∨ SqT K H1 a xs := hS.imp (fun z => e1.seq z) fun z => Same.sqt e1 z
      refine ⟨_, rfl, .ref a, xs.length, rfl, hS1.imp (fun z => ⟨xs, z, rfl⟩) (fun z => ⟨xs, z, rfl⟩), rfl, _, rfl, ?_⟩
      cases xs with
      | nil =>
        refine iteT ?_
        exact q H1 e1
      | cons x0 r0 =>
        have hlen : (x0 :: r0).length = r0.length + 1 := rfl
        generalize hxs : x0 :: r0 = xs at hS1 hi hl q hlen ⊢
        have hne : xs ≠ [] := by rw [← hxs]; exact List.cons_ne_nil _ _
        have efw : firstWrong xs most = wrongFrom xs most 0 (xs.drop 0) := by
          unfold firstWrong
          rw [if_neg hne]
          rfl
        have q : ∀ H', Same H H' → Q (optV (wrongFrom xs most 0 (xs.drop 0))) H' := fun H' e => by
          rw [← efw]
          exact q H' e
        have e0 : decide (V.int (xs.length : Int) = V.int 0) = false := decide_eq_false (fun z => by injection z with z; omega)
        rw [e0]
        refine iteF ?_
        refine st_next ?_
        refine st_seq ?_
        refine for_enS (a := a) (xs := xs) rfl hS1 (fun i σ H2 => ∃ v2 v3, σ = [some (.ref a), some (.int (most : Int)), v2, v3] ∧ Same H1 H2 ∧ wrongFrom xs most 0 (xs.drop 0) = wrongFrom xs most i (xs.drop i) ∧ ∀ j x, j < i → xs[j]? = some x → isNameB x = true) ?_ ?_ ?_ ?_
        · exact ⟨none, none, rfl, Same.refl _, rfl, fun j x hj => absurd hj (Nat.not_lt_zero _)⟩
        · rintro i σ H2 ⟨_, _, _, e2, _⟩
          exact e2
        · rintro i y σ H2 H3 hi' ⟨v2, v3, rfl, e2, ew, hn⟩ ⟨T, y1, y2, rfl, nT, rfl, h1, h2⟩
          cases h1
          have h2 : xs[i]? = some y2 := h2
          have hx := List.mem_of_getElem? h2
          have eT := same_upd (o := HO.tup [V.int (i : Nat), y2]) nT
          refine ⟨T, _, rfl, SqT.of upd_same, rfl, _, _, rfl, _, _, rfl, rfl, ?_⟩
          generalize upd H2 T (.tup [.int (i : Nat), y2]) = H3 at eT ⊢
          have e3 : Same H H3 := Same.trans e1 (Same.trans e2 eT)
          have bad : badAt xs most i y2 = true → Q (.int (i : Nat)) H3 := fun hb => by
            have z := q H3 e3
            rw [ew, wrong_step h2, if_pos hb] at z
            exact z
          refine ⟨_, rfl, _, rfl, rfl, _, rfl, ?_⟩
          refine ite2 (fun c1 => ?_) (fun c1 => ?_)
          · refine iteT ?_
            refine ⟨_, rfl, bad ?_⟩
            have c1 := of_decide_eq_true c1
            have : i = most := by injection c1 with c1; omega
            simp [badAt, this]
          · have c1 : ¬ i = most := fun z => c1 (decide_eq_true (by rw [z]))
            refine ⟨_, rfl, y2, rfl, (hi y2 hx).same e3, fun H4 e4 => ⟨_, rfl, ?_⟩⟩
            have bad : badAt xs most i y2 = true → Q (.int (i : Nat)) H4 := fun hb => by
              have z := q H4 (Same.trans e3 e4)
              rw [ew, wrong_step h2, if_pos hb] at z
              exact z
            cases hn2 : isNameB y2 with
            | false =>
              refine iteT ?_
              refine iteT ?_
              exact ⟨_, rfl, bad (by simp [badAt, hn2])⟩
            | true =>
              refine iteF ?_
              have hS4 : SqL K H4 a xs ∨ SqT K H4 a xs := hS1.imp (fun z => Same.seq (Same.trans e2 (Same.trans eT e4)) z) fun z => Same.sqt (Same.trans e2 (Same.trans eT e4)) z
              have ecut : cutV xs none (some (i : Int)) = xs.take i := cut_to xs i (by omega)
              have hlo : HT.sIx xs.length xs.length (some (i : Int)) = i := sIx_nat' _ _ _ (by omega)
              have yes : ∀ H5, Same H4 H5 → inV y2 (xs.take i) = true → Q (.int (i : Nat)) H5 := fun H5 e5 hv => by
                have z := q H5 (Same.trans e3 (Same.trans e4 e5))
                rw [ew, wrong_step h2, if_pos (by simp [badAt, hv])] at z
                exact z
              have no : inV y2 (xs.take i) = false → wrongFrom xs most 0 (xs.drop 0) = wrongFrom xs most (i + 1) (xs.drop (i + 1)) := fun hv => by
                rw [ew, wrong_step h2, if_neg (by simp [badAt, hv, hn2, c1])]
              have hn' : ∀ j x, j < i + 1 → xs[j]? = some x → isNameB x = true := fun j x hj hjx => by
                rcases Nat.lt_succ_iff_lt_or_eq.mp hj with hj | rfl
                · exact hn j x hj hjx
                · rw [h2] at hjx
                  cases hjx
                  exact hn2
              refine ⟨_, rfl, _, rfl, _, rfl, _, rfl, ?_⟩
              rcases hS4 with hS4 | hS4
              · refine .inl ⟨a, xs, rfl, hS4, fun p np => ?_⟩
                rw [ecut]
                have ep := same_upd (o := HO.lst (xs.take i)) np
                refine ⟨p, _, rfl, .inl (SqL.of upd_same), name_flat hn2, all_flat hn, _, rfl, ?_⟩
                cases hv : inV y2 (xs.take i) with
                | true =>
                  refine iteT ?_
                  exact ⟨_, rfl, yes _ ep hv⟩
                | false =>
                  refine iteF ?_
                  exact ⟨_, _, rfl, Same.trans e2 (Same.trans eT (Same.trans e4 ep)), no hv, hn'⟩
              · refine .inr ⟨a, xs, rfl, hS4, fun hw => ?_, fun hw p np => ?_⟩
                · exfalso
                  rw [hlo] at hw
                  omega
                · rw [ecut]
                  have ep := same_upd (o := HO.tup (xs.take i)) np
                  refine ⟨p, _, rfl, .inr (SqT.of upd_same), name_flat hn2, all_flat hn, _, rfl, ?_⟩
                  cases hv : inV y2 (xs.take i) with
                  | true =>
                    refine iteT ?_
                    exact ⟨_, rfl, yes _ ep hv⟩
                  | false =>
                    refine iteF ?_
                    exact ⟨_, _, rfl, Same.trans e2 (Same.trans eT (Same.trans e4 ep)), no hv, hn'⟩
        · rintro σ H2 ⟨v2, v3, rfl, e2, ew, hn⟩
          rw [wrong_end (Nat.le_refl _)] at ew
          rw [ew] at q
          exact q H2 (Same.trans e1 e2)
end
end Bk

namespace Bk
open PySem PySem.Spec PyProof.Rows L2
section
variable {P : Program} {w : World} {K : PySem.W.Frag} {mg : Str → Option Value} {base : Heap}
theorem startK {n k : Nat} {σ : L2.St} {H : Hp} {R : VK} {b : Addr} {row : List Nat} (h3 : σ[3]? = some (some (.int (0 + (k : Int))))) (h4 : σ[4]? = some (some (.ref b))) (hb : SqT K H b (rowV row)) (hrow : RowK n k row) (r : R (.int (sttK k row : Int)) H) :
    tIf (tTest (tOp (rI0 fun i j => V.bl (decide (j < i))) (tVar 3) (tC (V.int 0)))) (tOp (rI0 fun i j => V.int (i + j)) (tOp (rIxT K) (tVar 4) (tUn (rU fun i => V.int (-i)) (tC (V.int 1)))) (tC (V.int 1))) (tC (V.int 0)) σ H R := by
  refine ⟨_, h3, _, _, rfl, rfl, _, rfl, ?_⟩
  unfold sttK at r
  rcases hrow with ⟨rfl, rfl⟩ | ⟨k', rfl, o⟩
  · rw [if_neg (by omega)] at r
    exact iteF r
  · rw [if_pos (by omega)] at r
    rw [show decide ((0 : Int) < 0 + ((k' + 1 : Nat) : Int)) = true from decide_eq_true (by omega)]
    refine iteT ?_
    exact ⟨_, h4, 1, rfl, b, _, _, _, rfl, rfl, hb, at_last o.ne, _, _, rfl, rfl, r⟩
theorem scChoicesOf : FnScope ["things", "many", "rows", "k", "row", "at"] ["things", "many"] (defScope (topS 14)) := ⟨rfl, rfl, rfl, by decide +kernel, rfl, by decide +kernel, by decide +kernel⟩
theorem ok_choices_of (B : Bi mg) {f : Addr} {fd : FuncData} (F : Fun K "choices_of" "choices_of" (topS 14) f fd) : FnOk P w K mg base CX0 1 f fd ["things", "many"] (spChoicesOf K) := by
  refine F.ok scChoicesOf (fun vs H Q E h => ?_) (fun cdv A outer s H vs Q E hr h => ?_)
  · obtain ⟨a, xs, m, rfl, _⟩ := h
    rfl
  · obtain ⟨a, xs, m, rfl, hS, hl, hm, q⟩ := h
    have nd := scChoicesOf.nd
    have hu := hu_of hr
    have hpow : 2 ^ xs.length ≤ 2 ^ 12 := Nat.pow_le_pow_right (by decide) hl
    have hp12 : 2 ^ 12 = 4096 := by decide
    refine ⟨_, (Evl.pss_cut (ps_set (i := 2) nd rfl (Or.inl rfl) (pe_lst (pa_cons (pe_tup pa_nil) pa_nil)))
      (Evl.pss_cut (ps_for PassesOwn.never rfl (pi_range1 (by rfl) B.range (pa_cons (pv 1) pa_nil)) (pg_name (i := 3) nd rfl (Or.inr rfl)) (pss_one (ps_setLc2 (i := 2) (own := [("row", 4), ("at", 5)]) (vs1 := [5]) rfl nd rfl rfl (sw_true rfl rfl rfl (by decide +kernel)) (kPiL K (pv 2)) (blkOk_by (N := ["things", "many", "rows", "k", "row", "at"]) (sc := defScope (topS 14)) (by decide +kernel)) (by decide) (fun _ _ _ _ _ => (pg_name (i := 4) nd rfl (Or.inl rfl))) (fun _ _ _ _ _ => pts_nil) (fun _ _ _ _ _ => (pi_range2 (by rfl) B.range (pa_cons (pe_ifExp (pt_cmpR op_gt (pv 3) pe_int (nomark _)) (pe_op op_add (pe_ix (kIxT K) (pv 4) (pe_un un_neg pe_int) (fun _ _ => rfl)) pe_int) pe_int) (pa_cons (pe_callB (kLen K) (by rfl) B.len PySem.boot_len (pa_cons (pv 0) pa_nil)) pa_nil)))) (fun _ _ _ _ _ => (pg_name (i := 5) nd rfl (Or.inl rfl))) (fun _ _ _ _ _ => pts_nil) (fun _ _ _ _ _ => (pe_op (kCatA K) (pv 4) (pe_tup (pa_cons (pv 5) pa_nil)))))))
      (pss_one (ps_ret (pe_lc (own := [("row", 4)]) rfl nd (kPiL K (pv 2)) (blkOk_by (N := ["things", "many", "rows", "k", "row", "at"]) (sc := defScope (topS 14)) (by decide +kernel)) (fun _ _ _ _ _ => (pg_name (i := 4) nd rfl (Or.inl rfl))) (fun _ _ _ _ _ => pts_nil) (fun _ _ _ _ _ => (kTupleOf K (by rfl) B.tuple (pe_lc (own := [("at", 5)]) rfl nd (kPiT K (pv 4)) (blkOk_by (by with_unfolding_all rfl)) (fun _ _ _ _ _ => (pg_name (i := 5) nd rfl (Or.inl rfl))) (fun _ _ _ _ _ => pts_nil) (fun _ _ _ _ _ => (pe_ix (kIx K) (pv 0) (pv 5) (fun _ _ => rfl))))))))))), ?_⟩
    -- rows = [()]
    refine ⟨fun σ1 H1 => ∃ (d t : Addr), σ1 = [some (.ref a), some (.int (m : Int)), some (.ref d), none, none, none] ∧ Same H H1 ∧ H1 d = some (.lst [.ref t]) ∧ H1 t = some (.tup []), ?_, ?_⟩
    · refine ⟨Nat.zero_le _, fun t nt => ⟨by show 1 ≤ sizeLine; decide, fun d nd0 => ?_⟩⟩
      have et := same_upd (o := HO.tup []) nt
      have ed := same_upd (o := HO.lst [V.ref t]) nd0
      exact ⟨d, t, rfl, Same.trans et ed, upd_same, ed _ _ upd_same⟩
    rintro σ1 H1 ⟨d, t, rfl, e1, hd1, ht1⟩
    -- for k in range(many)
    refine ⟨fun σ2 H2 => ∃ (r : Addr) (v3 v4 v5 : Option V) (us : List V), σ2 = [some (.ref a), some (.int (m : Int)), some (.ref r), v3, v4, v5] ∧ Same H H2 ∧ H2 r = some (.lst us) ∧ Ats H2 rowV us (rowsK xs.length m), ?_, ?_⟩
    · refine ⟨_, rfl, (m : Int), rfl, by omega, by omega, ?_⟩
      refine for_it walk_range (fun k σ' H' => ∃ (r : Addr) (v3 v4 v5 : Option V) (us : List V), σ' = [some (.ref a), some (.int (m : Int)), some (.ref r), v3, v4, v5] ∧ Same H H' ∧ H' r = some (.lst us) ∧ Ats H' rowV us (rowsK xs.length k)) ?_ (fun _ _ _ _ _ => trivial) ?_ ?_
      · exact ⟨d, none, none, none, [.ref t], rfl, e1, hd1, Ats.one ht1⟩
      · rintro k x σ' H0 H2 hk ⟨r, v3, v4, v5, us, rfl, e2, hr2, at2⟩ ⟨rfl, rfl⟩
        have hok := rowsK_ok xs.length k
        refine ⟨_, rfl, r, rfl, ⟨_, SqL.of hr2⟩, fun D nD => ?_⟩
        refine outer_it (walk_list (xs := us)) (fun i H' => ∃ vs2, Same H2 H' ∧ H' D = some (.lst vs2) ∧ Ats H' rowV vs2 (nextK xs.length k ((rowsK xs.length k).take i))) ?_ (fun i H' _ ⟨_, e5, _⟩ => SqL.of (e5 _ _ hr2)) ?_ ?_
        · exact ⟨[], same_upd nD, upd_same, .nil⟩
        · rintro i x H5 H6 hi ⟨vs2, e5, hD, at5⟩ ⟨rfl, hx⟩
          have hir : i < (rowsK xs.length k).length := by rw [← at2.1]; exact hi
          obtain ⟨row, hrow⟩ : ∃ row, (rowsK xs.length k)[i]? = some row := ⟨_, List.getElem?_eq_getElem hir⟩
          obtain ⟨b, rfl, hb⟩ := at2.2 i x row hx hrow
          have o := hok row (List.mem_of_getElem? hrow)
          have hst := sttK_le o
          refine ⟨rfl, yes2 ?_⟩
          refine startK rfl rfl (SqT.of (e5 _ _ hb)) o ?_
          refine ⟨_, rfl, .ref a, xs.length, rfl, hS.imp (fun z => ⟨_, (Same.trans e2 e5).seq z, rfl⟩) (fun z => ⟨_, Same.sqt (Same.trans e2 e5) z, rfl⟩), _, _, rfl, ⟨by omega, by omega, by omega, by omega⟩, ?_⟩
          refine inner_it walk_range (fun j H' => ∃ vs3, Same H2 H' ∧ H' D = some (.lst vs3) ∧ Ats H' rowV vs3 (nextK xs.length k ((rowsK xs.length k).take i) ++ (growK xs.length k row).take j)) ?_ (fun _ _ _ _ => trivial) ?_ ?_
          · exact ⟨vs2, e5, hD, by rw [List.take_zero, List.append_nil]; exact at5⟩
          · rintro j x H7 H8 hj ⟨vs3, e7, hD7, at7⟩ ⟨rfl, rfl⟩
            have hj : j < xs.length - sttK k row := by omega
            refine ⟨rfl, yes2 ?_⟩
            have fin : ∀ (b' : Addr) (H9 : Hp), Same H8 H9 → H9 b' = some (.tup (rowV (row ++ [sttK k row + j]))) → ∃ acc, H9 D = some (.lst acc) ∧ acc.length < sizeLine ∧ ∃ vs3, Same H2 (upd H9 D (.lst (acc ++ [.ref b']))) ∧ (upd H9 D (.lst (acc ++ [.ref b']))) D = some (.lst vs3) ∧
                Ats (upd H9 D (.lst (acc ++ [.ref b']))) rowV vs3 (nextK xs.length k ((rowsK xs.length k).take i) ++ (growK xs.length k row).take (j + 1)) := by
              intro b' H9 e9 hb'
              have hD9 := e9 _ _ hD7
              have lenv : vs3.length ≤ 4096 + 12 := by
                rw [at7.1, List.length_append]
                have h1 := nextK_take_len (n := xs.length) (k := k) i
                have h3 : ((growK xs.length k row).take j).length ≤ 12 := by
                  rw [List.length_take, growK_length]
                  omega
                omega
              refine ⟨vs3, hD9, Evl.sz_lt (by omega), vs3 ++ [.ref b'], Same.grow (Same.trans e7 e9) nD, upd_same, ?_⟩
              refine Ats.updL ?_ hD9
              rw [take_succ (growK_at hj), ← List.append_assoc]
              exact (at7.same e9).append (Ats.one hb')
            refine ⟨_, rfl, _, rfl, by show 1 ≤ sizeLine; decide, fun p np => ?_⟩
            have ep := same_upd (o := HO.tup [V.int ((sttK k row : Int) + (j : Int))]) np
            have ev : rowV (row ++ [sttK k row + j]) = rowV row ++ [V.int ((sttK k row : Int) + (j : Int))] := by
              unfold rowV
              rw [List.map_append]
              show _ ++ [V.int ((sttK k row + j : Nat) : Int)] = _
              rw [show ((sttK k row + j : Nat) : Int) = (sttK k row : Int) + (j : Int) by omega]
            refine ⟨b, p, rowV row, _, rfl, rfl, SqT.of (ep _ _ (e7 _ _ hb)), SqT.of upd_same, ?_, fun z => ?_, fun _ z => ?_, fun _ _ t nt => ?_⟩
            · rw [rowV_len, o.len]
              refine Evl.sz_of ?_
              show k + 1 ≤ 100000
              omega
            · refine fin p _ ep ?_
              rw [upd_same, ev, z]
              rfl
            · cases z
            · refine fin t _ (Same.trans ep (same_upd nt)) ?_
              rw [upd_same, ev]
          · rintro H7 ⟨vs3, e7, hD7, at7⟩
            refine ⟨vs3, e7, hD7, ?_⟩
            have eg : (growK xs.length k row).take ((xs.length : Int) - (sttK k row : Int)).toNat = growK xs.length k row := List.take_of_length_le (by rw [growK_length]; omega)
            rw [eg] at at7
            rw [nextK_snoc hrow]
            exact at7
        · rintro H5 ⟨vs2, e5, hD, at5⟩
          rw [List.take_of_length_le (by rw [← at2.1]; exact Nat.le_refl _)] at at5
          exact ⟨D, _, _, _, vs2, rfl, Same.trans e2 e5, hD, at5⟩
      · rintro σ' H2 ⟨r, v3, v4, v5, us, rfl, e2, hr2, at2⟩
        exact ⟨r, v3, v4, v5, us, rfl, e2, hr2, at2⟩
    rintro σ3 H3 ⟨r, v3, v4, v5, us, rfl, e3, hr3, at3⟩
    -- the things of each row
    have hok := rowsK_ok xs.length m
    have lenus : us.length = (rowsK xs.length m).length := at3.1
    have hlen := rowsK_len xs.length m
    refine ⟨_, rfl, r, rfl, ⟨_, SqL.of hr3⟩, fun D nD => ?_⟩
    refine lc_it (walk_list (xs := us)) (fun i H' => ∃ vs2, Same H3 H' ∧ H' D = some (.lst vs2) ∧ Ats H' (fun l => l) vs2 ((subsOf xs (rowsK xs.length m)).take i)) ?_ (fun i H' _ ⟨_, e5, _⟩ => SqL.of (e5 _ _ hr3)) ?_ ?_
    · exact ⟨[], same_upd nD, upd_same, .nil⟩
    · rintro i x H5 H6 hi ⟨vs2, e5, hD, at5⟩ ⟨rfl, hx⟩
      have hir : i < (rowsK xs.length m).length := by rw [← at3.1]; exact hi
      obtain ⟨row, hrow⟩ : ∃ row, (rowsK xs.length m)[i]? = some row := ⟨_, List.getElem?_eq_getElem hir⟩
      obtain ⟨b, rfl, hb⟩ := at3.2 i x row hx hrow
      have o := hok row (List.mem_of_getElem? hrow)
      refine ⟨rfl, yes2 ?_⟩
      refine ⟨_, rfl, b, rfl, ⟨_, SqT.of (e5 _ _ hb)⟩, fun D2 nD2 => ?_⟩
      refine lc_it (walk_tup (xs := rowV row)) (Upto H6 D2 row fun k => xs.getD k .non) (.zero nD2) (fun j H' _ u => SqT.of (u.sm _ _ (e5 _ _ hb))) ?_ ?_
      · rintro j x H7 H8 hj u ⟨rfl, hx2⟩
        unfold rowV at hx2
        rw [List.getElem?_map] at hx2
        obtain ⟨k, hk, rfl⟩ := Option.map_eq_some_iff.mp hx2
        have hkn : k < xs.length := o.lt k (List.mem_of_getElem? hk)
        have ea : xs[k]? = some (xs.getD k .non) := by rw [List.getD_eq_getElem?_getD, List.getElem?_eq_getElem hkn]; rfl
        have hj12 : j < 12 := by
          have h1 := o.len
          have h2 : j < (rowV row).length := hj
          rw [rowV_len] at h2
          omega
        refine ⟨rfl, yes2 ?_⟩
        have eH := Same.trans e3 (Same.trans e5 u.sm)
        refine ⟨_, rfl, _, rfl, ?_⟩
        rcases hS with z | z
        · exact .inl ⟨a, xs, (k : Int), _, rfl, rfl, eH.seq z, atI_nat ea, u.next nD2 hk (Same.refl _) (by have := o.len; omega)⟩
        · exact .inr (.inl ⟨a, xs, (k : Int), _, rfl, rfl, Same.sqt eH z, atI_nat ea, u.next nD2 hk (Same.refl _) (by have := o.len; omega)⟩)
      · intro H7 u
        have eD2 := u.all (rowV_len row)
        refine .inl ⟨D2, _, rfl, SqL.of eD2, fun p np => ?_⟩
        have ep := same_upd (o := HO.tup (row.map fun k => xs.getD k V.non)) np
        have hD7 := ep _ _ (u.sm _ _ hD)
        have hlot : (subsOf xs (rowsK xs.length m))[i]? = some (row.map fun k => xs.getD k V.non) := by
          unfold subsOf
          rw [List.getElem?_map, hrow]
          rfl
        refine ⟨vs2, hD7, Evl.sz_lt ?_, vs2 ++ [.ref p], Same.grow (Same.trans e5 (Same.trans u.sm ep)) nD, upd_same, ?_⟩
        · rw [at5.1, List.length_take]
          unfold subsOf
          rw [List.length_map]
          omega
        · refine Ats.updL ?_ hD7
          rw [take_succ hlot]
          exact ((at5.same u.sm).same ep).append (Ats.one upd_same)
    · rintro H5 ⟨vs2, e5, hD, at5⟩
      rw [List.take_of_length_le (by unfold subsOf; rw [List.length_map, lenus]; exact Nat.le_refl _)] at at5
      exact q D vs2 H5 (e3.free nD) (Same.trans e3 e5) hD at5
theorem scChoices : FnScope ["things", "many", "choice"] ["things"] (defScope (topS 13)) := ⟨rfl, rfl, rfl, by decide +kernel, rfl, by decide +kernel, by decide +kernel⟩
theorem ok_choices (B : Bi mg) {f f1 : Addr} {fd fd1 : FuncData} (c_choices_of : Cal P w K mg base CX0 1 "choices_of" f1 fd1 ["things", "many"] (spChoicesOf K)) (F : Fun K "choices" "choices" (topS 13) f fd) : FnOk P w K mg base CX0 2 f fd ["things"] (spChoices K) := by
  refine F.ok scChoices (fun vs H Q E h => ?_) (fun cdv A outer s H vs Q E hr h => ?_)
  · obtain ⟨a, xs, rfl, _⟩ := h
    rfl
  · obtain ⟨a, xs, rfl, hS, hl, q⟩ := h
    have nd := scChoices.nd
    have hu := hu_of hr
    have hr_choices_of := hr
    have hpow : 2 ^ xs.length ≤ 2 ^ 12 := Nat.pow_le_pow_right (by decide) hl
    have hp12 : 2 ^ 12 = 4096 := by decide
    have hcl : ∀ i, i ≤ 12 → ((List.range' 1 i).flatMap (rowsK xs.length)).length ≤ 12 * 4096 := fun i hi => by
      have h := flatMap_len (f := rowsK xs.length) (m := 4096) (l := List.range' 1 i) fun x _ => by have := rowsK_len xs.length x; omega
      rw [List.length_range'] at h
      exact Nat.le_trans h (Nat.mul_le_mul_right _ hi)
    refine ⟨_, (pss_one (ps_ret (pe_lc2 (own := [("many", 1), ("choice", 2)]) (vs1 := [2]) rfl nd (pi_range2 (by rfl) B.range (pa_cons pe_int (pa_cons (pe_op op_add (pe_callB (kLen K) (by rfl) B.len PySem.boot_len (pa_cons (pv 0) pa_nil)) pe_int) pa_nil))) (blkOk_by (N := ["things", "many", "choice"]) (sc := defScope (topS 13)) (by decide +kernel)) (by decide) (fun _ _ _ _ _ => (pg_name (i := 1) nd rfl (Or.inl rfl))) (fun _ _ _ _ _ => pts_nil) (fun _ _ _ _ _ => (kPiL K (pe_call c_choices_of.ok hr_choices_of (by rfl) c_choices_of.g c_choices_of.kp c_choices_of.b .nil pass0 (pa_cons (pv 0) (pa_cons (pv 1) pa_nil))))) (fun _ _ _ _ _ => (pg_name (i := 2) nd rfl (Or.inl rfl))) (fun _ _ _ _ _ => pts_nil) (fun _ _ _ _ _ => (pv 2))))), ?_⟩
    refine ⟨.ref a, rfl, .ref a, xs.length, rfl, hS.imp (fun z => ⟨_, z, rfl⟩) (fun z => ⟨_, z, rfl⟩), _, _, rfl, rfl, _, _, rfl, ⟨by omega, by omega, by omega, by omega⟩, fun D nD => ?_⟩
    have en : ((xs.length : Int) + 1 - 1).toNat = xs.length := by omega
    rw [en]
    refine outer_it walk_range (fun i H' => ∃ ws, Same H H' ∧ H' D = some (.lst ws) ∧ Ats H' (fun l => l) ws (subsOf xs ((List.range' 1 i).flatMap (rowsK xs.length)))) ?_ (fun _ _ _ _ => trivial) ?_ ?_
    · exact ⟨[], same_upd nD, upd_same, .nil⟩
    · rintro i x H0 H6 hi ⟨ws, e6, hD, at6⟩ ⟨rfl, rfl⟩
      refine ⟨rfl, yes2 ?_⟩
      refine ⟨_, rfl, _, rfl, a, xs, i + 1, ?_, hS.imp (fun z => e6.seq z) (fun z => Same.sqt e6 z), hl, by omega, fun D2 ws2 H8 nD2 e8 hD2 at8 => ?_⟩
      · show [V.ref a, V.int (1 + (i : Int))] = [V.ref a, V.int ((i + 1 : Nat) : Int)]
        rw [show ((i + 1 : Nat) : Int) = 1 + (i : Int) by omega]
      have hD8 := e8 _ _ hD
      have nDD : D2 ≠ D := (ne_of_none hD nD2).symm
      refine ⟨D2, rfl, ⟨_, SqL.of hD2⟩, ?_⟩
      refine inner_it (walk_list (xs := ws2)) (fun j H' => ∃ vs3, But D H8 H' ∧ H' D = some (.lst vs3) ∧ Ats H' (fun l => l) vs3 (subsOf xs ((List.range' 1 i).flatMap (rowsK xs.length)) ++ (subsOf xs (rowsK xs.length (i + 1))).take j)) ?_ (fun j H' _ ⟨_, bt, _⟩ => SqL.of (bt _ _ nDD hD2)) ?_ ?_
      · exact ⟨ws, fun _ _ _ e => e, hD8, by rw [List.take_zero, List.append_nil]; exact at6.same e8⟩
      · rintro j x H9 H10 hj ⟨vs3, bt, hD9, at9⟩ ⟨rfl, hx⟩
        have hjr : j < (subsOf xs (rowsK xs.length (i + 1))).length := by rw [← at8.1]; exact hj
        obtain ⟨row, hrow⟩ : ∃ row, (subsOf xs (rowsK xs.length (i + 1)))[j]? = some row := ⟨_, List.getElem?_eq_getElem hjr⟩
        obtain ⟨b, rfl, hb⟩ := at8.2 j x row hx hrow
        refine ⟨rfl, yes2 ?_⟩
        have hlen9 : vs3.length < 60000 := by
          rw [at9.1, List.length_append]
          have h1 : (subsOf xs ((List.range' 1 i).flatMap (rowsK xs.length))).length ≤ 12 * 4096 := by
            unfold subsOf
            rw [List.length_map]
            exact hcl i (by omega)
          have h2 : ((subsOf xs (rowsK xs.length (i + 1))).take j).length ≤ 4096 := by
            rw [List.length_take]
            unfold subsOf
            rw [List.length_map]
            have := rowsK_len xs.length (i + 1)
            omega
          omega
        have nbD : b ≠ D := ne_of hb hD8 (fun z => nomatch z)
        refine ⟨_, rfl, vs3, hD9, Evl.sz_lt (by omega), vs3 ++ [.ref b], bt.trans But.upd, upd_same, ?_⟩
        rw [take_succ hrow, ← List.append_assoc]
        exact (at9.append (Ats.one (bt _ _ nbD hb))).updL hD9
      · rintro H9 ⟨vs3, bt, hD9, at9⟩
        rw [List.take_of_length_le (by rw [at8.1]; exact Nat.le_refl _)] at at9
        refine ⟨vs3, fun b u hb => bt _ _ (ne_of_none hb nD) (e8 _ _ (e6 _ _ hb)), hD9, ?_⟩
        have ee : subsOf xs ((List.range' 1 (i + 1)).flatMap (rowsK xs.length)) = subsOf xs ((List.range' 1 i).flatMap (rowsK xs.length)) ++ subsOf xs (rowsK xs.length (i + 1)) := by
          rw [List.range'_concat, List.flatMap_append, List.flatMap_cons, List.flatMap_nil, List.append_nil]
          unfold subsOf
          rw [List.map_append, show 1 + 1 * i = i + 1 by omega]
        rw [ee]
        exact at9
    · rintro H5 ⟨ws, e5, hD, at5⟩
      rw [← lotRows_K] at at5
      exact q D ws H5 nD e5 hD at5
end
end Bk

namespace Bk
open PySem PySem.Spec PyProof.Rows L2
section
variable {P : Program} {w : World} {K : PySem.W.Frag} {mg : Str → Option Value} {base : Heap}
theorem scNeigh : FnScope ["names", "many", "long", "at"] ["names"] (defScope (topS 15)) := ⟨rfl, rfl, rfl, by decide +kernel, rfl, by decide +kernel, by decide +kernel⟩
theorem ok_neigh (B : Bi mg) {f : Addr} {fd : FuncData} (F : Fun K "rows_of_neighbours" "rows_of_neighbours" (topS 15) f fd) : FnOk P w K mg base CX0 1 f fd ["names"] spNeigh := by
  refine F.ok scNeigh (fun vs H Q E h => ?_) (fun cdv A outer s H vs Q E hr h => ?_)
  · obtain ⟨a, zs, rfl, _⟩ := h
    rfl
  · obtain ⟨a, zs, rfl, hS, hl, q⟩ := h
    have nd := scNeigh.nd
    have hu := hu_of hr
    refine ⟨_, (pss_cons (ps_set (i := 1) nd rfl (Or.inr rfl) (pe_callB (kLen K) (by rfl) B.len PySem.boot_len (pa_cons (pv 0) pa_nil)))
      (pss_one (ps_ret (pe_lc2 (own := [("long", 2), ("at", 3)]) (vs1 := [3]) rfl nd (pi_range2 (by rfl) B.range (pa_cons pe_int (pa_cons (pe_op op_add (pv 1) pe_int) pa_nil))) (blkOk_by (N := ["names", "many", "long", "at"]) (sc := defScope (topS 15)) (by decide +kernel)) (by decide) (fun _ _ _ _ _ => (pg_name (i := 2) nd rfl (Or.inl rfl))) (fun _ _ _ _ _ => pts_nil) (fun _ _ _ _ _ => (pi_range1 (by rfl) B.range (pa_cons (pe_op op_sub (pe_op op_add (pv 1) pe_int) (pv 2)) pa_nil))) (fun _ _ _ _ _ => (pg_name (i := 3) nd rfl (Or.inl rfl))) (fun _ _ _ _ _ => pts_nil) (fun _ _ _ _ _ => (pe_slice (kSlT K) (pv 0) (po_some (pv 3)) (po_some (pe_op op_add (pv 3) (pv 2))))))))), ?_⟩
    refine ⟨_, rfl, .ref a, zs.length, rfl, .inr ⟨_, SqT.of hS, by rw [List.length_map]⟩, ?_⟩
    refine ⟨_, rfl, _, _, rfl, rfl, _, _, rfl, ⟨by omega, by omega, by omega, by omega⟩, fun D nD => ?_⟩
    have hcl : ∀ k, ((List.range k).flatMap (longRows zs)).length ≤ k * 100 := fun k => by
      have := flatMap_len (f := longRows zs) (m := 100) (l := List.range k) fun x _ => by rw [longRows_len]; omega
      rw [List.length_range] at this
      exact this
    have en : ((zs.length : Int) + 1 - 1).toNat = zs.length := by omega
    rw [en]
    refine outer_it walk_range (fun i H' => ∃ vs2, Same H H' ∧ H' D = some (.lst vs2) ∧ Ats H' (fun l : List Str => l.map V.str) vs2 ((List.range i).flatMap (longRows zs))) ?_ (fun _ _ _ _ => trivial) ?_ ?_
    · exact ⟨[], same_upd nD, upd_same, .nil⟩
    · rintro i x H5 H6 hi ⟨vs2, e5, hD, at5⟩ ⟨rfl, rfl⟩
      refine ⟨rfl, yes2 ?_⟩
      refine ⟨_, rfl, _, _, rfl, rfl, _, rfl, _, _, rfl, rfl, _, rfl, by omega, by omega, ?_⟩
      have ec : ((zs.length : Int) + 1 - (1 + (i : Int))).toNat = zs.length - i := by omega
      rw [ec]
      refine inner_it walk_range (fun j H' => ∃ vs3, Same H H' ∧ H' D = some (.lst vs3) ∧ Ats H' (fun l : List Str => l.map V.str) vs3 ((List.range i).flatMap (longRows zs) ++ (longRows zs i).take j)) ?_ (fun _ _ _ _ => trivial) ?_ ?_
      · exact ⟨vs2, e5, hD, by rw [List.take_zero, List.append_nil]; exact at5⟩
      · rintro j x H7 H8 hj ⟨vs3, e7, hD7, at7⟩ ⟨rfl, rfl⟩
        refine ⟨rfl, yes2 ?_⟩
        have ecut : cutV (zs.map V.str) (some (0 + (j : Int))) (some (0 + (j : Int) + (1 + (i : Int)))) = ((zs.drop j).take (i + 1)).map V.str := by
          rw [show 0 + (j : Int) = ((j : Nat) : Int) by omega, show (j : Int) + (1 + (i : Int)) = ((j + (i + 1) : Nat) : Int) by omega, cut_mid _ _ _ (by omega) (by rw [List.length_map]; omega), List.map_take, List.map_drop]
          congr 1
          omega
        have hS8 := e7 _ _ hS
        have lenv : vs3.length + 1 ≤ 100000 := by
          rw [at7.1, List.length_append, List.length_take, longRows_len]
          have := hcl i
          omega
        have last : ∀ (b : Addr) (H9 : Hp), Same H8 H9 → H9 b = some (.tup (((zs.drop j).take (i + 1)).map V.str)) → ∃ acc, H9 D = some (.lst acc) ∧ acc.length < sizeLine ∧ ∃ vs3, Same H (upd H9 D (.lst (acc ++ [.ref b]))) ∧ (upd H9 D (.lst (acc ++ [.ref b]))) D = some (.lst vs3) ∧
            Ats (upd H9 D (.lst (acc ++ [.ref b]))) (fun l : List Str => l.map V.str) vs3 ((List.range i).flatMap (longRows zs) ++ (longRows zs i).take (j + 1)) := by
          intro b H9 e9 hb
          have hD9 := e9 _ _ hD7
          refine ⟨vs3, hD9, Evl.sz_lt (by omega), vs3 ++ [.ref b], Same.grow (Same.trans e7 e9) nD, upd_same, ?_⟩
          refine Ats.updL ?_ hD9
          rw [take_succ (longRows_at hj), ← List.append_assoc]
          exact (at7.same e9).append (Ats.one hb)
        refine ⟨_, rfl, _, rfl, _, rfl, _, rfl, _, rfl, _, _, rfl, rfl, _, rfl, a, _, rfl, SqT.of hS8, fun hw => ?_, fun hw p np => ?_⟩
        · refine last a H8 (Same.refl _) ?_
          have e0 : cutV (zs.map V.str) (some (0 + (j : Int))) (some (0 + (j : Int) + (1 + (i : Int)))) = zs.map V.str := by
            unfold cutV
            rw [hw.1, hw.2, List.drop_zero, Nat.sub_zero, List.take_length]
          rw [← ecut, e0]
          exact hS8
        · rw [ecut]
          exact last p _ (same_upd np) upd_same
      · rintro H7 ⟨vs3, e7, hD7, at7⟩
        refine ⟨vs3, e7, hD7, ?_⟩
        have eg : (longRows zs i).take (zs.length - i) = longRows zs i := List.take_of_length_le (by rw [longRows_len]; omega)
        rw [eg] at at7
        rw [List.range_succ, List.flatMap_append, List.flatMap_cons, List.flatMap_nil, List.append_nil]
        exact at7
    · rintro H5 ⟨vs2, e5, hD, at5⟩
      exact q D vs2 H5 nD e5 hD at5
end
end Bk

namespace Bk
open PySem PySem.Spec PyProof.Rows L2
section
variable {P : Program} {w : World} {K : PySem.W.Frag} {mg : Str → Option Value} {base : Heap}
theorem scBF : FnScope ["self", "index"] ["self", "index"] (defScope (inClass (topS 2) 0)) := ⟨rfl, rfl, rfl, by decide +kernel, rfl, by decide +kernel, by decide +kernel⟩
theorem ok_BF {C f : Addr} {fd : FuncData} (T : ExT K mg "BadFolders" C f "index") (F : Fun K "__init__" "BadFolders.__init__" (inClass (topS 2) 0) f fd) : FnOk P w K mg base CX0 1 f fd ["self", "index"] (spExcInit C "index") := by
  refine F.ok scBF (fun vs H Q E h => ?_) (fun cdv A outer s H vs Q E hr h => ?_)
  · obtain ⟨a, v, rfl, _⟩ := h
    rfl
  · obtain ⟨a, v, rfl, ha, q⟩ := h
    refine ⟨_, pss_one (ps_ost (pv 0) (pv 1)), ?_⟩
    exact ⟨_, rfl, _, rfl, a, C, rfl, T.o, T.noF, .inl ⟨ha, fun dx ndx hne => q dx ndx hne⟩⟩
theorem scFol : FnScope ["self", "names", "chain", "wrong", "lots", "at", "lot"] ["self", "names", "chain"] (defScope (inClass (topS 11) 0)) := ⟨rfl, rfl, rfl, by decide +kernel, rfl, by decide +kernel, by decide +kernel⟩
theorem ok_folders (B : Bi mg) {C CB f fB f1 f2 f3 : Addr} {fd fdB fd1 fd2 fd3 : FuncData} {t1 t2 : Tok} {kws : List (Str × V)} (g_MOST_FOLDERS : mg "MOST_FOLDERS" = some (.int 5 t1)) (g_MOST_IN_CHAIN : mg "MOST_IN_CHAIN" = some (.int 12 t2)) (T_BadFolders : ExT K mg "BadFolders" CB fB "index") (T : FolT K mg C f)
    (G_BadFolders : FnOk P w K mg base CX0 1 fB fdB ["self", "index"] (spExcInit CB "index")) (b_BadFolders : Binds K fdB ["self", "index"] [])
    (c_first_wrong : Cal P w K mg base CX0 2 "first_wrong" f1 fd1 ["names", "most"] (spFirstWrong K)) (c_choices : Cal P w K mg base CX0 2 "choices" f2 fd2 ["things"] (spChoices K)) (c_rows_of_neighbours : Cal P w K mg base CX0 1 "rows_of_neighbours" f3 fd3 ["names"] spNeigh)
    (F : FunD K "__init__" "Folders.__init__" (defArgs (inClass (topS 11) 0)) (defBody (inClass (topS 11) 0)) (defScope (inClass (topS 11) 0)) [] kws f fd) : FnOk P w K mg base (L2.CX P w) 3 f fd ["self", "names", "chain"] (spFolders K C CB) := by
  refine F.ok scFol (fun vs H Q E h => ?_) (fun cdv A outer s H vs Q E hr h => ?_)
  · obtain ⟨x, dx, nm, o, ch, rfl, _⟩ := h
    rfl
  · obtain ⟨x, dx, nm, o, ch, rfl, hx, Th, kE, kQ⟩ := h
    have nd := scFol.nd
    have hu := hu_of hr
    have hr_first_wrong := hr
    have hrE := hr
    have hr_choices := hr
    have hr_rows_of_neighbours : Room 1 _ := hr.mono (by decide)
    refine ⟨_, (Evl.pss_cut (ps_set (i := 3) nd rfl (Or.inl rfl) (pe_call c_first_wrong.ok hr_first_wrong (by rfl) c_first_wrong.g c_first_wrong.kp c_first_wrong.b .nil pass0 (pa_cons (pv 1) (pa_cons (pe_ifExp (pt_val (pv 2)) (pe_glob (v := .int 12) (by rfl) g_MOST_IN_CHAIN ⟨_, rfl⟩) (pe_glob (v := .int 5) (by rfl) g_MOST_FOLDERS ⟨_, rfl⟩)) pa_nil))))
      (Evl.pss_cut (ps_if (pt_cmpR op_notN (pv 3) pe_non (nomark _)) (pss_one (ps_raise rfl (takes_of rfl rfl rfl rfl) (pmk_oex T_BadFolders.o T_BadFolders.iC T_BadFolders.tI G_BadFolders hrE b_BadFolders .nil pass0 (by rfl) T_BadFolders.g (pa_cons (pv 3) pa_nil)))) pss_nil)
      (Evl.pss_cut (ps_fld (pv 0) (kTupleOf K (by rfl) B.tuple (pv 1)) rfl)
      (Evl.pss_cut (ps_fld (pv 0) (pv 2) rfl)
      (Evl.pss_cut (ps_set (i := 4) nd rfl (Or.inl rfl) (pe_ifExp (pt_val (pv 2)) (pe_call c_rows_of_neighbours.ok hr_rows_of_neighbours (by rfl) c_rows_of_neighbours.g c_rows_of_neighbours.kp c_rows_of_neighbours.b .nil pass0 (pa_cons (pe_fld (pv 0) rfl) pa_nil)) (pe_call c_choices.ok hr_choices (by rfl) c_choices.g c_choices.kp c_choices.b .nil pass0 (pa_cons (pe_fld (pv 0) rfl) pa_nil))))
      (pss_one (ps_fld (pv 0) (pe_dcT (own := [("at", 5), ("lot", 6)]) hr.units0 rfl nd (kPiE K (by rfl) B.enumerate (pa_cons (pv 4) pa_nil)) (blkOk_by (N := ["self", "names", "chain", "wrong", "lots", "at", "lot"]) (sc := defScope (inClass (topS 11) 0)) (by decide +kernel)) (fun _ _ _ _ _ => (kTg K 2 rfl (pgs_cons (pg_name (i := 5) nd rfl (Or.inl rfl)) (pgs_cons (pg_name (i := 6) nd rfl (Or.inl rfl)) pgs_nil)))) (fun _ _ _ _ _ => (pv 6)) (fun _ _ _ _ _ => (pv 5))) rfl))))))), ?_⟩
    -- wrong = first_wrong(..)
    refine ⟨fun σ1 H1 => σ1 = [some (.ref x), some nm, some (.bl ch), some (optV (wrongOf o (mostFor ch))), none, none, none] ∧ Same H H1, ?_, ?_⟩
    · cases ch with
      | true =>
        refine ⟨_, rfl, _, rfl, _, rfl, ?_⟩
        refine iteT ?_
        exact ⟨nm, o, 12, rfl, Th, fun H1 e1 => ⟨rfl, e1⟩⟩
      | false =>
        refine ⟨_, rfl, _, rfl, _, rfl, ?_⟩
        refine iteF ?_
        exact ⟨nm, o, 5, rfl, Th, fun H1 e1 => ⟨rfl, e1⟩⟩
    rintro σ1 H1 ⟨rfl, e1⟩
    -- if wrong is not None: raise BadFolders(wrong)
    refine ⟨fun σ2 H2 => wrongOf o (mostFor ch) = none ∧ σ2 = [some (.ref x), some nm, some (.bl ch), some .non, none, none, none] ∧ Same H H2, ?_, ?_⟩
    · cases hw : wrongOf o (mostFor ch) with
      | some i =>
        refine ⟨_, rfl, rfl, _, rfl, ?_⟩
        refine iteT ?_
        refine mkO_of (v := .int (i : Int)) (H1 := H1) (fun R r => ⟨_, rfl, r⟩) fun d H' h => kE i d H' hw ⟨e1.free h.1, Same.trans e1 h.2.1, h.2.2⟩
      | none =>
        refine ⟨_, rfl, rfl, _, rfl, ?_⟩
        refine iteF ?_
        exact ⟨rfl, rfl, e1⟩
    rintro σ2 H2 ⟨hw, rfl, e2⟩
    obtain ⟨zs, rfl, zne, znames, zlen, znd⟩ := right_names hw
    obtain ⟨a, rfl, hS⟩ : ∃ a, nm = .ref a ∧ (SqL K H a (zs.map V.str) ∨ H a = some (.tup (zs.map V.str))) := by
      cases Th with
      | seq hS b hi hl => exact ⟨_, rfl, hS⟩
    have hx2 := e2 _ _ hx
    -- self.names = tuple(names)
    refine ⟨fun σ3 H3 => ∃ t, σ3 = [some (.ref x), some (.ref a), some (.bl ch), some .non, none, none, none] ∧ t ≠ x ∧ H3 x = some (.ins C dx [("names", .ref t)]) ∧ H3 t = some (.tup (zs.map V.str)) ∧ But x H H3, ?_, ?_⟩
    · have fin : ∀ (t : Addr) (H3 : Hp), Same H2 H3 → H3 t = some (.tup (zs.map V.str)) → ∃ p C' dx' fs, V.ref x = .ref p ∧ H3 p = some (.ins C' dx' fs) ∧ Cls K C' ∧ NoAttr K C' "names" ∧ fs.length < 1000 ∧
          ∃ t', [some (V.ref x), some (V.ref a), some (.bl ch), some .non, none, none, none] = [some (.ref x), some (.ref a), some (.bl ch), some .non, none, none, none] ∧ t' ≠ x ∧ (upd H3 p (.ins C' dx' (putF "names" (.ref t) fs))) x = some (.ins C dx [("names", .ref t')]) ∧ (upd H3 p (.ins C' dx' (putF "names" (.ref t) fs))) t' = some (.tup (zs.map V.str)) ∧ But x H (upd H3 p (.ins C' dx' (putF "names" (.ref t) fs))) := by
        intro t H3 e3 ht
        have ntx : t ≠ x := ne_of ht (e3 _ _ hx2) (fun z => nomatch z)
        exact ⟨x, C, dx, [], rfl, e3 _ _ hx2, T.cl, T.nN, by decide, t, rfl, ntx, upd_same, by rw [upd_ne ntx]; exact ht, (But.same (Same.trans e2 e3)).trans But.upd⟩
      rcases hS with hS | hS
      · exact ⟨_, rfl, .inl ⟨a, _, rfl, Same.seq e2 hS, fun q nq => ⟨_, rfl, fin q _ (same_upd nq) upd_same⟩⟩⟩
      · exact ⟨_, rfl, .inr ⟨a, _, rfl, SqT.of (e2 _ _ hS), ⟨_, rfl, fin a _ (Same.refl _) (e2 _ _ hS)⟩⟩⟩
    rintro σ3 H3 ⟨t, rfl, ntx, hx3, ht3, b3⟩
    -- self.chain = chain
    refine ⟨fun σ4 H4 => σ4 = [some (.ref x), some (.ref a), some (.bl ch), some .non, none, none, none] ∧ H4 x = some (.ins C dx [("names", .ref t), ("chain", .bl ch)]) ∧ H4 t = some (.tup (zs.map V.str)) ∧ But x H H4, ?_, ?_⟩
    · refine ⟨_, rfl, _, rfl, x, C, dx, _, rfl, hx3, T.cl, T.nC, by show 1 < 1000; decide, rfl, ?_, ?_, b3.trans But.upd⟩
      · rw [upd_same, put2]
      · rw [upd_ne ntx]
        exact ht3
    rintro σ4 H4 ⟨rfl, hx4, ht4, b4⟩
    -- lots = ..
    refine ⟨fun σ5 H5 => ∃ (D : Addr) (ws : List V), σ5 = [some (.ref x), some (.ref a), some (.bl ch), some .non, some (.ref D), none, none] ∧ Same H4 H5 ∧ H5 D = some (.lst ws) ∧ Ats H5 (fun l : List Str => l.map V.str) ws (lotsFor ch zs), ?_, ?_⟩
    · have hn : ∀ R : V → Hp → Prop, R (.ref t) H4 → ∃ p C' dx' fs v, V.ref x = .ref p ∧ H4 p = some (.ins C' dx' fs) ∧ Cls K C' ∧ NoAttr K C' "names" ∧ fs.lookup ("names" : Str) = some v ∧ R v H4 := fun R r => ⟨x, C, dx, _, _, rfl, hx4, T.cl, T.nN, look_n2 _ _, r⟩
      cases ch with
      | true =>
        refine ⟨_, rfl, _, rfl, ?_⟩
        refine iteT ?_
        exact ⟨_, rfl, hn _ ⟨t, zs, rfl, ht4, Nat.le_trans zlen (by decide), fun D ws H5 nD e5 hD at5 => ⟨D, ws, rfl, e5, hD, at5⟩⟩⟩
      | false =>
        refine ⟨_, rfl, _, rfl, ?_⟩
        refine iteF ?_
        exact ⟨_, rfl, hn _ ⟨t, zs.map V.str, rfl, .inr (SqT.of ht4), by rw [List.length_map]; exact Nat.le_trans zlen (by decide), fun D ws H5 nD e5 hD at5 => ⟨D, ws, rfl, e5, hD, lots_of_choices at5⟩⟩⟩
    rintro σ5 H5 ⟨D, ws, rfl, e5, hD5, at5⟩
    -- self.places = {lot: at for at, lot in enumerate(lots)}
    refine dcT_enL rfl (SqL.of hD5) fun D2 nD2 => ⟨fun k H' => Same H5 H' ∧ H' D2 = some (.dT (placesOf ((lotsFor ch zs).take k))), ⟨same_upd nD2, upd_same⟩, fun k H' ⟨e6, _⟩ => SqL.of (e6 _ _ hD5), ?_, ?_⟩
    · rintro k y H6 H7 hk ⟨e6, hd6⟩ ⟨T', y1, y2, rfl, nT, rfl, h1, h2⟩
      cases h1
      have h2 : ws[k]? = some y2 := h2
      obtain ⟨lot, hlot⟩ : ∃ lot, (lotsFor ch zs)[k]? = some lot := ⟨_, List.getElem?_eq_getElem (by rw [← at5.1]; exact hk)⟩
      obtain ⟨b, rfl, hb⟩ := at5.2 k y2 lot h2 hlot
      have eT := same_upd (o := HO.tup [V.int (k : Nat), .ref b]) nT
      refine ⟨T', _, rfl, SqT.of upd_same, rfl, _, _, rfl, _, _, rfl, rfl, ?_⟩
      refine ⟨rfl, _, rfl, _, rfl, placesOf ((lotsFor ch zs).take k), lot.map Sum.inr, b, rfl, ?_, eT _ _ hd6, ?_, Same.grow (Same.trans e6 eT) nD2, ?_⟩
      · rw [List.map_map]
        exact eT _ _ (e6 _ _ hb)
      · refine Nat.lt_of_le_of_lt (places_len _) ?_
        rw [List.length_take]
        have := lots_few zlen
        exact Evl.sz_lt (by omega)
      · rw [upd_same, places_snoc hlot]
    · rintro H6 ⟨e6, hd6⟩
      rw [at5.1, List.take_length] at hd6
      have hx6 := e6 _ _ (e5 _ _ hx4)
      have nD2x : D2 ≠ x := ne_of hd6 hx6 (fun z => nomatch z)
      refine ⟨_, rfl, x, C, dx, _, rfl, hx6, T.cl, T.nP, by show 2 < 1000; decide, kQ zs _ hw rfl znd ⟨dx, t, D2, ?_, ?_, ?_⟩ ?_⟩
      · rw [upd_same, put3]
        rfl
      · rw [upd_ne ntx]
        exact e6 _ _ (e5 _ _ ht4)
      · rw [upd_ne nD2x]
        exact hd6
      · exact (b4.trans (But.same (Same.trans e5 e6))).trans But.upd
end
end Bk

namespace Bk
open PySem PySem.Spec PyProof.Rows L2
section
variable {P : Program} {w : World} {K : PySem.W.Frag} {mg : Str → Option Value} {base : Heap}
theorem scSame : FnScope ["_law_found", "_law_due", "_law_x", "_law_y"] ["_law_found", "_law_due"] (defScope (topS 20)) := ⟨rfl, rfl, rfl, by decide +kernel, rfl, by decide +kernel, by decide +kernel⟩
theorem same_step (B : Bi mg) {n : Nat} {f : Addr} {fd : FuncData} (F : Fun K "_law_same" "_law_same" (topS 20) f fd) (g : mg "_law_same" = some (.ref f)) (b : Binds K fd ["_law_found", "_law_due"] [])
    (ih : FnOk P w K mg base CX0 (n + 1) f fd ["_law_found", "_law_due"] (spSame K n)) : FnOk P w K mg base CX0 (n + 2) f fd ["_law_found", "_law_due"] (spSame K (n + 1)) := by
  refine F.ok scSame (fun vs H Q E h => ?_) (fun cdv A outer s H vs Q E hr h => ?_)
  · obtain ⟨x, y, d, rfl, _⟩ := h
    rfl
  · obtain ⟨x, y, d, rfl, hx, hy, hd, hw, q⟩ := h
    have nd := scSame.nd
    have hu := hu_of hr
    have hr__law_same := hr
    have c__law_same : Cal P w K mg base CX0 (n + 1) "_law_same" f fd ["_law_found", "_law_due"] (spSame K n) := ⟨ih, g, F.kp, b⟩
    refine ⟨_, (pss_cons (ps_if (pt_val (pe_callB (kIsiT K) (by rfl) B.isinstance (by decide +kernel) (pa_cons (pv 1) (pa_cons (pe_tup (pa_cons (pe_bltn (v := .ty "list") (by rfl) B.list (by decide +kernel) rfl) (pa_cons (pe_bltn (v := .ty "tuple") (by rfl) B.tuple (by decide +kernel) rfl) pa_nil))) pa_nil)))) (pss_cons (ps_if (PW.pt (pw_or (pt_cmpR op_ne (pe_callB (kIsi K) (by rfl) B.isinstance (by decide +kernel) (pa_cons (pv 0) (pa_cons (pe_bltn (v := .ty "list") (by rfl) B.list (by decide +kernel) rfl) pa_nil))) (pe_callB (kIsi K) (by rfl) B.isinstance (by decide +kernel) (pa_cons (pv 1) (pa_cons (pe_bltn (v := .ty "list") (by rfl) B.list (by decide +kernel) rfl) pa_nil))) (nomark _)) (pw_or1 (pt_cmpR op_ne (pe_callB (kIsi K) (by rfl) B.isinstance (by decide +kernel) (pa_cons (pv 0) (pa_cons (pe_bltn (v := .ty "tuple") (by rfl) B.tuple (by decide +kernel) rfl) pa_nil))) (pe_callB (kIsi K) (by rfl) B.isinstance (by decide +kernel) (pa_cons (pv 1) (pa_cons (pe_bltn (v := .ty "tuple") (by rfl) B.tuple (by decide +kernel) rfl) pa_nil))) (nomark _))))) (pss_one (ps_ret pe_bl)) pss_nil)
      (pss_one (ps_ret (pe_and (pe_cmpR op_eq (pe_callB (kLen K) (by rfl) B.len PySem.boot_len (pa_cons (pv 0) pa_nil)) (pe_callB (kLen K) (by rfl) B.len PySem.boot_len (pa_cons (pv 1) pa_nil)) (nomark _)) (pe_one (pe_callB (kAll K rfl) (by rfl) B.all (by decide +kernel) (pa_cons (pe_lc (own := [("_law_x", 2), ("_law_y", 3)]) rfl nd (kPiZ K (by rfl) B.zip (pa_cons (pv 0) (pa_cons (pv 1) pa_nil))) (blkOk_by (N := ["_law_found", "_law_due", "_law_x", "_law_y"]) (sc := defScope (topS 20)) (by decide +kernel)) (fun _ _ _ _ _ => (kTg K 2 rfl (pgs_cons (pg_name (i := 2) nd rfl (Or.inl rfl)) (pgs_cons (pg_name (i := 3) nd rfl (Or.inl rfl)) pgs_nil)))) (fun _ _ _ _ _ => pts_nil) (fun _ _ _ _ _ => (pe_call c__law_same.ok hr__law_same (by rfl) c__law_same.g c__law_same.kp c__law_same.b .nil pass0 (pa_cons (pv 2) (pa_cons (pv 3) pa_nil))))) pa_nil))))))) pss_nil)
      (pss_cons (ps_if (pt_val (pe_callB (kIsi K) (by rfl) B.isinstance (by decide +kernel) (pa_cons (pv 1) (pa_cons (pe_bltn (v := .ty "int") (by rfl) B.int (by decide +kernel) rfl) pa_nil)))) (pss_one (ps_ret (pe_and (pe_callB (kIsi K) (by rfl) B.isinstance (by decide +kernel) (pa_cons (pv 0) (pa_cons (pe_bltn (v := .ty "int") (by rfl) B.int (by decide +kernel) rfl) pa_nil))) (pe_and (pe_cmpR op_eq (pe_callB (kIsi K) (by rfl) B.isinstance (by decide +kernel) (pa_cons (pv 0) (pa_cons (pe_bltn (v := .ty "bool") (by rfl) B.bool (by decide +kernel) rfl) pa_nil))) (pe_callB (kIsi K) (by rfl) B.isinstance (by decide +kernel) (pa_cons (pv 1) (pa_cons (pe_bltn (v := .ty "bool") (by rfl) B.bool (by decide +kernel) rfl) pa_nil))) (nomark _)) (pe_one (pe_cmpR op_eq (pv 0) (pv 1) (nomark _))))))) pss_nil)
      (pss_one (ps_ret (pe_and (pe_cmpR op_isBl (pe_callB (kIsiT K) (by rfl) B.isinstance (by decide +kernel) (pa_cons (pv 0) (pa_cons (pe_tup (pa_cons (pe_bltn (v := .ty "int") (by rfl) B.int (by decide +kernel) rfl) (pa_cons (pe_bltn (v := .ty "list") (by rfl) B.list (by decide +kernel) rfl) (pa_cons (pe_bltn (v := .ty "tuple") (by rfl) B.tuple (by decide +kernel) rfl) pa_nil)))) pa_nil))) pe_bl (nomark _)) (pe_one (pe_cmpR op_eq (pv 0) (pv 1) (nomark _)))))))), ?_⟩
    have tx := tyx_d hx
    have ty := tyx_d hy
    refine isi2 rfl ty (kit2 (kd_L d) (kd_T d)) fun H1 e1 => ⟨_, rfl, ?_⟩
    cases hs : isL d || isT d with
    | false =>
      refine iteF ?_
      refine isi1 rfl (TyX.same ty e1) (kit_ty (kd_I d)) ⟨_, rfl, ?_⟩
      obtain ⟨exy, hsc⟩ := flat_eq hx hy hs
      have hdec : decide (x = y) = true := decide_eq_true exy
      cases hi : isI d with
      | true =>
        refine iteT ?_
        refine isi1 rfl (TyX.same tx e1) (kit_ty (kd_I d)) ⟨_, rfl, ?_⟩
        rw [hi]
        refine iteT ?_
        refine isi1 rfl (TyX.same tx e1) (kit_ty (kd_B d)) ?_
        refine isi1 rfl (TyX.same ty e1) (kit_ty (kd_B d)) ⟨rfl, _, rfl, ?_⟩
        rw [decide_eq_true rfl]
        refine iteT ?_
        refine ⟨_, rfl, _, rfl, hsc, ?_⟩
        rw [hdec]
        exact q H1 e1
      | false =>
        refine iteF ?_
        have hl : isL d = false := by cases h : isL d <;> simp_all
        have ht : isT d = false := by cases h : isT d <;> simp_all
        refine isi3 rfl (TyX.same tx e1) (kit3 (kd_I d) (kd_L d) (kd_T d)) fun H2 e2 => ?_
        rw [hi, hl, ht]
        refine ⟨false, false, rfl, rfl, _, rfl, ?_⟩
        rw [decide_eq_true rfl]
        refine iteT ?_
        refine ⟨_, rfl, _, rfl, hsc, ?_⟩
        rw [hdec]
        exact q H2 (Same.trans e1 e2)
    | true =>
      refine iteT ?_
      obtain ⟨a, b, xs, ys, ds, rfl, rfl, hS, hxs, hys, hdp, hw1, hw2⟩ : ∃ a b xs ys ds, x = .ref a ∧ y = .ref b ∧ ((SqL K H a xs ∧ SqL K H b ys) ∨ (SqT K H a xs ∧ SqT K H b ys)) ∧ DpAll K H xs ds ∧ DpAll K H ys ds ∧ PyData.depthAll ds + 1 ≤ n ∧ ds.length ≤ 90000 ∧ wideAll ds ≤ 90000 := by
        cases hx with
        | lst h1 h2 =>
          cases hy with
          | lst h3 h4 => exact ⟨_, _, _, _, _, rfl, rfl, .inl ⟨h1, h3⟩, h2, h4, by simpa [PyData.depth] using hd, by simp only [wide] at hw; omega, by simp only [wide] at hw; omega⟩
        | tup h1 h2 =>
          cases hy with
          | tup h3 h4 => exact ⟨_, _, _, _, _, rfl, rfl, .inr ⟨h1, h3⟩, h2, h4, by simpa [PyData.depth] using hd, by simp only [wide] at hw; omega, by simp only [wide] at hw; omega⟩
        | _ => cases hs
      have hlen : xs.length = ys.length := by rw [DpAll.len hxs, DpAll.len hys]
      have hS1 : (SqL K H1 a xs ∧ SqL K H1 b ys) ∨ (SqT K H1 a xs ∧ SqT K H1 b ys) := hS.imp (fun z => ⟨e1.seq z.1, e1.seq z.2⟩) fun z => ⟨Same.sqt e1 z.1, Same.sqt e1 z.2⟩
      have lx : LenV K (.ref a) H1 xs.length := hS1.imp (fun z => ⟨xs, z.1, rfl⟩) fun z => ⟨xs, z.1, rfl⟩
      have ly : LenV K (.ref b) H1 ys.length := hS1.imp (fun z => ⟨ys, z.2, rfl⟩) fun z => ⟨ys, z.2, rfl⟩
      refine isi1 rfl (TyX.same tx e1) (kit_ty (kd_L d)) ?_
      refine isi1 rfl (TyX.same ty e1) (kit_ty (kd_L d)) ⟨rfl, _, rfl, ?_⟩
      rw [decide_eq_true rfl]
      refine iteF ?_
      refine isi1 rfl (TyX.same tx e1) (kit_ty (kd_T d)) ?_
      refine isi1 rfl (TyX.same ty e1) (kit_ty (kd_T d)) ⟨rfl, _, rfl, ?_⟩
      rw [decide_eq_true rfl]
      refine iteF ?_
      refine ⟨_, rfl, _, _, rfl, lx, _, rfl, _, _, rfl, ly, rfl, ?_⟩
      rw [hlen, decide_eq_true rfl]
      refine ⟨_, rfl, ?_⟩
      refine iteT ?_
      obtain ⟨m, rfl⟩ : ∃ m, n = m + 1 := ⟨n - 1, by omega⟩
      refine cb1 ?_
      refine lcZ (a := a) (b := b) (xs := xs) (ys := ys) rfl rfl hS1 hlen fun D nD => ⟨fun k H' => Same H1 H' ∧ H' D = some (.lst (List.replicate k (V.bl true))), ⟨same_upd nD, upd_same⟩, fun k H' z => z.1, ?_, ?_⟩
      · rintro k v H3 H4 hk ⟨e3, hD⟩ ⟨T, v1, v2, rfl, nT, rfl, g1, g2⟩
        have eT := same_upd (o := HO.tup [v1, v2]) nT
        refine ⟨T, _, rfl, SqT.of upd_same, rfl, _, _, rfl, _, _, rfl, rfl, ?_⟩
        refine ⟨rfl, yes2 ?_⟩
        have g1 : xs[k]? = some v1 := g1
        have g2 : ys[k]? = some v2 := g2
        obtain ⟨d1, f1, p1⟩ := DpAll.get hxs g1
        obtain ⟨d2, f2, p2⟩ := DpAll.get hys g2
        rw [f1] at f2
        obtain rfl := Option.some.inj f2
        have e04 := Same.trans e1 (Same.trans e3 eT)
        have hdd := depth_mem (List.mem_of_getElem? f1)
        have hww := wide_mem (List.mem_of_getElem? f1)
        refine ⟨_, rfl, _, rfl, v1, v2, d1, rfl, Dp.sm e04 _ _ p1, Dp.sm e04 _ _ p2, by omega, by omega, fun H5 e5 => ?_⟩
        have e15 := Same.trans e3 (Same.trans eT e5)
        refine ⟨_, e5 _ _ (eT _ _ hD), ?_, Same.grow e15 nD, ?_⟩
        · rw [List.length_replicate]
          have := DpAll.len hxs
          exact Evl.sz_lt (by omega)
        · rw [upd_same, List.replicate_succ']
      · rintro H3 ⟨e3, hD⟩
        refine ⟨D, List.replicate xs.length true, rfl, SqL.of (by rw [List.map_replicate]; exact hD), ?_⟩
        have : (List.replicate xs.length true).all id = true := by
          rw [List.all_eq_true]
          intro z hz
          rw [List.eq_of_mem_replicate hz]
          rfl
        rw [this]
        exact q H3 (Same.trans e1 e3)
theorem ok_same (B : Bi mg) {f : Addr} {fd : FuncData} (F : Fun K "_law_same" "_law_same" (topS 20) f fd) (g : mg "_law_same" = some (.ref f)) (b : Binds K fd ["_law_found", "_law_due"] []) : ∀ n, FnOk P w K mg base CX0 (n + 1) f fd ["_law_found", "_law_due"] (spSame K n)
  | 0 => ok_never
  | n + 1 => same_step B F g b (ok_same B F g b n)
end
end Bk

namespace Bk
open PySem PySem.Spec PyProof.Rows L2
section
variable {P : Program} {w : World} {K : PySem.W.Frag} {mg : Str → Option Value} {base : Heap}
theorem scBrows : FnScope ["_law_many", "_law_left", "_law_found", "_law_head", "_law_at"] ["_law_many", "_law_left"] (defScope (topS 24)) := ⟨rfl, rfl, rfl, by decide +kernel, rfl, by decide +kernel, by decide +kernel⟩
theorem startE {σ : L2.St} {H : Hp} {R : VK} {a : Addr} {row : List Nat} (hv : σ[3]? = some (some (.ref a))) (ha : H a = some (.tup (rowV row))) (r : ∀ H', Same H H' → R (.int (startB row : Int)) H') :
    tIf (tTest (tOp (rNeD K) (tVar 3) (tTup tNil))) (tOp (rI0 fun i j => V.int (i + j)) (tOp (rIxT K) (tVar 3) (tUn (rU fun i => V.int (-i)) (tC (V.int 1)))) (tC (V.int 1))) (tC (V.int 0)) σ H R := by
  refine ⟨_, hv, Nat.zero_le _, fun t nt => ⟨.tuple (row.map fun (k : Nat) => PyData.int (k : Int)), .tuple [], .tup (SqT.of (same_upd nt _ _ ha)) (dp_row row), .tup (SqT.of upd_same) .nil, shaped_row row, rfl, _, rfl, ?_⟩⟩
  rw [eqv_row]
  have et := same_upd (o := HO.tup []) nt
  by_cases h : row = []
  · subst h
    refine iteF ?_
    exact r _ et
  · have e : (!row.isEmpty) = true := by
      cases row with
      | nil => exact absurd rfl h
      | cons x r => rfl
    rw [e]
    refine iteT ?_
    refine ⟨_, hv, 1, rfl, a, _, _, _, rfl, rfl, SqT.of (et _ _ ha), at_last h, _, _, rfl, rfl, ?_⟩
    have := r _ et
    unfold startB at this
    rw [if_neg h] at this
    exact this
theorem brows_step (B : Bi mg) {m : Nat} {f : Addr} {fd : FuncData} (F : Fun K "_law_b_rows" "_law_b_rows" (topS 24) f fd) (g : mg "_law_b_rows" = some (.ref f)) (b : Binds K fd ["_law_many", "_law_left"] [])
    (ih : FnOk P w K mg base CX0 (m + 1) f fd ["_law_many", "_law_left"] (spRows K m)) : FnOk P w K mg base CX0 (m + 2) f fd ["_law_many", "_law_left"] (spRows K (m + 1)) := by
  refine F.ok scBrows (fun vs H Q E h => ?_) (fun cdv A outer s H vs Q E hr h => ?_)
  · obtain ⟨k, n, rfl, _⟩ := h
    rfl
  · obtain ⟨k, n, rfl, hk, hk5, hn, q⟩ := h
    have nd := scBrows.nd
    have hu := hu_of hr
    have hr__law_b_rows := hr
    have c__law_b_rows : Cal P w K mg base CX0 (m + 1) "_law_b_rows" f fd ["_law_many", "_law_left"] (spRows K m) := ⟨ih, g, F.kp, b⟩
    refine ⟨_, (pss_cons (ps_set (i := 2) nd rfl (Or.inl rfl) (pe_lst pa_nil))
      (pss_cons (ps_for PassesOwn.never rfl (kPiL K (pe_ifExp (pt_cmpR op_gt (pv 0) pe_int (nomark _)) (pe_call c__law_b_rows.ok hr__law_b_rows (by rfl) c__law_b_rows.g c__law_b_rows.kp c__law_b_rows.b .nil pass0 (pa_cons (pe_op op_sub (pv 0) pe_int) (pa_cons (pv 1) pa_nil))) (pe_lst pa_nil))) (pg_name (i := 3) nd rfl (Or.inr rfl)) (pss_one (ps_expr (pe_bm PySem.F.plainAttrs_list PySem.F.slot_list_extend PySem.F.type_list_extend mt_extend (pv 2) (pa_cons (pe_lc (own := [("_law_at", 4)]) rfl nd (pi_range2 (by rfl) B.range (pa_cons (pe_ifExp (pt_cmpR (kNeD K hr.units) (pv 3) (pe_tup pa_nil) (nomark _)) (pe_op op_add (pe_ix (kIxT K) (pv 3) (pe_un un_neg pe_int) (fun _ _ => rfl)) pe_int) pe_int) (pa_cons (pv 1) pa_nil))) (blkOk_by (N := ["_law_many", "_law_left", "_law_found", "_law_head", "_law_at"]) (sc := defScope (topS 24)) (by decide +kernel)) (fun _ _ _ _ _ => (pg_name (i := 4) nd rfl (Or.inl rfl))) (fun _ _ _ _ _ => pts_nil) (fun _ _ _ _ _ => (pe_op (kCatA K) (pv 3) (pe_tup (pa_cons (pv 4) pa_nil))))) pa_nil)))))
      (pss_one (ps_ret (pe_ifExp (pt_cmpR op_gt (pv 0) pe_int (nomark _)) (pv 2) (pe_lst (pa_cons (pe_tup pa_nil) pa_nil))))))), ?_⟩
    refine ⟨Nat.zero_le _, fun l nl => ?_⟩
    have e0 := same_upd (o := HO.lst []) nl
    have hl0 : upd H l (.lst []) l = some (.lst []) := upd_same
    generalize upd H l (.lst []) = H0 at e0 hl0 ⊢
    refine ⟨_, rfl, _, _, rfl, rfl, _, rfl, ?_⟩
    cases k with
    | zero =>
      refine iteF ?_
      refine ⟨Nat.zero_le _, fun b0 nb0 => ?_⟩
      have hb0 : upd H0 b0 (.lst []) b0 = some (.lst []) := upd_same
      have e1 := Same.trans e0 (same_upd (o := HO.lst []) nb0)
      generalize upd H0 b0 (.lst []) = H1 at hb0 e1 ⊢
      refine ⟨b0, rfl, ⟨_, SqL.of hb0⟩, for_it (walk_list (xs := [])) (fun _ σ' H' => σ' = [some (.int ((0 : Nat) : Int)), some (.int (n : Int)), some (.ref l), none, none] ∧ H' = H1) ⟨rfl, rfl⟩ (fun _ _ _ _ ⟨_, e⟩ => by rw [e]; exact SqL.of hb0) ?_ ?_⟩
      · intro i x σ' H' H'' hi
        exact absurd hi (Nat.not_lt_zero _)
      · rintro σ' H' ⟨rfl, rfl⟩
        refine ⟨_, rfl, _, _, rfl, rfl, _, rfl, ?_⟩
        refine iteF ?_
        refine ⟨Nat.zero_le _, fun t nt => ⟨by show 1 ≤ sizeLine; rw [sizeLine_eq]; omega, fun D nD => ?_⟩⟩
        have et := same_upd (o := HO.tup []) nt
        have eD := same_upd (o := HO.lst [V.ref t]) nD
        have e2 := Same.trans e1 (Same.trans et eD)
        exact q D _ _ (Same.free (Same.trans e1 et) nD) e2 upd_same (Ats.one (eD _ _ upd_same))
    | succ k =>
      rw [show decide ((0 : Int) < ((k + 1 : Nat) : Int)) = true from decide_eq_true (by omega)]
      refine iteT ?_
      cases m with
      | zero => omega
      | succ m =>
      refine ⟨_, rfl, _, _, rfl, rfl, _, rfl, k, n, ?_, by omega, by omega, hn, fun b1 us H1 nb1 e1 hb1 at1 => ?_⟩
      · show [V.int (((k + 1 : Nat) : Int) - 1), V.int (n : Int)] = [V.int (k : Int), V.int (n : Int)]
        rw [show ((k + 1 : Nat) : Int) - 1 = (k : Int) by omega]
      have hl1 := e1 _ _ hl0
      have nlb : l ≠ b1 := ne_of_none hl0 nb1
      have e01 := Same.trans e0 e1
      have hok := bRows_ok (n := n) k
      have hlr := bRows_len hn k
      have hpow : 5 ^ k ≤ 5 ^ 5 := Nat.pow_le_pow_right (by decide) (by omega)
      refine ⟨b1, rfl, ⟨_, SqL.of hb1⟩, for_it (walk_list (xs := us)) (fun i σ' H' => ∃ (v3 : Option V) (ws : List V), σ' = [some (.int ((k + 1 : Nat) : Int)), some (.int (n : Int)), some (.ref l), v3, none] ∧ But l H1 H' ∧ H' l = some (.lst ws) ∧ Ats H' rowV ws (((bRows n k).take i).flatMap (growB n))) ?_ (fun i σ' H' _ ⟨_, _, _, bt, _⟩ => SqL.of (bt _ _ nlb.symm hb1)) ?_ ?_⟩
      · exact ⟨none, [], rfl, fun _ _ _ e => e, hl1, .nil⟩
      · rintro i x σ' H2 H3 hi ⟨v3, ws, rfl, bt, hl2, at2⟩ ⟨rfl, hx⟩
        have hir : i < (bRows n k).length := by rw [← at1.1]; exact hi
        obtain ⟨row, hrow⟩ : ∃ row, (bRows n k)[i]? = some row := ⟨_, List.getElem?_eq_getElem hir⟩
        obtain ⟨a, rfl, ha⟩ := at1.2 i x row hx hrow
        have o := hok row (List.mem_of_getElem? hrow)
        have nal : a ≠ l := ne_of ha hl1 (fun z => nomatch z)
        have ha3 := bt _ _ nal ha
        refine ⟨_, rfl, .inl ⟨rfl, _, SqL.of hl2⟩, ?_⟩
        have hsB := o.start
        refine startE rfl ha3 fun H4 e4 => ?_
        refine ⟨_, rfl, _, _, rfl, ⟨by omega, by omega, by omega, by omega⟩, fun D nD => ?_⟩
        have hnD : D ≠ l := (ne_of_none (e4 _ _ hl2) nD).symm
        have hlw : ws.length ≤ 5 ^ 5 * 5 := by
          rw [at2.1]
          have h1 := flatMap_len (f := growB n) (m := 5) (l := (bRows n k).take i) fun x _ => by rw [growB_length]; omega
          have h2 : ((bRows n k).take i).length ≤ 5 ^ k := by rw [List.length_take]; omega
          omega
        refine lc_it walk_range (fun j H' => ∃ vs3, Same H4 H' ∧ H' D = some (.lst vs3) ∧ Ats H' rowV vs3 ((growB n row).take j)) ?_ (fun _ _ _ _ => trivial) ?_ ?_
        · exact ⟨[], same_upd nD, upd_same, .nil⟩
        · rintro j x H7 H8 hj ⟨vs3, e7, hD7, at7⟩ ⟨rfl, rfl⟩
          have hj : j < n - startB row := by omega
          refine ⟨rfl, yes2 ?_⟩
          refine ⟨_, rfl, _, rfl, by show 1 ≤ sizeLine; rw [sizeLine_eq]; omega, fun p np => ?_⟩
          have ep := same_upd (o := HO.tup [V.int ((startB row : Int) + (j : Int))]) np
          have ha7 := ep _ _ (e7 _ _ (e4 _ _ ha3))
          have lenv : vs3.length ≤ 5 := by
            rw [at7.1, List.length_take, growB_length]
            omega
          refine ⟨a, p, rowV row, _, rfl, rfl, SqT.of ha7, SqT.of upd_same, ?_, fun z => ?_, fun _ z => ?_, fun _ _ t nt => ?_⟩
          · rw [rowV_len, o.len]
            refine Evl.sz_of ?_
            show k + 1 ≤ 100000
            omega
          · have hrow0 : row = [] := List.map_eq_nil_iff.mp z
            refine ⟨vs3, ep _ _ hD7, Evl.sz_lt (by omega), vs3 ++ [.ref p], Same.grow (Same.trans e7 ep) nD, upd_same, ?_⟩
            refine Ats.updL ?_ (ep _ _ hD7)
            rw [take_succ (growB_at hj)]
            refine (at7.same ep).append (Ats.one ?_)
            rw [upd_same, hrow0]
            show some (HO.tup [V.int ((startB [] : Int) + (j : Int))]) = some (HO.tup [V.int ((startB [] + j : Nat) : Int)])
            rw [show ((startB [] + j : Nat) : Int) = (startB [] : Int) + (j : Int) by omega]
          · cases z
          · have et := same_upd (o := HO.tup (rowV row ++ [V.int ((startB row : Int) + (j : Int))])) nt
            have hDt := et _ _ (ep _ _ hD7)
            refine ⟨vs3, hDt, Evl.sz_lt (by omega), vs3 ++ [.ref t], Same.grow (Same.trans e7 (Same.trans ep et)) nD, upd_same, ?_⟩
            refine Ats.updL ?_ hDt
            rw [take_succ (growB_at hj)]
            refine ((at7.same ep).same et).append (Ats.one ?_)
            rw [upd_same]
            unfold rowV
            rw [List.map_append]
            show some (HO.tup (_ ++ [V.int ((startB row : Int) + (j : Int))])) = some (HO.tup (_ ++ [V.int ((startB row + j : Nat) : Int)]))
            rw [show ((startB row + j : Nat) : Int) = (startB row : Int) + (j : Int) by omega]
        · rintro H7 ⟨vs3, e7, hD7, at7⟩
          have hl7 := e7 _ _ (e4 _ _ hl2)
          have bt7 : But l H1 (upd H7 l (.lst (ws ++ vs3))) := (bt.trans (But.same (Same.trans e4 e7))).trans But.upd
          rw [List.take_of_length_le (by rw [growB_length]; omega)] at at7
          refine ⟨l, D, ws, vs3, rfl, rfl, hl7, hD7, ?_, some (.ref a), ws ++ vs3, rfl, bt7, upd_same, ?_⟩
          · rw [at7.1, growB_length, sizeLine_eq]
            omega
          · rw [bRows_snoc hrow]
            exact (((at2.same e4).same e7).append at7).updL hl7
      · rintro σ' H2 ⟨v3, ws, rfl, bt, hl2, at2⟩
        refine ⟨_, rfl, _, _, rfl, rfl, _, rfl, ?_⟩
        rw [show decide ((0 : Int) < ((k + 1 : Nat) : Int)) = true from decide_eq_true (by omega)]
        refine iteT ?_
        rw [at1.1, List.take_length] at at2
        have e2 : Same H H2 := fun b u e => bt _ _ (ne_of_none e nl) (e01 _ _ e)
        exact ⟨_, rfl, q l ws H2 nl e2 hl2 at2⟩
theorem ok_brows (B : Bi mg) {f : Addr} {fd : FuncData} (F : Fun K "_law_b_rows" "_law_b_rows" (topS 24) f fd) (g : mg "_law_b_rows" = some (.ref f)) (b : Binds K fd ["_law_many", "_law_left"] []) : ∀ m, FnOk P w K mg base CX0 (m + 1) f fd ["_law_many", "_law_left"] (spRows K m)
  | 0 => ok_never
  | m + 1 => brows_step B F g b (ok_brows B F g b m)
end
end Bk

namespace Bk
open PySem PySem.Spec PyProof.Rows L2
section
variable {P : Program} {w : World} {K : PySem.W.Frag} {mg : Str → Option Value} {base : Heap}
theorem scBlots : FnScope ["_law_names_here", "_law_is_chain", "_law_found", "_law_many", "_law_at", "_law_row"] ["_law_names_here", "_law_is_chain"] (defScope (topS 25)) := ⟨rfl, rfl, rfl, by decide +kernel, rfl, by decide +kernel, by decide +kernel⟩
theorem ok_blots (B : Bi mg) {f f1 : Addr} {fd fd1 : FuncData} (c__law_b_rows : Cal P w K mg base CX0 7 "_law_b_rows" f1 fd1 ["_law_many", "_law_left"] (spRows K 6)) (F : Fun K "_law_b_lots" "_law_b_lots" (topS 25) f fd) : FnOk P w K mg base CX0 8 f fd ["_law_names_here", "_law_is_chain"] (spBlots K) := by
  refine F.ok scBlots (fun vs H Q E h => ?_) (fun cdv A outer s H vs Q E hr h => ?_)
  · obtain ⟨a, zs, ch, rfl, _⟩ := h
    rfl
  · obtain ⟨a, zs, ch, rfl, hS, hl, q⟩ := h
    have nd := scBlots.nd
    have hu := hu_of hr
    have hr__law_b_rows := hr
    have hl12 : zs.length ≤ 12 := by
      cases ch with
      | true => exact hl
      | false => exact Nat.le_trans hl (by decide)
    refine ⟨_, (pss_cons (ps_set (i := 2) nd rfl (Or.inl rfl) (pe_lst pa_nil))
      (pss_cons (ps_for PassesOwn.never rfl (pi_range2 (by rfl) B.range (pa_cons pe_int (pa_cons (pe_op op_add (pe_callB (kLen K) (by rfl) B.len PySem.boot_len (pa_cons (pv 0) pa_nil)) pe_int) pa_nil))) (pg_name (i := 3) nd rfl (Or.inr rfl)) (pss_one (ps_if (pt_val (pv 1)) (pss_one (ps_expr (pe_bm PySem.F.plainAttrs_list PySem.F.slot_list_extend PySem.F.type_list_extend mt_extend (pv 2) (pa_cons (pe_lc (own := [("_law_at", 4)]) rfl nd (pi_range1 (by rfl) B.range (pa_cons (pe_op op_add (pe_op op_sub (pe_callB (kLen K) (by rfl) B.len PySem.boot_len (pa_cons (pv 0) pa_nil)) (pv 3)) pe_int) pa_nil)) (blkOk_by (N := ["_law_names_here", "_law_is_chain", "_law_found", "_law_many", "_law_at", "_law_row"]) (sc := defScope (topS 25)) (by decide +kernel)) (fun _ _ _ _ _ => (pg_name (i := 4) nd rfl (Or.inl rfl))) (fun _ _ _ _ _ => pts_nil) (fun _ _ _ _ _ => (kTupleOf K (by rfl) B.tuple (pe_slice (kSlL K) (pv 0) (po_some (pv 4)) (po_some (pe_op op_add (pv 4) (pv 3))))))) pa_nil)))) (pss_one (ps_expr (pe_bm PySem.F.plainAttrs_list PySem.F.slot_list_extend PySem.F.type_list_extend mt_extend (pv 2) (pa_cons (pe_lc (own := [("_law_row", 5)]) rfl nd (kPiL K (pe_call c__law_b_rows.ok hr__law_b_rows (by rfl) c__law_b_rows.g c__law_b_rows.kp c__law_b_rows.b .nil pass0 (pa_cons (pv 3) (pa_cons (pe_callB (kLen K) (by rfl) B.len PySem.boot_len (pa_cons (pv 0) pa_nil)) pa_nil)))) (blkOk_by (N := ["_law_names_here", "_law_is_chain", "_law_found", "_law_many", "_law_at", "_law_row"]) (sc := defScope (topS 25)) (by decide +kernel)) (fun _ _ _ _ _ => (pg_name (i := 5) nd rfl (Or.inl rfl))) (fun _ _ _ _ _ => pts_nil) (fun _ _ _ _ _ => (kTupleOf K (by rfl) B.tuple (pe_lc (own := [("_law_at", 4)]) rfl nd (kPiT K (pv 5)) (blkOk_by (by with_unfolding_all rfl)) (fun _ _ _ _ _ => (pg_name (i := 4) nd rfl (Or.inl rfl))) (fun _ _ _ _ _ => pts_nil) (fun _ _ _ _ _ => (pe_ix (kIxL K) (pv 0) (pv 4) (fun _ _ => rfl))))))) pa_nil)))))))
      (pss_one (ps_ret (pv 2))))), ?_⟩
    refine ⟨Nat.zero_le _, fun l nl => ?_⟩
    have e0 := same_upd (o := HO.lst []) nl
    have hl0 : upd H l (.lst []) l = some (.lst []) := upd_same
    generalize upd H l (.lst []) = H0 at e0 hl0 ⊢
    have hS0 : SqL K H0 a (zs.map V.str) := SqL.of (e0 _ _ hS)
    have nal : a ≠ l := ne_of_none hS nl
    refine ⟨_, rfl, .ref a, zs.length, rfl, .inl ⟨_, hS0, by rw [List.length_map]⟩, _, _, rfl, rfl, _, _, rfl, ⟨by omega, by omega, by omega, by omega⟩, ?_⟩
    have en : ((zs.length : Int) + 1 - 1).toNat = zs.length := by omega
    rw [en]
    refine for_it walk_range (fun i σ' H' => ∃ (v3 : Option V) (ws : List V), σ' = [some (.ref a), some (.bl ch), some (.ref l), v3, none, none] ∧ But l H0 H' ∧ H' l = some (.lst ws) ∧ ws.length ≤ i * 10000 ∧ Ats H' (fun l : List Str => l.map V.str) ws (lawLots ch zs i)) ?_ (fun _ _ _ _ _ => trivial) ?_ ?_
    · refine ⟨none, [], rfl, fun _ _ _ e => e, hl0, Nat.zero_le _, ?_⟩
      cases ch <;> exact .nil
    · rintro i x σ' H1 H2 hi ⟨v3, ws, rfl, bt, hl2, lw, at2⟩ ⟨rfl, rfl⟩
      have hS2 : H2 a = some (.lst (zs.map V.str)) := bt _ _ nal (e0 _ _ hS)
      have ext : ∀ (D : Addr) (us : List V) (H' : Hp), Same H2 H' → D ≠ l → H' D = some (.lst us) → us.length ≤ 10000 → Ats H' (fun l : List Str => l.map V.str) us (if ch then longRows zs i else (bRows zs.length (i + 1)).map (pickAt zs)) →
          rExtend (.ref l) [.ref D] H' (fun _ H3 => ∃ (v3 : Option V) (ws : List V), [some (V.ref a), some (.bl ch), some (.ref l), some (.int (1 + (i : Int))), none, none] = [some (.ref a), some (.bl ch), some (.ref l), v3, none, none] ∧ But l H0 H3 ∧ H3 l = some (.lst ws) ∧ ws.length ≤ (i + 1) * 10000 ∧ Ats H3 (fun l : List Str => l.map V.str) ws (lawLots ch zs (i + 1))) := by
        intro D us H' e hD hus lus atu
        have hl' := e _ _ hl2
        refine ⟨l, D, ws, us, rfl, rfl, hl', hus, ?_, _, ws ++ us, rfl, (bt.trans (But.same e)).trans But.upd, upd_same, ?_, ?_⟩
        · rw [sizeLine_eq]
          omega
        · rw [List.length_append]
          omega
        · rw [lawLots_next]
          exact ((at2.same e).append atu).updL hl'
      cases ch with
      | true =>
        refine ⟨_, rfl, _, rfl, ?_⟩
        refine iteT ?_
        refine ⟨_, rfl, .inl ⟨rfl, _, SqL.of hl2⟩, ?_⟩
        refine ⟨_, rfl, .ref a, zs.length, rfl, .inl ⟨_, SqL.of hS2, by rw [List.length_map]⟩, _, rfl, _, _, rfl, rfl, _, _, rfl, rfl, _, rfl, by omega, by omega, fun D nD => ?_⟩
        have ec : ((zs.length : Int) - (1 + (i : Int)) + 1).toNat = zs.length - i := by omega
        rw [ec]
        refine lc_it walk_range (fun j H' => ∃ vs3, Same H2 H' ∧ H' D = some (.lst vs3) ∧ Ats H' (fun l : List Str => l.map V.str) vs3 ((longRows zs i).take j)) ?_ (fun _ _ _ _ => trivial) ?_ ?_
        · exact ⟨[], same_upd nD, upd_same, .nil⟩
        · rintro j x H7 H8 hj ⟨vs3, e7, hD7, at7⟩ ⟨rfl, rfl⟩
          refine ⟨rfl, yes2 ?_⟩
          have ecut : cutV (zs.map V.str) (some (0 + (j : Int))) (some (0 + (j : Int) + (1 + (i : Int)))) = ((zs.drop j).take (i + 1)).map V.str := by
            rw [show 0 + (j : Int) = ((j : Nat) : Int) by omega, show (j : Int) + (1 + (i : Int)) = ((j + (i + 1) : Nat) : Int) by omega, cut_mid _ _ _ (by omega) (by rw [List.length_map]; omega), List.map_take, List.map_drop]
            congr 1
            omega
          refine ⟨_, rfl, _, rfl, _, rfl, _, rfl, _, rfl, _, _, rfl, rfl, _, rfl, a, _, rfl, SqL.of (e7 _ _ hS2), fun p np => ?_⟩
          rw [ecut]
          have ep := same_upd (o := HO.lst (((zs.drop j).take (i + 1)).map V.str)) np
          refine .inl ⟨p, _, rfl, SqL.of upd_same, fun t nt => ?_⟩
          have et := same_upd (o := HO.tup (((zs.drop j).take (i + 1)).map V.str)) nt
          have hDt := et _ _ (ep _ _ hD7)
          have lenv : vs3.length ≤ 12 := by
            rw [at7.1, List.length_take, longRows_len]
            omega
          refine ⟨vs3, hDt, Evl.sz_lt (by omega), vs3 ++ [.ref t], Same.grow (Same.trans e7 (Same.trans ep et)) nD, upd_same, ?_⟩
          refine Ats.updL ?_ hDt
          rw [take_succ (longRows_at hj)]
          refine ((at7.same ep).same et).append (Ats.one ?_)
          rw [upd_same]
        · rintro H7 ⟨vs3, e7, hD7, at7⟩
          rw [List.take_of_length_le (by rw [longRows_len]; omega)] at at7
          refine ext D vs3 H7 e7 (ne_of_none hl2 nD).symm hD7 ?_ at7
          rw [at7.1, longRows_len]
          omega
      | false =>
        have hl5 : zs.length ≤ 5 := hl
        refine ⟨_, rfl, _, rfl, ?_⟩
        refine iteF ?_
        refine ⟨_, rfl, .inl ⟨rfl, _, SqL.of hl2⟩, ?_⟩
        refine ⟨_, rfl, _, rfl, .ref a, zs.length, rfl, .inl ⟨_, SqL.of hS2, by rw [List.length_map]⟩, i + 1, zs.length, ?_, by show i + 1 ≤ 5; omega, by omega, hl5, fun b us H3 nb e3 hb at3 => ?_⟩
        · show [V.int (1 + (i : Int)), V.int (zs.length : Int)] = [V.int ((i + 1 : Nat) : Int), V.int (zs.length : Int)]
          rw [show ((i + 1 : Nat) : Int) = 1 + (i : Int) by omega]
        have hok := bRows_ok (n := zs.length) (i + 1)
        have hlr := bRows_len hl5 (i + 1)
        have hpow : 5 ^ (i + 1) ≤ 5 ^ 5 := Nat.pow_le_pow_right (by decide) (by omega)
        refine ⟨b, rfl, ⟨_, SqL.of hb⟩, fun D nD => ?_⟩
        refine lc_it (walk_list (xs := us)) (fun j H' => ∃ vs2, Same H3 H' ∧ H' D = some (.lst vs2) ∧ Ats H' (fun l : List Str => l.map V.str) vs2 (((bRows zs.length (i + 1)).map (pickAt zs)).take j)) ?_ (fun j H' _ ⟨_, e5, _⟩ => SqL.of (e5 _ _ hb)) ?_ ?_
        · exact ⟨[], same_upd nD, upd_same, .nil⟩
        · rintro j x H5 H6 hj ⟨vs2, e5, hD, at5⟩ ⟨rfl, hx⟩
          have hir : j < (bRows zs.length (i + 1)).length := by rw [← at3.1]; exact hj
          obtain ⟨row, hrow⟩ : ∃ row, (bRows zs.length (i + 1))[j]? = some row := ⟨_, List.getElem?_eq_getElem hir⟩
          obtain ⟨b', rfl, hb'⟩ := at3.2 j x row hx hrow
          have o := hok row (List.mem_of_getElem? hrow)
          refine ⟨rfl, yes2 ?_⟩
          refine ⟨_, rfl, b', rfl, ⟨_, SqT.of (e5 _ _ hb')⟩, fun D2 nD2 => ?_⟩
          refine lc_it (walk_tup (xs := rowV row)) (Upto H6 D2 row fun k => V.str (zs.getD k Str.empty)) (.zero nD2) (fun j H' _ u => SqT.of (u.sm _ _ (e5 _ _ hb'))) ?_ ?_
          · rintro j x H7 H8 hj u ⟨rfl, hx2⟩
            unfold rowV at hx2
            rw [List.getElem?_map] at hx2
            obtain ⟨k, hk, rfl⟩ := Option.map_eq_some_iff.mp hx2
            have hkn : k < zs.length := o.lt k (List.mem_of_getElem? hk)
            refine ⟨rfl, yes2 ?_⟩
            refine ⟨_, rfl, _, rfl, a, zs.map V.str, (k : Int), _, rfl, rfl, SqL.of ((Same.trans e3 (Same.trans e5 u.sm)) _ _ hS2), atI_nat ?_, u.next nD2 hk (Same.refl _) ?_⟩
            · rw [List.getElem?_map, List.getElem?_eq_getElem hkn, List.getD_eq_getElem?_getD, List.getElem?_eq_getElem hkn]
              rfl
            · have := o.len
              omega
          · intro H7 u
            have eD2 := u.all (rowV_len row)
            refine .inl ⟨D2, _, rfl, SqL.of eD2, fun p np => ?_⟩
            have ep := same_upd (o := HO.tup (row.map fun k => V.str (zs.getD k Str.empty))) np
            have hD7 := ep _ _ (u.sm _ _ hD)
            have hlot : ((bRows zs.length (i + 1)).map (pickAt zs))[j]? = some (row.map fun k => zs.getD k Str.empty) := by
              rw [List.getElem?_map, hrow]
              rfl
            refine ⟨vs2, hD7, Evl.sz_lt ?_, vs2 ++ [.ref p], Same.grow (Same.trans e5 (Same.trans u.sm ep)) nD, upd_same, ?_⟩
            · rw [at5.1, List.length_take, List.length_map]
              omega
            · refine Ats.updL ?_ hD7
              rw [take_succ hlot]
              refine ((at5.same u.sm).same ep).append (Ats.one ?_)
              rw [upd_same, List.map_map]
              rfl
        · rintro H5 ⟨vs2, e5, hD, at5⟩
          rw [List.take_of_length_le (by rw [List.length_map, at3.1]; exact Nat.le_refl _)] at at5
          have e35 := Same.trans e3 e5
          refine ext D vs2 H5 e35 ?_ hD ?_ at5
          · exact (ne_of_none (e3 _ _ hl2) nD).symm
          · rw [at5.1, List.length_map]
            omega
    · rintro σ' H1 ⟨v3, ws, rfl, bt, hl2, lw, at2⟩
      rw [lawLots_all] at at2
      exact ⟨_, rfl, q l ws H1 nl (fun b u e => bt _ _ (ne_of_none e nl) (e0 _ _ e)) hl2 at2⟩
end
end Bk

namespace Bk
open PySem PySem.Spec PyProof.Rows L2
def signsZ : Str := Str.ofString "zyxwvutsrqponmlkjihg"
def spareNames : List Str := signsZ.cps.toList.map fun c => Str.ofString "z" ++ sg c
theorem spare_nodup : spareNames.Nodup := by decide +kernel
theorem spare_len : spareNames.length = 20 := by decide +kernel
theorem spare_names : ∀ z ∈ spareNames, isNameS z = true := by decide +kernel
theorem fresh_spare (found : List Str) (hf : found.length < 20) : ∃ y r, spareNames.filter (fun x => decide (¬ x ∈ found)) = y :: r ∧ isNameS y = true ∧ y ∉ found := by
  cases e : spareNames.filter (fun x => decide (¬ x ∈ found)) with
  | nil =>
    have h : ∀ x ∈ spareNames, x ∈ found := by
      intro x hx
      by_cases h : x ∈ found
      · exact h
      · have : x ∈ spareNames.filter (fun x => decide (¬ x ∈ found)) := List.mem_filter.mpr ⟨hx, decide_eq_true h⟩
        rw [e] at this
        cases this
    have := pigeon spareNames found spare_nodup h
    rw [spare_len] at this
    omega
  | cons y r =>
    have hy : y ∈ spareNames.filter (fun x => decide (¬ x ∈ found)) := by rw [e]; exact List.mem_cons_self
    obtain ⟨h1, h2⟩ := List.mem_filter.mp hy
    exact ⟨y, r, rfl, spare_names y h1, of_decide_eq_true h2⟩
def spSpare (K : PySem.W.Frag) : Sp := fun vs H Q _ => ∃ (a : Addr) (zs : List Str), vs = [.ref a] ∧ (SqL K H a (zs.map V.str) ∨ SqT K H a (zs.map V.str)) ∧ zs.length < 20 ∧ ∀ (z : Str) (H' : Hp), Same H H' → isNameS z = true → z ∉ zs → Q (.str z) H'
section
variable {P : Program} {w : World} {K : PySem.W.Frag} {mg : Str → Option Value} {base : Heap}
theorem scSpare : FnScope ["_law_names_here", "_law_x", "_law_sign"] ["_law_names_here"] (defScope (topS 23)) := ⟨rfl, rfl, rfl, by decide +kernel, rfl, by decide +kernel, by decide +kernel⟩
theorem ok_spare (B : Bi mg) {f : Addr} {fd : FuncData} (F : Fun K "_law_spare" "_law_spare" (topS 23) f fd) : FnOk P w K mg base CX0 1 f fd ["_law_names_here"] (spSpare K) := by
  refine F.ok scSpare (fun vs H Q E h => ?_) (fun cdv A outer s H vs Q E hr h => ?_)
  · obtain ⟨a, zs, rfl, _⟩ := h
    rfl
  · obtain ⟨a, zs, rfl, hS, hl, q⟩ := h
    have nd := scSpare.nd
    have hu := hu_of hr
    refine ⟨_, (pss_one (ps_ret (pe_ix (kIxL K) (pe_lc (own := [("_law_x", 1)]) rfl nd (kPiL K (pe_lc (own := [("_law_sign", 2)]) rfl nd (pi_str pe_str) (blkOk_by (N := ["_law_names_here", "_law_x", "_law_sign"]) (sc := defScope (topS 23)) (by decide +kernel)) (fun _ _ _ _ _ => (pg_name (i := 2) nd rfl (Or.inl rfl))) (fun _ _ _ _ _ => pts_nil) (fun _ _ _ _ _ => (pe_op op_add_str pe_str (pv 2))))) (blkOk_by (N := ["_law_names_here", "_law_x", "_law_sign"]) (sc := defScope (topS 23)) (by decide +kernel)) (fun _ _ _ _ _ => (pg_name (i := 1) nd rfl (Or.inl rfl))) (fun _ _ _ _ _ => (pts_one (pt_cmpR (kNotIn K) (pv 1) (pv 0) rfl))) (fun _ _ _ _ _ => (pv 1))) pe_int (fun _ _ => rfl)))), ?_⟩
    obtain ⟨y, r, ey, hy, hny⟩ := fresh_spare zs hl
    refine ⟨_, rfl, fun D nD => lc_it walk_str (Upto H D signsZ.cps.toList fun ch => V.str (Str.ofString "z" ++ sg ch)) (.zero nD) (fun _ _ _ _ => trivial) ?_ ?_⟩
    · rintro j x H5 H6 hj u ⟨rfl, ch, hc, rfl⟩
      refine ⟨rfl, yes2 ?_⟩
      have hc' : signsZ.cps.toList[j]? = some ch := by rw [← hc]; simp [signsZ]
      exact ⟨_, rfl, _, _, rfl, rfl, (by show 2 ≤ sizeLine; decide), u.next nD hc' (Same.refl _) (by decide)⟩
    · intro H5 u
      have eD := u.all (by simp [signsZ])
      have eD : H5 D = some (.lst (spareNames.map V.str)) := by
        rw [eD]
        unfold spareNames
        rw [List.map_map]
        rfl
      have e5 := u.sm
      have hS5 : SqL K H5 a (zs.map V.str) ∨ SqT K H5 a (zs.map V.str) := hS.imp (fun z => Same.seq e5 z) fun z => Same.sqt e5 z
      refine ⟨D, rfl, ⟨_, SqL.of eD⟩, fun D2 nD2 => lc_it (walk_list (xs := spareNames.map V.str)) (UptoF H5 D2 spareNames V.str fun x => decide (¬ x ∈ zs)) (.zero nD2) (fun j H4 _ u => SqL.of (u.sm _ _ eD)) ?_ ?_⟩
      · rintro j x H6 H7 hj u ⟨rfl, hx⟩
        rw [List.getElem?_map] at hx
        obtain ⟨y0, hy0, rfl⟩ := Option.map_eq_some_iff.mp hx
        refine ⟨rfl, ?_⟩
        refine ⟨_, rfl, _, rfl, a, _, rfl, hS5.imp (fun z => Same.seq u.sm z) (fun z => Same.sqt u.sm z), rfl, flat_strs _, _, rfl, ?_⟩
        rw [inV_strs]
        by_cases hm : y0 ∈ zs
        · rw [decide_eq_true hm]
          refine iteF ?_
          exact u.no hy0 (by simp [hm]) (Same.refl _)
        · rw [decide_eq_false hm]
          refine iteT ?_
          exact ⟨_, rfl, u.yes nD2 hy0 (by simp [hm]) (Same.refl _) (by rw [spare_len]; decide)⟩
      · intro H6 u
        have eD2 := u.all (by rw [List.length_map])
        rw [ey] at eD2
        exact ⟨D2, _, 0, V.str y, rfl, rfl, SqL.of eD2, atI_nat (j := 0) rfl, q y H6 (Same.trans e5 u.sm) hy hny⟩
end
end Bk

namespace Bk
open PySem PySem.Spec PyProof.Rows L2
def spFLen (C : Addr) : Sp := fun vs H Q _ => ∃ (x : Addr) (zs : List Str) (ch : Bool), vs = [.ref x] ∧ FoldersAt C H x zs ch ∧ zs.length ≤ 100 ∧ Q (.int (zs.length : Int)) H
def spFEq (K : PySem.W.Frag) (C : Addr) : Sp := fun vs H Q _ => ∃ (x : Addr) (y : V) (t : Value) (zs : List Str) (ch r : Bool), vs = [.ref x, y] ∧ FoldersAt C H x zs ch ∧ (∀ z ∈ zs, isNameS z = true) ∧ TyX K H y t ∧
  ((PySem.W.kitOne K t (.ref C) = some false ∧ r = false) ∨ (PySem.W.kitOne K t (.ref C) = some true ∧ ∃ (b : Addr) (zs' : List Str) (ch' : Bool), y = .ref b ∧ FoldersAt C H b zs' ch' ∧ (∀ z ∈ zs', isNameS z = true) ∧ r = (decide (zs = zs') && decide (ch = ch')))) ∧ ∀ H', Same H H' → Q (.bl r) H'
theorem name_ok {z : Str} (h : isNameS z = true) : PyData.strOk z = true := by
  unfold isNameS at h
  simp only [Bool.and_eq_true] at h
  unfold PyData.strOk
  rw [← Array.all_toList]
  refine List.all_eq_true.mpr fun c m => ?_
  have := (letters_mem c).mp (of_decide_eq_true (List.all_eq_true.mp h.2 c m))
  exact decide_eq_true (by omega)
theorem look_chain (t pd : Addr) (ch : Bool) : (foldersF t pd ch).lookup ("chain" : Str) = some (.bl ch) := by
  have h : (("chain" : Str) == ("names" : Str)) = false := by decide +kernel
  show List.lookup ("chain" : Str) [(("names" : Str), V.ref t), ("chain", .bl ch), ("places", .ref pd)] = _
  simp [List.lookup, h]
theorem look_places (t pd : Addr) (ch : Bool) : (foldersF t pd ch).lookup ("places" : Str) = some (.ref pd) := by
  have h : (("places" : Str) == ("names" : Str)) = false := by decide +kernel
  have h2 : (("places" : Str) == ("chain" : Str)) = false := by decide +kernel
  show List.lookup ("places" : Str) [(("names" : Str), V.ref t), ("chain", .bl ch), ("places", .ref pd)] = _
  simp [List.lookup, h, h2]
theorem lay_strs : ∀ zs : List Str, (∀ z ∈ zs, isNameS z = true) → PyData.canLayAll0 (zs.map PyData.str) = true
  | [], _ => by simp [PyData.canLayAll0]
  | x :: r, h => by
    have := lay_strs r fun z m => h z (List.mem_cons_of_mem _ m)
    simp [PyData.canLayAll0, PyData.canLay0, this, name_ok (h x List.mem_cons_self)]
theorem shaped_strs (zs : List Str) (h : ∀ z ∈ zs, isNameS z = true) : SeqAt.shaped (.tuple (zs.map PyData.str)) = true := by
  have h1 := lay_strs zs h
  have h2 := depth_strs zs
  simp [SeqAt.shaped, PyData.canLay0, PyData.depth, h1, h2]
theorem eqvAll_strs : ∀ a b : List Str, PyData.eqvAll (a.map PyData.str) (b.map PyData.str) = decide (a = b)
  | [], [] => by simp [PyData.eqvAll]
  | [], _ :: _ => by simp [PyData.eqvAll]
  | _ :: _, [] => by simp [PyData.eqvAll]
  | x :: r, y :: t => by
    have ih := eqvAll_strs r t
    simp only [List.map_cons, PyData.eqvAll, PyData.eqv, ih]
    by_cases h1 : x = y
    · subst h1
      by_cases h2 : r = t
      · subst h2
        simp
      · simp [h2]
    · simp [h1]
theorem eqv_strs (a b : List Str) : PyData.eqv (.tuple (a.map PyData.str)) (.tuple (b.map PyData.str)) = decide (a = b) := by
  simp [PyData.eqv, eqvAll_strs]
section
variable {P : Program} {w : World} {K : PySem.W.Frag} {mg : Str → Option Value} {base : Heap}
theorem scFLen : FnScope ["self"] ["self"] (defScope (inClass (topS 11) 1)) := ⟨rfl, rfl, rfl, by decide +kernel, rfl, by decide +kernel, by decide +kernel⟩
theorem ok_flen (B : Bi mg) {C f0 f : Addr} {fd : FuncData} (T : FolT K mg C f0) (F : Fun K "__len__" "Folders.__len__" (inClass (topS 11) 1) f fd) : FnOk P w K mg base CX0 1 f fd ["self"] (spFLen C) := by
  refine F.ok scFLen (fun vs H Q E h => ?_) (fun cdv A outer s H vs Q E hr h => ?_)
  · obtain ⟨x, zs, ch, rfl, _⟩ := h
    rfl
  · obtain ⟨x, zs, ch, rfl, ⟨dx, t, pd, hx, ht, hp⟩, hl, q⟩ := h
    have nd := scFLen.nd
    refine ⟨_, (pss_one (ps_ret (pe_callB (kLen K) (by rfl) B.len PySem.boot_len (pa_cons (pe_fld (pv 0) rfl) pa_nil)))), ?_⟩
    exact ⟨_, rfl, x, C, dx, _, _, rfl, hx, T.cl, T.nN, look_names _ _ _, .ref t, zs.length, rfl, .inr ⟨_, SqT.of ht, by rw [List.length_map]⟩, q⟩
theorem scFEq : FnScope ["self", "other"] ["self", "other"] (defScope (inClass (topS 11) 3)) := ⟨rfl, rfl, rfl, by decide +kernel, rfl, by decide +kernel, by decide +kernel⟩
theorem ok_feq (B : Bi mg) {C_Folders f0 f : Addr} {fd : FuncData} (T : FolT K mg C_Folders f0) (F : Fun K "__eq__" "Folders.__eq__" (inClass (topS 11) 3) f fd) : FnOk P w K mg base CX0 1 f fd ["self", "other"] (spFEq K C_Folders) := by
  refine F.ok scFEq (fun vs H Q E h => ?_) (fun cdv A outer s H vs Q E hr h => ?_)
  · obtain ⟨x, y, t, zs, ch, r, rfl, _⟩ := h
    rfl
  · obtain ⟨x, y, ty, zs, ch, r, rfl, ⟨dx, t, pd, hx, ht, hp⟩, hl, tyx, hcase, q⟩ := h
    have nd := scFEq.nd
    have g_Folders := T.g
    refine ⟨_, (pss_one (ps_ret (pe_and (pe_callB (kIsi K) (by rfl) B.isinstance (by decide +kernel) (pa_cons (pv 1) (pa_cons (pe_glob (v := .ref _) (by rfl) g_Folders rfl) pa_nil))) (pe_and (pe_cmpR (kEqD K hr.units) (pe_fld (pv 0) rfl) (pe_fld (pv 1) rfl) (nomark _)) (pe_one (pe_cmpR op_eq (pe_fld (pv 0) rfl) (pe_fld (pv 1) rfl) (nomark _))))))), ?_⟩
    rcases hcase with ⟨hk, rfl⟩ | ⟨hk, b, zs', ch', rfl, ⟨dx', t', pd', hx', ht', hp'⟩, hl', rfl⟩
    · refine ⟨_, rfl, y, .ref C_Folders, ty, .ref C_Folders, false, rfl, .own _, tyx, hk, _, rfl, ?_⟩
      refine iteF ?_
      exact q H (Same.refl _)
    · refine ⟨_, rfl, .ref b, .ref C_Folders, ty, .ref C_Folders, true, rfl, .own _, tyx, hk, _, rfl, ?_⟩
      refine iteT ?_
      refine ⟨_, rfl, x, C_Folders, dx, _, _, rfl, hx, T.cl, T.nN, look_names _ _ _, _, rfl, b, C_Folders, dx', _, _, rfl, hx', T.cl, T.nN, look_names _ _ _, ?_⟩
      refine ⟨.tuple (zs.map PyData.str), .tuple (zs'.map PyData.str), .tup (SqT.of ht) (dp_strs zs), .tup (SqT.of ht') (dp_strs zs'), shaped_strs zs hl, shaped_strs zs' hl', _, rfl, ?_⟩
      rw [eqv_strs]
      by_cases e : zs = zs'
      · rw [decide_eq_true e]
        refine iteT ?_
        refine ⟨_, rfl, x, C_Folders, dx, _, _, rfl, hx, T.cl, T.nC, look_chain _ _ _, _, rfl, b, C_Folders, dx', _, _, rfl, hx', T.cl, T.nC, look_chain _ _ _, ?_⟩
        refine ⟨rfl, ?_⟩
        have := q H (Same.refl _)
        rw [decide_eq_true e, Bool.true_and] at this
        rw [show decide (V.bl ch = V.bl ch') = decide (ch = ch') by cases ch <;> cases ch' <;> rfl]
        exact this
      · rw [decide_eq_false e]
        refine iteF ?_
        have := q H (Same.refl _)
        rw [decide_eq_false e, Bool.false_and] at this
        exact this
end
end Bk

namespace Bk
open PySem PySem.Spec PyProof.Rows L2
def spFLots (C : Addr) : Sp := fun vs H Q _ => ∃ (x : Addr) (zs : List Str) (ch : Bool), vs = [.ref x] ∧ FoldersAt C H x zs ch ∧ zs.Nodup ∧ ∀ (D : Addr) (ws : List V) (H' : Hp), H D = none → Same H H' → H' D = some (.lst ws) → Ats H' (fun l : List Str => l.map V.str) ws (lotsFor ch zs) → Q (.ref D) H'
def spFIn (C : Addr) : Sp := fun vs H Q _ => ∃ (x : Addr) (y : V) (zs : List Str) (ch : Bool), vs = [.ref x, y] ∧ FoldersAt C H x zs ch ∧ flatV y = true ∧ ∀ H', Same H H' → Q (.bl (inV y (zs.map V.str))) H'
section
variable {P : Program} {w : World} {K : PySem.W.Frag} {mg : Str → Option Value} {base : Heap}
theorem scFLots : FnScope ["self"] ["self"] (defScope (inClass (topS 11) 4)) := ⟨rfl, rfl, rfl, by decide +kernel, rfl, by decide +kernel, by decide +kernel⟩
theorem ok_flots (B : Bi mg) {C f0 f : Addr} {fd : FuncData} (T : FolT K mg C f0) (F : Fun K "lots" "Folders.lots" (inClass (topS 11) 4) f fd) : FnOk P w K mg base CX0 1 f fd ["self"] (spFLots C) := by
  refine F.ok scFLots (fun vs H Q E h => ?_) (fun cdv A outer s H vs Q E hr h => ?_)
  · obtain ⟨x, zs, ch, rfl, _⟩ := h
    rfl
  · obtain ⟨x, zs, ch, rfl, ⟨dx, t, pd, hx, ht, hp⟩, hn, q⟩ := h
    have nd := scFLots.nd
    refine ⟨_, (pss_one (ps_ret (pe_callTy (call_list_dT rfl) (by rfl) B.list (by decide +kernel) (pa_cons (pe_fld (pv 0) rfl) pa_nil)))), ?_⟩
    refine ⟨_, rfl, x, C, dx, _, _, rfl, hx, T.cl, T.nP, look_places _ _ _, pd, _, rfl, .inl hp, fun D bs nD hk => ?_⟩
    have e := same_upd (o := HO.lst (bs.map V.ref)) nD
    exact q D _ _ nD e upd_same ((places_ats hn hk).same e)
theorem scFIn : FnScope ["self", "x"] ["self", "x"] (defScope (inClass (topS 11) 2)) := ⟨rfl, rfl, rfl, by decide +kernel, rfl, by decide +kernel, by decide +kernel⟩
theorem ok_fin (B : Bi mg) {C f0 f : Addr} {fd : FuncData} (T : FolT K mg C f0) (F : Fun K "__contains__" "Folders.__contains__" (inClass (topS 11) 2) f fd) : FnOk P w K mg base CX0 1 f fd ["self", "x"] (spFIn C) := by
  refine F.ok scFIn (fun vs H Q E h => ?_) (fun cdv A outer s H vs Q E hr h => ?_)
  · obtain ⟨x, y, zs, ch, rfl, _⟩ := h
    rfl
  · obtain ⟨x, y, zs, ch, rfl, ⟨dx, t, pd, hx, ht, hp⟩, hf, q⟩ := h
    have nd := scFIn.nd
    refine ⟨_, (pss_one (ps_ret (pe_cmpR (kIn K) (pv 1) (pe_fld (pv 0) rfl) rfl))), ?_⟩
    exact ⟨_, rfl, _, rfl, x, C, dx, _, _, rfl, hx, T.cl, T.nN, look_names _ _ _, t, _, rfl, .inr (SqT.of ht), hf, flat_strs _, q H (Same.refl _)⟩
end
end Bk

namespace Bk
open PySem PySem.Spec PyProof.Rows L2
def spFInA (C : Addr) : Sp := fun vs H Q _ => ∃ (x : Addr) (y : V) (zs : List Str) (ch r : Bool), vs = [.ref x, y] ∧ FoldersAt C H x zs ch ∧
  ((flatV y = true ∧ r = inV y (zs.map V.str)) ∨ (Box H y ∧ r = false) ∨ (∃ (b : Addr) (zs' : List Str) (ch' : Bool), y = .ref b ∧ FoldersAt C H b zs' ch' ∧ (∀ z ∈ zs', isNameS z = true) ∧ r = false)) ∧ ∀ H', Same H H' → Q (.bl r) H'
section
variable {P : Program} {w : World} {K : PySem.W.Frag} {mg : Str → Option Value} {base : Heap}
theorem OpR.or3 {X : Cx} {f : Value → Value → Sem Value} {r1 r2 r3 : R2} (h1 : OpR X f r1) (h2 : OpR X f r2) (h3 : OpR X f r3) : OpR X f (fun x y H Q => r1 x y H Q ∨ r2 x y H Q ∨ r3 x y H Q) := by
  intro pins s σ H x y v u Q I rx ry h
  rcases h with h | h | h
  · exact h1 pins s σ H x y v u Q I rx ry h
  · exact h2 pins s σ H x y v u Q I rx ry h
  · exact h3 pins s σ H x y v u Q I rx ry h
theorem ok_finA (B : Bi mg) {C f0 fE f : Addr} {fdE fd : FuncData} (T : FolT K mg C f0) (GE : FnOk P w K mg base CX0 1 fE fdE ["self", "other"] (spFEq K C)) (bE : Binds K fdE ["self", "other"] []) (mE : Own K C "__eq__" fE) (nS : PySem.W.subIn K (.ref C) (.type "str") = some false)
    (kS : PySem.W.kitOne K (.type "str") (.ref C) = some false) (F : Fun K "__contains__" "Folders.__contains__" (inClass (topS 11) 2) f fd) : FnOk P w K mg base CX0 3 f fd ["self", "x"] (spFInA C) := by
  refine F.ok scFIn (fun vs H Q E h => ?_) (fun cdv A outer s H vs Q E hr h => ?_)
  · obtain ⟨x, y, zs, ch, r, rfl, _⟩ := h
    rfl
  · obtain ⟨x, y, zs, ch, r, rfl, ⟨dx, t, pd, hx, ht, hp⟩, hc, q⟩ := h
    have nd := scFIn.nd
    have hu := hu_of hr
    refine ⟨_, (pss_one (ps_ret (pe_cmpR (OpR.or3 (kIn K) (op_inBox hu) (op_inOdd GE bE pass0 hr mE)) (pv 1) (pe_fld (pv 0) rfl) rfl))), ?_⟩
    refine ⟨_, rfl, _, rfl, x, C, dx, _, _, rfl, hx, T.cl, T.nN, look_names _ _ _, ?_⟩
    rcases hc with ⟨hf, rfl⟩ | ⟨bx, rfl⟩ | ⟨b, zs', ch', rfl, FA, hn, rfl⟩
    · exact .inl ⟨t, _, rfl, .inr (SqT.of ht), hf, flat_strs _, q H (Same.refl _)⟩
    · exact .inr (.inl ⟨t, zs, rfl, ht, bx, q H (Same.refl _)⟩)
    · have FA0 := FA
      obtain ⟨dx', t', pd', hx', _, _⟩ := FA0
      exact .inr (.inr ⟨b, dx', t, _, zs, rfl, rfl, hx', ht, nS, fun z _ H' e => ⟨b, .str z, .type "str", zs', ch', false, rfl, FA.same e, hn, .base (.str z), .inl ⟨kS, rfl⟩, fun H'' e' => ⟨false, rfl, false, rfl, rfl, Same.trans e e'⟩⟩, fun H' e => q H' e⟩)
end
end Bk

namespace Bk
open PySem PySem.Spec PyProof.Rows L2
theorem map_str_inj : ∀ {a b : List Str}, a.map V.str = b.map V.str → a = b
  | [], [], _ => rfl
  | [], _ :: _, h => nomatch h
  | _ :: _, [], h => nomatch h
  | x :: r, y :: t, h => by
    injection h with h1 h2
    injection h1 with h1
    rw [h1, map_str_inj h2]
def spLaw (K : PySem.W.Frag) : Sp := fun vs H Q _ => ∃ (a : Addr) (ns : List Int), vs = [.ref a] ∧ SqL K H a (ns.map V.int) ∧ ∀ H', Q (.bl true) H'
section
variable {P : Program} {w : World} {K : PySem.W.Frag} {mg : Str → Option Value} {base : Heap}
theorem scLaw : FnScope ["_law_script", "_law_stream", "_law_turn", "_law_is_chain", "_law_names_here", "_law_handed", "_law_house", "_law_lots", "_law_again", "_law_found", "_law_odd", "_law_name_here", "_law_twin", "_law_others", "_law_x"] ["_law_script"] (defScope (topS 26)) := ⟨rfl, rfl, rfl, by decide +kernel, rfl, by decide +kernel, by decide +kernel⟩
theorem ok_law (B : Bi mg) {C CB fF fE fL fI fT f f1 f2 f3 f4 f5 f6 f7 : Addr} {fdF fdE fdL fdI fdT fd fd1 fd2 fd3 fd4 fd5 fd6 fd7 : FuncData} {ds : List Value} {gk : List Value → List Value → List Value} (T : FolT K mg C fF) (GF : FnOk P w K mg base (L2.CX P w) 3 fF fdF ["self", "names", "chain"] (spFolders K C CB))
    (bF : Binds K fdF ["self", "names", "chain"] ds) (dF : Vals [V.bl false] ds) (bK : KBn K fdF ["self", "names", "chain"] 2 ["chain"] gk (fun vs zs => vs ++ zs))
    (GE : FnOk P w K mg base CX0 1 fE fdE ["self", "other"] (spFEq K C)) (bE : Binds K fdE ["self", "other"] []) (mE : Own K C "__eq__" fE) (cE : eqCls K C fE = true)
    (GLen : FnOk P w K mg base CX0 1 fL fdL ["self"] (spFLen C)) (bLen : Binds K fdL ["self"] []) (mLen : Own K C "__len__" fL)
    (GIn : FnOk P w K mg base CX0 3 fI fdI ["self", "x"] (spFInA C)) (bIn : Binds K fdI ["self", "x"] []) (mIn : Own K C "__contains__" fI)
    (GLots : FnOk P w K mg base CX0 1 fT fdT ["self"] (spFLots C)) (bLots : Binds K fdT ["self"] []) (mLots : Meth K C "lots" fT)
    (kT : PySem.W.kitOne K (.ref C) (.ref C) = some true) (kB : ∀ T ∈ ["NoneType", "int", "str", "list", "tuple"], PySem.W.kitOne K (.type T) (.ref C) = some false) (sB : ∀ T ∈ ["NoneType", "int", "str", "list", "tuple"], PySem.W.subIn K (.ref C) (.type T) = some false)
    (nB : ∀ T ∈ ["NoneType", "int", "str", "list", "tuple"], PySem.W.notFirst K C (.type T) = true) (nC : PySem.W.notFirst K C (.ref C) = true) (tF : ∀ (H : Hp) (x dx : Addr) (fs : List (Str × V)), H x = some (.ins C dx fs) → TyX K H (.ref x) (.ref C))
    (c__law_start : Cal P w K mg base CX0 1 "_law_start" f1 fd1 ["_law_script"] (spStart K)) (c__law_draw : Cal P w K mg base CX0 1 "_law_draw" f2 fd2 ["_law_stream", "_law_many"] spDraw) (c__law_pick : Cal P w K mg base CX0 2 "_law_pick" f3 fd3 ["_law_stream", "_law_some"] (spPick K))
    (c__law_names : Cal P w K mg base CX0 4 "_law_names" f4 fd4 ["_law_stream", "_law_many"] (spNames K)) (c__law_b_lots : Cal P w K mg base CX0 8 "_law_b_lots" f5 fd5 ["_law_names_here", "_law_is_chain"] (spBlots K)) (c__law_spare : Cal P w K mg base CX0 1 "_law_spare" f6 fd6 ["_law_names_here"] (spSpare K))
    (c__law_same : Cal P w K mg base CX0 5 "_law_same" f7 fd7 ["_law_found", "_law_due"] (spSame K 4))
    (F : Fun K "law" "law" (topS 26) f fd) : FnOk P w K mg base CX0 9 f fd ["_law_script"] (spLaw K) := by
  refine F.ok scLaw (fun vs H Q E h => ?_) (fun cdv A outer s H vs Q E hr h => ?_)
  · obtain ⟨a, ns, rfl, _⟩ := h
    rfl
  · obtain ⟨a, ns, rfl, hS, q⟩ := h
    have nd := scLaw.nd
    have hu := hu_of hr
    have hr__law_b_lots := hr
    have hr__law_same : Room 5 _ := hr.mono (by decide)
    have hr__law_names : Room 4 _ := hr.mono (by decide)
    have hrF := hr__law_names
    have hrI : Room 3 _ := hr.mono (by decide)
    have hr__law_pick : Room 2 _ := hr.mono (by decide)
    have hrN := hr__law_pick
    have hr__law_start : Room 1 _ := hr.mono (by decide)
    have hr__law_draw := hr__law_start
    have hr__law_spare := hr__law_start
    have hrE := hr__law_start
    refine ⟨_, (Evl.pss_cut (ps_set (i := 1) nd rfl (Or.inl rfl) (pe_call c__law_start.ok hr__law_start (by rfl) c__law_start.g c__law_start.kp c__law_start.b .nil pass0 (pa_cons (pv 0) pa_nil)))
      (pss_cons (ps_for PassesOwn.never rfl (pi_range1 (by rfl) B.range (pa_cons pe_int pa_nil)) (pg_name (i := 2) nd rfl (Or.inl rfl)) (Evl.pss_cut (ps_set (i := 3) nd rfl (Or.inl rfl) (pe_cmpR op_eq (pe_call c__law_draw.ok hr__law_draw (by rfl) c__law_draw.g c__law_draw.kp c__law_draw.b .nil pass0 (pa_cons (pv 1) (pa_cons pe_int pa_nil))) pe_int (nomark _)))
      (Evl.pss_cut (ps_set (i := 4) nd rfl (Or.inl rfl) (pe_call c__law_names.ok hr__law_names (by rfl) c__law_names.g c__law_names.kp c__law_names.b .nil pass0 (pa_cons (pv 1) (pa_cons (pe_op op_add pe_int (pe_call c__law_draw.ok hr__law_draw (by rfl) c__law_draw.g c__law_draw.kp c__law_draw.b .nil pass0 (pa_cons (pv 1) (pa_cons (pe_ifExp (pt_val (pv 3)) pe_int pe_int) pa_nil)))) pa_nil))))
      (Evl.pss_cut (ps_set (i := 5) nd rfl (Or.inl rfl) (pe_call c__law_pick.ok hr__law_pick (by rfl) c__law_pick.g c__law_pick.kp c__law_pick.b .nil pass0 (pa_cons (pv 1) (pa_cons (pe_lst (pa_cons (pe_callTy (kList K) (by rfl) B.list (by decide +kernel) (pa_cons (pv 4) pa_nil)) (pa_cons (kTupleOf K (by rfl) B.tuple (pv 4)) pa_nil))) pa_nil))))
      (Evl.pss_cut (ps_set (i := 6) nd rfl (Or.inr rfl) (pe_makeK T.make GF hrF (by rfl) T.g bK passL (pa_cons (pv 5) pa_nil) (pk_cons (pv 3) pk_nil)))
      (Evl.pss_cut (ps_if (pt_val (pe_callB (kIsi K) (by rfl) B.isinstance (by decide +kernel) (pa_cons (pv 5) (pa_cons (pe_bltn (v := .ty "list") (by rfl) B.list (by decide +kernel) rfl) pa_nil)))) (pss_one (ps_expr (pe_bm PySem.F.plainAttrs_list PySem.F.slot_list_append PySem.F.type_list_append mt_append (pv 5) (pa_cons pe_str pa_nil)))) pss_nil)
      (Evl.pss_cut (ps_if (pt_not (pt_val (pe_call c__law_same.ok hr__law_same (by rfl) c__law_same.g c__law_same.kp c__law_same.b .nil pass0 (pa_cons (pe_lst (pa_cons (pe_fld (pv 6) rfl) (pa_cons (pe_fld (pv 6) rfl) (pa_cons (pe_callB (call_lenOwn GLen bLen pass0 hrN mLen) (by rfl) B.len PySem.boot_len (pa_cons (pv 6) pa_nil)) pa_nil)))) (pa_cons (pe_lst (pa_cons (kTupleOf K (by rfl) B.tuple (pv 4)) (pa_cons (pv 3) (pa_cons (pe_callB (kLen K) (by rfl) B.len PySem.boot_len (pa_cons (pv 4) pa_nil)) pa_nil)))) pa_nil))))) (pss_one (ps_ret pe_bl)) pss_nil)
      (Evl.pss_cut (ps_set (i := 7) nd rfl (Or.inl rfl) (pe_call c__law_b_lots.ok hr__law_b_lots (by rfl) c__law_b_lots.g c__law_b_lots.kp c__law_b_lots.b .nil pass0 (pa_cons (pv 4) (pa_cons (pv 3) pa_nil))))
      (Evl.pss_cut (ps_for PassesOwn.never rfl (pi_range1 (by rfl) B.range (pa_cons pe_int pa_nil)) (pg_name (i := 8) nd rfl (Or.inl rfl)) (Evl.pss_cut (ps_set (i := 9) nd rfl (Or.inl rfl) (pe_meth0 (pv 6) T.cl mLots GLots hrE bLots .nil pass0))
      (Evl.pss_cut (ps_if (pt_not (pt_val (pe_call c__law_same.ok hr__law_same (by rfl) c__law_same.g c__law_same.kp c__law_same.b .nil pass0 (pa_cons (pv 9) (pa_cons (pv 7) pa_nil))))) (pss_one (ps_ret pe_bl)) pss_nil)
      (pss_one (ps_expr (pe_bm PySem.F.plainAttrs_list PySem.F.slot_list_append PySem.F.type_list_append mt_append (pv 9) (pa_cons pe_str pa_nil)))))))
      (Evl.pss_cut (ps_set (i := 10) nd rfl (Or.inl rfl) (pe_lst (pa_cons pe_non (pa_cons pe_int (pa_cons pe_str (pa_cons pe_str (pa_cons (pe_call c__law_spare.ok hr__law_spare (by rfl) c__law_spare.g c__law_spare.kp c__law_spare.b .nil pass0 (pa_cons (pv 4) pa_nil)) (pa_cons (pe_lst (pa_cons (pe_ix (kIxL K) (pv 4) pe_int (fun _ _ => rfl)) pa_nil)) (pa_cons (pe_tup (pa_cons (pe_ix (kIxL K) (pv 4) pe_int (fun _ _ => rfl)) pa_nil)) (pa_cons pe_dnewK (pa_cons pe_bl (pa_cons (pv 6) pa_nil))))))))))))
      (Evl.pss_cut (ps_if (pt_not (pt_val (pe_call c__law_same.ok hr__law_same (by rfl) c__law_same.g c__law_same.kp c__law_same.b .nil pass0 (pa_cons (pe_lc (own := [("_law_name_here", 11)]) rfl nd (kPiL K (pe_op op_cat (pv 4) (pv 10))) (blkOk_by (N := ["_law_script", "_law_stream", "_law_turn", "_law_is_chain", "_law_names_here", "_law_handed", "_law_house", "_law_lots", "_law_again", "_law_found", "_law_odd", "_law_name_here", "_law_twin", "_law_others", "_law_x"]) (sc := defScope (topS 26)) (by decide +kernel)) (fun _ _ _ _ _ => (pg_name (i := 11) nd rfl (Or.inl rfl))) (fun _ _ _ _ _ => pts_nil) (fun _ _ _ _ _ => (pe_cmpR (op_inOwn GIn bIn pass0 hrI mIn) (pv 11) (pv 6) rfl))) (pa_cons (pe_op op_cat (pe_op op_rep (pe_lst (pa_cons pe_bl pa_nil)) (pe_callB (kLen K) (by rfl) B.len PySem.boot_len (pa_cons (pv 4) pa_nil))) (pe_op op_rep (pe_lst (pa_cons pe_bl pa_nil)) (pe_callB (kLen K) (by rfl) B.len PySem.boot_len (pa_cons (pv 10) pa_nil)))) pa_nil))))) (pss_one (ps_ret pe_bl)) pss_nil)
      (Evl.pss_cut (ps_par (i := 12) (j := 13) rfl nd rfl rfl (by decide) rfl rfl (pa_cons (pe_makeK T.make GF hrF (by rfl) T.g bK passL (pa_cons (pv 4) pa_nil) (pk_cons (pv 3) pk_nil)) (pa_cons (pe_lst (pa_cons (pe_makeK T.make GF hrF (by rfl) T.g bK passL (pa_cons (pe_slice (kSlL K) (pv 4) po_none (po_some pe_int)) pa_nil) (pk_cons (pe_not (pv 3)) pk_nil)) pa_nil)) pa_nil)) (by rfl))
      (Evl.pss_cut (ps_expr (pe_bm PySem.F.plainAttrs_list PySem.F.slot_list_append PySem.F.type_list_append mt_append (pv 13) (pa_cons (pe_makeK T.make GF hrF (by rfl) T.g bK passL (pa_cons (pe_slice (kSlL K) (pe_slice (kSlL K) (pe_op op_cat (pv 4) (pe_lst (pa_cons (pe_call c__law_spare.ok hr__law_spare (by rfl) c__law_spare.g c__law_spare.kp c__law_spare.b .nil pass0 (pa_cons (pv 4) pa_nil)) pa_nil))) (po_some pe_int) po_none) (po_some (pe_un un_neg pe_int)) po_none) pa_nil) (pk_cons (pv 3) pk_nil)) pa_nil)))
      (Evl.pss_cut (ps_expr (pe_bm PySem.F.plainAttrs_list PySem.F.slot_list_append PySem.F.type_list_append mt_append (pv 13) (pa_cons (pe_makeK T.make GF hrF (by rfl) T.g bK passL (pa_cons (pe_op op_cat (pe_slice (kSlL K) (pv 4) po_none (po_some (pe_un un_neg pe_int))) (pe_lst (pa_cons (pe_call c__law_spare.ok hr__law_spare (by rfl) c__law_spare.g c__law_spare.kp c__law_spare.b .nil pass0 (pa_cons (pv 4) pa_nil)) pa_nil))) pa_nil) (pk_cons (pv 3) pk_nil)) pa_nil)))
      (Evl.pss_cut (ps_if (pt_cmpR op_gt (pe_callB (kLen K) (by rfl) B.len PySem.boot_len (pa_cons (pv 4) pa_nil)) pe_int (nomark _)) (pss_one (ps_expr (pe_bm PySem.F.plainAttrs_list PySem.F.slot_list_append PySem.F.type_list_append mt_append (pv 13) (pa_cons (pe_makeK T.make GF hrF (by rfl) T.g bK passL (pa_cons (kRev K (pv 4)) pa_nil) (pk_cons (pv 3) pk_nil)) pa_nil)))) pss_nil)
      (Evl.pss_cut (ps_if (PW.pt (pw_or (pt_not (pt_cmpR (kEqOwn K GE bE pass0 hrE mE) (pv 6) (pv 12) (nomark _))) (pw_or (pt_cmpR (op_neOwn GE bE pass0 hrN cE mE.fn) (pv 6) (pv 12) (nomark _)) (pw_or1 (pt_val (pe_callB (kAny K rfl) (by rfl) B.any (by decide +kernel) (pa_cons (pe_lc (own := [("_law_x", 14)]) rfl nd (kPiL K (pv 13)) (blkOk_by (N := ["_law_script", "_law_stream", "_law_turn", "_law_is_chain", "_law_names_here", "_law_handed", "_law_house", "_law_lots", "_law_again", "_law_found", "_law_odd", "_law_name_here", "_law_twin", "_law_others", "_law_x"]) (sc := defScope (topS 26)) (by decide +kernel)) (fun _ _ _ _ _ => (pg_name (i := 14) nd rfl (Or.inl rfl))) (fun _ _ _ _ _ => pts_nil) (fun _ _ _ _ _ => (pe_or (pe_cmpR (kEqOwn K GE bE pass0 hrE mE) (pv 6) (pv 14) (nomark _)) (pe_one (pe_not (pe_cmpR (op_neOwn GE bE pass0 hrN cE mE.fn) (pv 14) (pv 6) (nomark _))))))) pa_nil))))))) (pss_one (ps_ret pe_bl)) pss_nil)
      (Evl.pss_cut (ps_set (i := 10) nd rfl (Or.inl rfl) (pe_lst (pa_cons pe_non (pa_cons (kTupleOf K (by rfl) B.tuple (pv 4)) (pa_cons (pv 4) (pa_cons (pe_ix (kIxL K) (pv 4) pe_int (fun _ _ => rfl)) (pa_cons pe_int pa_nil)))))))
      (pss_one (ps_if (pt_not (pt_val (pe_call c__law_same.ok hr__law_same (by rfl) c__law_same.g c__law_same.kp c__law_same.b .nil pass0 (pa_cons (pe_op op_cat (pe_lc (own := [("_law_x", 14)]) rfl nd (kPiL K (pv 10)) (blkOk_by (N := ["_law_script", "_law_stream", "_law_turn", "_law_is_chain", "_law_names_here", "_law_handed", "_law_house", "_law_lots", "_law_again", "_law_found", "_law_odd", "_law_name_here", "_law_twin", "_law_others", "_law_x"]) (sc := defScope (topS 26)) (by decide +kernel)) (fun _ _ _ _ _ => (pg_name (i := 14) nd rfl (Or.inl rfl))) (fun _ _ _ _ _ => pts_nil) (fun _ _ _ _ _ => (pe_cmpR (kEqOwn K GE bE pass0 hrE mE) (pv 6) (pv 14) (nomark _)))) (pe_lc (own := [("_law_x", 14)]) rfl nd (kPiL K (pv 10)) (blkOk_by (N := ["_law_script", "_law_stream", "_law_turn", "_law_is_chain", "_law_names_here", "_law_handed", "_law_house", "_law_lots", "_law_again", "_law_found", "_law_odd", "_law_name_here", "_law_twin", "_law_others", "_law_x"]) (sc := defScope (topS 26)) (by decide +kernel)) (fun _ _ _ _ _ => (pg_name (i := 14) nd rfl (Or.inl rfl))) (fun _ _ _ _ _ => pts_nil) (fun _ _ _ _ _ => (pe_cmpR ((kEqRefl K GE bE pass0 hrE mE).or (kEqOwn K GE bE pass0 hrE mE)) (pv 14) (pv 6) (nomark _))))) (pa_cons (pe_op op_rep (pe_lst (pa_cons pe_bl pa_nil)) pe_int) pa_nil))))) (pss_one (ps_ret pe_bl)) pss_nil)))))))))))))))))))
      (pss_one (ps_ret (pe_and (pe_cmpR (kEqOwn K GE bE pass0 hrE mE) (pe_make T.make GF hrF (by rfl) T.g bF dF passL (pa_cons (pe_lst (pa_cons pe_str pa_nil)) pa_nil)) (pe_makeK T.make GF hrF (by rfl) T.g bK passL (pa_cons (pe_tup (pa_cons pe_str pa_nil)) pa_nil) (pk_cons pe_bl pk_nil)) (nomark _)) (pe_one (pe_cmpR op_isBl (pe_fld (pe_make T.make GF hrF (by rfl) T.g bF dF passL (pa_cons (pe_lst (pa_cons pe_str pa_nil)) pa_nil)) rfl) pe_bl (nomark _)))))))), ?_⟩
    -- the stream
    refine ⟨fun σ H1 => ∃ st c, σ = [some (.ref a), some (.ref st), none, none, none, none, none, none, none, none, none, none, none, none, none] ∧ Strm H1 st c 0, ?_, ?_⟩
    · exact ⟨_, rfl, a, ns, rfl, hS, fun st c H1 e1 nst nc S1 => ⟨st, c, rfl, S1⟩⟩
    rintro σ H1 ⟨st, c, rfl, S1⟩
    have fold : ∀ (H : Hp) (nm : V) (o : List V) (zs : List Str) (ch : Bool) (R : Addr → Hp → Prop), Thing K H nm (some o) → o = zs.map V.str → wrongOf (some o) (mostFor ch) = none → (∀ x H', Same H H' → FoldersAt C H' x zs ch → R x H') →
        ∀ x dx, H x = none → H dx = none → dx ≠ x → spFolders K C CB [.ref x, nm, .bl ch] (upd (upd H dx (.own x)) x (.ins C dx [])) (fun v H' => v = .non ∧ R x H') E0 := by
      rintro H nm o zs ch R Th rfl hw r x dx nx ndx hne
      have e1 := Same.grow (o := HO.ins C dx []) (Same.grow (o := HO.own x) (Same.refl H) ndx) nx
      refine ⟨x, dx, nm, _, ch, rfl, upd_same, Th.same e1, fun i d H' hi => ?_, fun zs' H' _ ez _ FA bt => ⟨rfl, r x H' (fun b u e => bt b u (ne_of_none e nx) (e1 _ _ e)) ?_⟩⟩
      · rw [hw] at hi
        cases hi
      · have : zs = zs' := map_str_inj (Option.some.inj ez)
        rw [this]
        exact FA
    refine ⟨5, rfl, by decide, by decide, ?_⟩
    refine for_it walk_range (fun i σ H1 => ∃ v2 v3 v4 v5 v6 v7 v8 v9 v10 v12 v13, σ = [some (.ref a), some (.ref st), v2, v3, v4, v5, v6, v7, v8, v9, v10, none, v12, v13, none] ∧ Strm H1 st c (300 * i)) ?_ (fun _ _ _ _ _ => trivial) ?_ ?_
    · exact ⟨none, none, none, none, none, none, none, none, none, none, none, rfl, S1⟩
    · rintro i y σ H0 H1 hi ⟨v2, v3, v4, v5, v6, v7, v8, v9, v10, v12, v13, rfl, S⟩ ⟨rfl, rfl⟩
      have hi : i < 5 := by simpa using hi
      -- is_chain
      refine ⟨fun σ H2 => ∃ ch : Bool, σ = [some (.ref a), some (.ref st), some (.int (0 + (i : Int))), some (.bl ch), v4, v5, v6, v7, v8, v9, v10, none, v12, v13, none] ∧ Strm H2 st c (300 * i + 1), ?_, ?_⟩
      · exact ⟨_, rfl, st, c, 300 * i, 2, rfl, S, by omega, by decide, by decide, fun d H2 _ _ S2 k2 => ⟨rfl, _, rfl, S2⟩⟩
      rintro σ H2 ⟨ch, rfl, S2⟩
      -- the names
      refine ⟨fun σ H3 => ∃ (nl : Addr) (zs : List Str), σ = [some (.ref a), some (.ref st), some (.int (0 + (i : Int))), some (.bl ch), some (.ref nl), v5, v6, v7, v8, v9, v10, none, v12, v13, none] ∧ H3 nl = some (.lst (zs.map V.str)) ∧ nl ≠ st ∧ nl ≠ c ∧ 0 < zs.length ∧ zs.length ≤ mostFor ch ∧ zs.Nodup ∧ (∀ z ∈ zs, isNameS z = true) ∧ Strm H3 st c (300 * i + 202), ?_, ?_⟩
      · have fin : ∀ (m : Nat) (H' : Hp) (d : Int), m = mostFor ch → 0 ≤ d → d < (m : Int) → Strm H' st c (300 * i + 2) → spNames K [.ref st, .int (1 + d)] H' (fun v H3 => ∃ (nl : Addr) (zs : List Str), ([some (.ref a), some (.ref st), some (.int (0 + (i : Int))), some (.bl ch), v4, v5, v6, v7, v8, v9, v10, none, v12, v13, none] : L2.St).set 4 (some v) = [some (.ref a), some (.ref st), some (.int (0 + (i : Int))), some (.bl ch), some (.ref nl), v5, v6, v7, v8, v9, v10, none, v12, v13, none] ∧ H3 nl = some (.lst (zs.map V.str)) ∧ nl ≠ st ∧ nl ≠ c ∧ 0 < zs.length ∧ zs.length ≤ mostFor ch ∧ zs.Nodup ∧ (∀ z ∈ zs, isNameS z = true) ∧ Strm H3 st c (300 * i + 202)) E0 := by
          intro m H' d hm d0 d1 S'
          have h12 : mostFor ch ≤ 12 := by cases ch <;> decide
          refine ⟨st, c, 300 * i + 2, (1 + d).toNat, ?_, S', by omega, by omega, fun l zs H3 nl hl hn hz S3 k3 hL => ?_⟩
          · rw [show (((1 + d).toNat : Nat) : Int) = 1 + d by omega]
          · obtain ⟨l1, l2⟩ := S'.notfree nl
            exact ⟨l, zs, rfl, hL, l1, l2, by omega, by omega, hn, hz, S3⟩
        refine ⟨_, rfl, _, rfl, _, rfl, ?_⟩
        cases ch with
        | true =>
          refine ⟨_, rfl, ?_⟩
          refine iteT ?_
          exact ⟨st, c, 300 * i + 1, 12, rfl, S2, by omega, by decide, by decide, fun d H3 d0 d1 S3 k3 => ⟨1, d, rfl, rfl, fin 12 H3 d rfl d0 d1 S3⟩⟩
        | false =>
          refine ⟨_, rfl, ?_⟩
          refine iteF ?_
          exact ⟨st, c, 300 * i + 1, 5, rfl, S2, by omega, by decide, by decide, fun d H3 d0 d1 S3 k3 => ⟨1, d, rfl, rfl, fin 5 H3 d rfl d0 d1 S3⟩⟩
      rintro σ H3 ⟨nl, zs, rfl, hnl, n1, n2, hz0, hzm, hnd, hnm, S3⟩
      have h12 : mostFor ch ≤ 12 := by cases ch <;> decide
      have hw := wrong_ok (most := mostFor ch) (fun e => by rw [e] at hz0; exact Nat.lt_irrefl 0 hz0) hzm hnm hnd
      have farz : ∀ H, ∀ y ∈ zs.map V.str, Far K H st c y := fun H y m => by
        obtain ⟨z, mz, rfl⟩ := List.mem_map.mp m
        have hz := hnm z mz
        unfold isNameS at hz
        simp only [Bool.and_eq_true, decide_eq_true_eq] at hz
        exact Far.str (by omega)
      have hlen : (zs.map V.str).length ≤ 100000 := by rw [List.length_map]; omega
      -- handed over as a list or as a tuple
      refine ⟨fun σ H4 => ∃ p, σ = [some (.ref a), some (.ref st), some (.int (0 + (i : Int))), some (.bl ch), some (.ref nl), some (.ref p), v6, v7, v8, v9, v10, none, v12, v13, none] ∧ H4 nl = some (.lst (zs.map V.str)) ∧ p ≠ st ∧ p ≠ c ∧ p ≠ nl ∧ (H4 p = some (.lst (zs.map V.str)) ∨ H4 p = some (.tup (zs.map V.str))) ∧ Strm H4 st c (300 * i + 203), ?_, ?_⟩
      · refine ⟨_, rfl, _, rfl, nl, _, rfl, .inl (SqL.of hnl), fun p np => ⟨_, rfl, .inl ⟨nl, _, rfl, SqL.of (same_upd np _ _ hnl), fun t nt => ?_⟩⟩⟩
        obtain ⟨p1, p2⟩ := S3.notfree np
        have e1 := same_upd (o := HO.lst (zs.map V.str)) np
        have hp : upd H3 p (.lst (zs.map V.str)) p = some (.lst (zs.map V.str)) := upd_same
        have pn := (ne_of_none hnl np).symm
        generalize upd H3 p (.lst (zs.map V.str)) = G1 at e1 hp nt ⊢
        have R1 := S3.same e1
        obtain ⟨t1, t2⟩ := R1.notfree nt
        have e2 := same_upd (o := HO.tup (zs.map V.str)) nt
        have ht : upd G1 t (.tup (zs.map V.str)) t = some (.tup (zs.map V.str)) := upd_same
        have tn := (ne_of_none (e1 _ _ hnl) nt).symm
        generalize upd G1 t (.tup (zs.map V.str)) = G2 at e2 ht ⊢
        have R2 := R1.same e2
        refine ⟨by show 2 ≤ sizeLine; rw [sizeLine_eq]; omega, fun q nq => ?_⟩
        obtain ⟨q1, q2⟩ := R2.notfree nq
        have e3 := same_upd (o := HO.lst [V.ref p, .ref t]) nq
        refine ⟨st, c, 300 * i + 202, _, .ref q, _, rfl, R2.same e3, by omega, by show 0 < 2; decide, by show 2 < 1000000; decide, pk_lst (SqL.of upd_same) q1 q2, fun j H4 hj S4 k4 => ?_⟩
        have hn4 := k4 _ _ n1 n2 (e3 _ _ (e2 _ _ (e1 _ _ hnl)))
        match j, hj with
        | 0, _ => exact ⟨p, rfl, hn4, p1, p2, pn, .inl (k4 _ _ p1 p2 (e3 _ _ (e2 _ _ hp))), S4⟩
        | 1, _ => exact ⟨t, rfl, hn4, t1, t2, tn, .inr (k4 _ _ t1 t2 (e3 _ _ ht)), S4⟩
      rintro σ H4 ⟨p, rfl, hn4, p1, p2, p3, hp4, S4⟩
      -- the folders
      refine ⟨fun σ H5 => ∃ x, σ = [some (.ref a), some (.ref st), some (.int (0 + (i : Int))), some (.bl ch), some (.ref nl), some (.ref p), some (.ref x), v7, v8, v9, v10, none, v12, v13, none] ∧ Grd C H5 st c nl x (300 * i + 203) zs ch ∧ (H5 p = some (.lst (zs.map V.str)) ∨ H5 p = some (.tup (zs.map V.str))), ?_, ?_⟩
      · have Th : Thing K H4 (.ref p) (some (zs.map V.str)) := by
          rcases hp4 with h | h
          · exact (thf_lst h p1 p2 hlen (farz H4)).1
          · exact (thf_tup h p1 p2 hlen (farz H4)).1
        refine ⟨_, rfl, _, rfl, rfl, rfl, fold H4 (.ref p) _ zs ch _ Th rfl hw fun x H5 e FA => ⟨x, rfl, ⟨S4.same e, e _ _ hn4, FA⟩, hp4.imp (fun h => e _ _ h) fun h => e _ _ h⟩⟩
      rintro σ H5 ⟨x, rfl, g5, hp5⟩
      -- the handed list is changed behind
      refine ⟨fun σ H6 => σ = [some (.ref a), some (.ref st), some (.int (0 + (i : Int))), some (.bl ch), some (.ref nl), some (.ref p), some (.ref x), v7, v8, v9, v10, none, v12, v13, none] ∧ Grd C H6 st c nl x (300 * i + 203) zs ch, ?_, ?_⟩
      · rcases hp5 with h | h
        · refine isi1 rfl (.base (.lst h)) (kit_ty (show kitB "list" "list" = some true by decide +kernel)) ⟨_, rfl, ?_⟩
          refine iteT ?_
          refine ⟨_, rfl, .inl ⟨rfl, _, SqL.of h⟩, ?_⟩
          exact ⟨p, _, _, rfl, rfl, h, by rw [List.length_map]; exact Evl.sz_lt (by omega), rfl, g5.updL h p1 p2 p3⟩
        · refine isi1 rfl (.base (.tup h)) (kit_ty (show kitB "tuple" "list" = some false by decide +kernel)) ⟨_, rfl, ?_⟩
          refine iteF ?_
          exact ⟨rfl, g5⟩
      rintro σ H6 ⟨rfl, g6⟩
      -- names, chain, len
      obtain ⟨dx6, t6, pd6, hx6, ht6, hpd6⟩ := g6.fo
      refine ⟨fun σ H7 => σ = [some (.ref a), some (.ref st), some (.int (0 + (i : Int))), some (.bl ch), some (.ref nl), some (.ref p), some (.ref x), v7, v8, v9, v10, none, v12, v13, none] ∧ Same H6 H7, ?_, ?_⟩
      · refine ⟨_, rfl, x, C, dx6, _, _, rfl, hx6, T.cl, T.nN, look_names _ _ _, _, rfl, x, C, dx6, _, _, rfl, hx6, T.cl, T.nC, look_chain _ _ _, ?_⟩
        refine ⟨_, rfl, x, dx6, _, rfl, hx6, x, zs, ch, rfl, ⟨dx6, t6, pd6, hx6, ht6, hpd6⟩, by omega, _, rfl, by omega, by omega, by show 3 ≤ sizeLine; rw [sizeLine_eq]; omega, fun q1 nq1 => ?_⟩
        have e1 := same_upd (o := HO.lst [.ref t6, .bl ch, .int (zs.length : Int)]) nq1
        have hq1 : upd H6 q1 (.lst [.ref t6, .bl ch, .int (zs.length : Int)]) q1 = some (.lst [.ref t6, .bl ch, .int (zs.length : Int)]) := upd_same
        generalize upd H6 q1 (.lst [.ref t6, .bl ch, .int (zs.length : Int)]) = G1 at e1 hq1 ⊢
        refine ⟨_, rfl, .inl ⟨nl, _, rfl, SqL.of (e1 _ _ g6.nm), fun t nt => ?_⟩⟩
        have e2 := same_upd (o := HO.tup (zs.map V.str)) nt
        have ht : upd G1 t (.tup (zs.map V.str)) t = some (.tup (zs.map V.str)) := upd_same
        generalize upd G1 t (.tup (zs.map V.str)) = G2 at e2 ht ⊢
        refine ⟨_, rfl, _, rfl, .ref nl, zs.length, rfl, .inl ⟨_, SqL.of (e2 _ _ (e1 _ _ g6.nm)), by rw [List.length_map]⟩, by show 3 ≤ sizeLine; rw [sizeLine_eq]; omega, fun q2 nq2 => ?_⟩
        have e3 := same_upd (o := HO.lst [.ref t, .bl ch, .int (zs.length : Int)]) nq2
        refine ⟨.ref q1, .ref q2, dTold zs ch, rfl, dp_told (e3 _ _ (e2 _ _ hq1)) (e3 _ _ (e2 _ _ (e1 _ _ ht6))), dp_told upd_same (e3 _ _ ht), told_depth zs ch, told_wide (by omega), fun H7 e7 => ⟨true, rfl, ?_⟩⟩
        refine iteF ?_
        exact ⟨rfl, Same.trans e1 (Same.trans e2 (Same.trans e3 e7))⟩
      rintro σ H7 ⟨rfl, e67⟩
      have g7 := g6.same e67
      -- the lots, by the law's own rows
      refine ⟨fun σ H8 => ∃ (D : Addr) (ws : List V), σ = [some (.ref a), some (.ref st), some (.int (0 + (i : Int))), some (.bl ch), some (.ref nl), some (.ref p), some (.ref x), some (.ref D), v8, v9, v10, none, v12, v13, none] ∧ Grd C H8 st c nl x (300 * i + 203) zs ch ∧ H8 D = some (.lst ws) ∧ Ats H8 (fun l : List Str => l.map V.str) ws (lotsFor ch zs), ?_, ?_⟩
      · exact ⟨_, rfl, _, rfl, nl, zs, ch, rfl, g7.nm, hzm, fun D ws H8 nD e8 hD at8 => ⟨D, ws, rfl, g7.same e8, hD, at8⟩⟩
      rintro σ H8 ⟨D, ws, rfl, g8, hD8, at8⟩
      have hlots := lots_few (ch := ch) hzm
      have hlw : ∀ l ∈ lotsFor ch zs, l.length ≤ 100 := fun l m => Nat.le_trans (lot_len m) (by omega)
      -- told thrice, and changed behind
      refine ⟨fun σ H9 => ∃ v8 v9, σ = [some (.ref a), some (.ref st), some (.int (0 + (i : Int))), some (.bl ch), some (.ref nl), some (.ref p), some (.ref x), some (.ref D), v8, v9, v10, none, v12, v13, none] ∧ Grd C H9 st c nl x (300 * i + 203) zs ch, ?_, ?_⟩
      · refine ⟨3, rfl, by decide, by decide, ?_⟩
        refine for_it walk_range (fun _ σ H9 => ∃ v8 v9, σ = [some (.ref a), some (.ref st), some (.int (0 + (i : Int))), some (.bl ch), some (.ref nl), some (.ref p), some (.ref x), some (.ref D), v8, v9, v10, none, v12, v13, none] ∧ Grd C H9 st c nl x (300 * i + 203) zs ch ∧ H9 D = some (.lst ws) ∧ Ats H9 (fun l : List Str => l.map V.str) ws (lotsFor ch zs)) ?_ (fun _ _ _ _ _ => trivial) ?_ ?_
        · exact ⟨_, _, rfl, g8, hD8, at8⟩
        · rintro k y σ H9 H10 hk ⟨w8, w9, rfl, g9, hD9, at9⟩ ⟨rfl, rfl⟩
          obtain ⟨dx9, t9, pd9, hx9, ht9, hpd9⟩ := g9.fo
          refine ⟨fun σ H11 => ∃ (D2 : Addr) (us : List V), σ = [some (.ref a), some (.ref st), some (.int (0 + (i : Int))), some (.bl ch), some (.ref nl), some (.ref p), some (.ref x), some (.ref D), some (.int (0 + (k : Int))), some (.ref D2), v10, none, v12, v13, none] ∧ Same H10 H11 ∧ H10 D2 = none ∧ H11 D2 = some (.lst us) ∧ Ats H11 (fun l : List Str => l.map V.str) us (lotsFor ch zs), ?_, ?_⟩
          · exact ⟨_, rfl, x, dx9, _, rfl, hx9, look_lots _ _ _, x, zs, ch, rfl, ⟨dx9, t9, pd9, hx9, ht9, hpd9⟩, hnd, fun D2 us H11 nD2 e11 hD2 at11 => ⟨D2, us, rfl, e11, nD2, hD2, at11⟩⟩
          rintro σ H11 ⟨D2, us, rfl, e11, nD2, hD2, at11⟩
          have hD11 := e11 _ _ hD9
          have atD := at9.same e11
          refine ⟨fun σ H12 => σ = [some (.ref a), some (.ref st), some (.int (0 + (i : Int))), some (.bl ch), some (.ref nl), some (.ref p), some (.ref x), some (.ref D), some (.int (0 + (k : Int))), some (.ref D2), v10, none, v12, v13, none] ∧ Same H11 H12, ?_, ?_⟩
          · refine ⟨_, rfl, _, rfl, .ref D2, .ref D, dLots (lotsFor ch zs), rfl, .lst (SqL.of hD2) (dp_lots at11), .lst (SqL.of hD11) (dp_lots atD), lots_depth _, lots_wide hlots hlw, fun H12 e12 => ⟨true, rfl, ?_⟩⟩
            refine iteF ?_
            exact ⟨rfl, e12⟩
          rintro σ H12 ⟨rfl, e12⟩
          have hd := e12 _ _ hD2
          have g12 := (g9.same e11).same e12
          obtain ⟨d1, d2⟩ := g9.S.notfree nD2
          have d3 : D2 ≠ nl := (ne_of_none g9.nm nD2).symm
          have d4 : D2 ≠ D := (ne_of_none hD9 nD2).symm
          refine ⟨_, rfl, .inl ⟨rfl, _, SqL.of hd⟩, ?_⟩
          refine ⟨D2, _, _, rfl, rfl, hd, ?_, _, _, rfl, g12.updL hd d1 d2 d3, ?_, (atD.same e12).updL hd⟩
          · rw [at11.1]
            exact Evl.sz_lt (by omega)
          · rw [upd_ne d4.symm]
            exact e12 _ _ hD11
        · rintro σ H9 ⟨w8, w9, rfl, g9, hD9, at9⟩
          exact ⟨_, _, rfl, g9⟩
      rintro σ H9 ⟨w8, w9, rfl, g9⟩
      obtain ⟨z0, zr, hzs⟩ : ∃ z0 zr, zs = z0 :: zr := by
        cases zs with
        | nil => exact absurd hz0 (Nat.lt_irrefl 0)
        | cons z0 zr => exact ⟨z0, zr, rfl⟩
      have hz00 : (zs.map V.str)[0]? = some (.str z0) := by rw [hzs]; rfl
      -- odd things
      refine ⟨fun σ H10 => ∃ (od l1 t1 d1 : Addr) (z : Str), σ = [some (.ref a), some (.ref st), some (.int (0 + (i : Int))), some (.bl ch), some (.ref nl), some (.ref p), some (.ref x), some (.ref D), w8, w9, some (.ref od), none, v12, v13, none] ∧ Grd C H10 st c nl x (300 * i + 203) zs ch ∧
        H10 od = some (.lst [.non, .int 5, .str (Str.ofString ""), .str (Str.ofString "A"), .str z, .ref l1, .ref t1, .ref d1, .bl true, .ref x]) ∧ z ∉ zs ∧ isNameS z = true ∧ H10 l1 = some (.lst [.str z0]) ∧ H10 t1 = some (.tup [.str z0]) ∧ H10 d1 = some (.dK []), ?_, ?_⟩
      · refine ⟨_, rfl, nl, zs, rfl, .inl (SqL.of g9.nm), by omega, fun z H10 e1 hz hnz => ?_⟩
        have n10 := e1 _ _ g9.nm
        refine ⟨_, rfl, nl, _, 0, .str z0, rfl, rfl, SqL.of n10, atI_nat (j := 0) hz00, by show 1 ≤ sizeLine; rw [sizeLine_eq]; omega, fun l1 nl1 => ?_⟩
        have e2 := same_upd (o := HO.lst [.str z0]) nl1
        have h1 : upd H10 l1 (.lst [.str z0]) l1 = some (.lst [.str z0]) := upd_same
        generalize upd H10 l1 (.lst [.str z0]) = G1 at e2 h1 ⊢
        refine ⟨_, rfl, nl, _, 0, .str z0, rfl, rfl, SqL.of (e2 _ _ n10), atI_nat (j := 0) hz00, by show 1 ≤ sizeLine; rw [sizeLine_eq]; omega, fun t1 nt1 => ?_⟩
        have e3 := same_upd (o := HO.tup [.str z0]) nt1
        have h2 : upd G1 t1 (.tup [.str z0]) t1 = some (.tup [.str z0]) := upd_same
        generalize upd G1 t1 (.tup [.str z0]) = G2 at e3 h2 ⊢
        refine fun d1 nd1 => ?_
        have e4 := same_upd (o := HO.dK []) nd1
        have h3 : upd G2 d1 (.dK []) d1 = some (.dK []) := upd_same
        generalize upd G2 d1 (.dK []) = G3 at e4 h3 ⊢
        refine ⟨_, rfl, by show 10 ≤ sizeLine; rw [sizeLine_eq]; omega, fun od nod => ?_⟩
        have e5 := same_upd (o := HO.lst [.non, .int 5, .str (Str.ofString ""), .str (Str.ofString "A"), .str z, .ref l1, .ref t1, .ref d1, .bl true, .ref x]) nod
        exact ⟨od, l1, t1, d1, z, rfl, g9.same (Same.trans e1 (Same.trans e2 (Same.trans e3 (Same.trans e4 e5)))), upd_same, hnz, hz, e5 _ _ (e4 _ _ (e3 _ _ h1)), e5 _ _ (e4 _ _ h2), e5 _ _ h3⟩
      rintro σ H10 ⟨od, l1, t1, d1, z, rfl, g10, hod, hnz, hz, hl1, ht1, hd1⟩
      -- which of all these lie in the folders
      refine ⟨fun σ H11 => σ = [some (.ref a), some (.ref st), some (.int (0 + (i : Int))), some (.bl ch), some (.ref nl), some (.ref p), some (.ref x), some (.ref D), w8, w9, some (.ref od), none, v12, v13, none] ∧ Same H10 H11, ?_, ?_⟩
      · have isin : ∀ (H' : Hp), Same H10 H' → ∀ (k : Nat) (y : V), (zs.map V.str ++ [.non, .int 5, .str (Str.ofString ""), .str (Str.ofString "A"), .str z, .ref l1, .ref t1, .ref d1, .bl true, .ref x])[k]? = some y → ∀ R : VK, (∀ H'', Same H' H'' → R (.bl (decide (k < zs.length))) H'') →
            rInOwn C (spFInA C) E0 false y (.ref x) H' R := by
          intro H' e k y hy R hR
          have gf := (g10.same e).fo
          obtain ⟨dx', t', pd', hx', ht', hp'⟩ := gf
          have ask : ∀ (r : Bool), ((flatV y = true ∧ r = inV y (zs.map V.str)) ∨ (Box H' y ∧ r = false) ∨ (∃ (b : Addr) (zs' : List Str) (ch' : Bool), y = .ref b ∧ FoldersAt C H' b zs' ch' ∧ (∀ z ∈ zs', isNameS z = true) ∧ r = false)) → r = decide (k < zs.length) → rInOwn C (spFInA C) E0 false y (.ref x) H' R :=
            fun r hc hr => ⟨x, dx', _, rfl, hx', x, y, zs, ch, r, rfl, ⟨dx', t', pd', hx', ht', hp'⟩, hc, fun H'' e' => ⟨r, rfl, by rw [hr]; exact hR H'' e'⟩⟩
          by_cases hk : k < zs.length
          · rw [List.getElem?_append_left (by rw [List.length_map]; exact hk), List.getElem?_map, List.getElem?_eq_getElem hk] at hy
            cases hy
            exact ask true (.inl ⟨rfl, by rw [inV_strs, decide_eq_true (List.getElem_mem hk)]⟩) (decide_eq_true hk).symm
          · rw [List.getElem?_append_right (by rw [List.length_map]; omega)] at hy
            have m := List.mem_of_getElem? hy
            have nn : ∀ s : Str, isNameS s = false → s ∉ zs := fun s h m => by
              have := hnm s m
              rw [h] at this
              cases this
            refine ask false ?_ (decide_eq_false hk).symm
            have all : ∀ y ∈ ([V.non, .int 5, .str (Str.ofString ""), .str (Str.ofString "A"), .str z, .ref l1, .ref t1, .ref d1, .bl true, .ref x] : List V), (flatV y = true ∧ false = inV y (zs.map V.str)) ∨ (Box H' y ∧ false = false) ∨ (∃ (b : Addr) (zs' : List Str) (ch' : Bool), y = .ref b ∧ FoldersAt C H' b zs' ch' ∧ (∀ z ∈ zs', isNameS z = true) ∧ false = false) := fcons (p := fun y => (flatV y = true ∧ false = inV y (zs.map V.str)) ∨ (Box H' y ∧ false = false) ∨ (∃ (b : Addr) (zs' : List Str) (ch' : Bool), y = .ref b ∧ FoldersAt C H' b zs' ch' ∧ (∀ z ∈ zs', isNameS z = true) ∧ false = false))
              (.inl ⟨rfl, (inV_odd (fun s h => by cases h) zs).symm⟩) (fcons (.inl ⟨rfl, (inV_odd (fun s h => by cases h) zs).symm⟩)
              (fcons (.inl ⟨rfl, by rw [inV_strs, decide_eq_false (nn _ (by decide +kernel))]⟩) (fcons (.inl ⟨rfl, by rw [inV_strs, decide_eq_false (nn _ (by decide +kernel))]⟩) (fcons (.inl ⟨rfl, by rw [inV_strs, decide_eq_false hnz]⟩)
              (fcons (.inr (.inl ⟨.lst (e _ _ hl1), rfl⟩)) (fcons (.inr (.inl ⟨.tup (e _ _ ht1), rfl⟩)) (fcons (.inr (.inl ⟨.dK (e _ _ hd1), rfl⟩)) (fcons (.inl ⟨rfl, (inV_odd (fun s h => by cases h) zs).symm⟩)
              (fcons (.inr (.inr ⟨x, zs, ch, rfl, ⟨dx', t', pd', hx', ht', hp'⟩, hnm, rfl⟩)) (fun y m => nomatch m))))))))))
            exact all y m
        refine ⟨_, rfl, _, rfl, nl, od, _, _, rfl, rfl, g10.nm, hod, ?_, fun q nq => ?_⟩
        · rw [List.length_map, sizeLine_eq]
          show zs.length + 10 ≤ _
          omega
        have e1 := same_upd (o := HO.lst (zs.map V.str ++ [.non, .int 5, .str (Str.ofString ""), .str (Str.ofString "A"), .str z, .ref l1, .ref t1, .ref d1, .bl true, .ref x])) nq
        have hq : upd H10 q (.lst (zs.map V.str ++ [.non, .int 5, .str (Str.ofString ""), .str (Str.ofString "A"), .str z, .ref l1, .ref t1, .ref d1, .bl true, .ref x])) q = _ := upd_same
        generalize upd H10 q (.lst (zs.map V.str ++ [.non, .int 5, .str (Str.ofString ""), .str (Str.ofString "A"), .str z, .ref l1, .ref t1, .ref d1, .bl true, .ref x])) = G1 at e1 hq ⊢
        refine ⟨q, rfl, ⟨_, SqL.of hq⟩, fun D3 nD3 => ?_⟩
        have hL : (zs.map V.str ++ [V.non, .int 5, .str (Str.ofString ""), .str (Str.ofString "A"), .str z, .ref l1, .ref t1, .ref d1, .bl true, .ref x]).length = zs.length + 10 := by rw [List.length_append, List.length_map]; rfl
        refine lc_it (walk_list (xs := zs.map V.str ++ [V.non, .int 5, .str (Str.ofString ""), .str (Str.ofString "A"), .str z, .ref l1, .ref t1, .ref d1, .bl true, .ref x])) (Upto G1 D3 (List.range (zs.length + 10)) fun j => V.bl (decide (j < zs.length))) (.zero nD3) (fun j H' _ u => SqL.of (u.sm _ _ hq)) ?_ ?_
        · rintro j y H5 H6 hj u ⟨rfl, hy⟩
          refine ⟨rfl, yes2 ?_⟩
          have hjr : (List.range (zs.length + 10))[j]? = some j := List.getElem?_range (by rw [← hL]; exact hj)
          exact ⟨_, rfl, _, rfl, isin _ (Same.trans e1 u.sm) j y hy _ fun H'' e => u.next nD3 hjr e (by rw [List.length_range]; omega)⟩
        · intro H5 u
          have eD := u.all (by rw [hL, List.length_range])
          have e15 := Same.trans e1 u.sm
          refine ⟨by show 1 ≤ sizeLine; rw [sizeLine_eq]; omega, fun b1 nb1 => ?_⟩
          have f1 := same_upd (o := HO.lst [.bl true]) nb1
          have hb1 : upd H5 b1 (.lst [.bl true]) b1 = some (.lst [.bl true]) := upd_same
          generalize upd H5 b1 (.lst [.bl true]) = K1 at f1 hb1 ⊢
          have nm1 := f1 _ _ (e15 _ _ g10.nm)
          refine ⟨_, rfl, .ref nl, zs.length, rfl, .inl ⟨_, SqL.of nm1, by rw [List.length_map]⟩, b1, _, _, rfl, rfl, hb1, by omega, by omega, by rw [sizeLine_eq]; show 1 * _ ≤ _; omega, fun b2 nb2 => ?_⟩
          have f2 := same_upd (o := HO.lst (List.replicate ((zs.length : Nat) : Int).toNat [V.bl true]).flatten) nb2
          have hb2 : upd K1 b2 (.lst (List.replicate ((zs.length : Nat) : Int).toNat [V.bl true]).flatten) b2 = some (.lst (List.replicate ((zs.length : Nat) : Int).toNat [V.bl true]).flatten) := upd_same
          generalize upd K1 b2 (.lst (List.replicate ((zs.length : Nat) : Int).toNat [V.bl true]).flatten) = K2 at f2 hb2 ⊢
          refine ⟨by show 1 ≤ sizeLine; rw [sizeLine_eq]; omega, fun b3 nb3 => ?_⟩
          have f3 := same_upd (o := HO.lst [.bl false]) nb3
          have hb3 : upd K2 b3 (.lst [.bl false]) b3 = some (.lst [.bl false]) := upd_same
          generalize upd K2 b3 (.lst [.bl false]) = K3 at f3 hb3 ⊢
          have od3 := f3 _ _ (f2 _ _ (f1 _ _ (e15 _ _ hod)))
          refine ⟨_, rfl, .ref od, 10, rfl, .inl ⟨_, SqL.of od3, rfl⟩, b3, _, _, rfl, rfl, hb3, by decide, by decide, by show 1 * 10 ≤ sizeLine; rw [sizeLine_eq]; omega, fun b4 nb4 => ?_⟩
          have f4 := same_upd (o := HO.lst (List.replicate ((10 : Nat) : Int).toNat [V.bl false]).flatten) nb4
          have hb4 : upd K3 b4 (.lst (List.replicate ((10 : Nat) : Int).toNat [V.bl false]).flatten) b4 = some (.lst (List.replicate ((10 : Nat) : Int).toNat [V.bl false]).flatten) := upd_same
          generalize upd K3 b4 (.lst (List.replicate ((10 : Nat) : Int).toNat [V.bl false]).flatten) = K4 at f4 hb4 ⊢
          have hsum := rep_bools zs.length 10
          have hsl := congrArg List.length hsum
          rw [List.length_append, List.length_map, List.length_range] at hsl
          refine ⟨b2, b4, _, _, rfl, rfl, f4 _ _ (f3 _ _ hb2), hb4, by rw [sizeLine_eq]; omega, fun b5 nb5 => ?_⟩
          have f5 := same_upd (o := HO.lst ((List.replicate ((zs.length : Nat) : Int).toNat [V.bl true]).flatten ++ (List.replicate ((10 : Nat) : Int).toNat [V.bl false]).flatten)) nb5
          refine ⟨.ref D3, .ref b5, dBools (fun j => decide (j < zs.length)) (List.range (zs.length + 10)), rfl, .lst (SqL.of (f5 _ _ (f4 _ _ (f3 _ _ (f2 _ _ (f1 _ _ eD)))))) (dp_bools _ _), .lst (SqL.of upd_same) ?_, bools_depth _ _, bools_wide _ (by rw [List.length_range]; omega), fun H7 e7 => ⟨true, rfl, ?_⟩⟩
          · rw [hsum]
            exact dp_bools _ _
          · refine iteF ?_
            exact ⟨rfl, Same.trans e15 (Same.trans f1 (Same.trans f2 (Same.trans f3 (Same.trans f4 (Same.trans f5 e7)))))⟩
      rintro σ H11 ⟨rfl, e11⟩
      have g11 := g10.same e11
      have fit : Fit zs (mostFor ch) := ⟨(fun e => by rw [e] at hz0; exact Nat.lt_irrefl 0 hz0), hzm, hnm, hnd⟩
      have far : ∀ (o : List Str) (H : Hp), (∀ z ∈ o, isNameS z = true) → ∀ y ∈ o.map V.str, Far K H st c y := fun o H hn y m => by
        obtain ⟨z, mz, rfl⟩ := List.mem_map.mp m
        have hz := hn z mz
        unfold isNameS at hz
        simp only [Bool.and_eq_true, decide_eq_true_eq] at hz
        exact Far.str (by omega)
      have m5 : ∀ b : Bool, 5 ≤ mostFor b := fun b => by cases b <;> decide
      have m12 : ∀ b : Bool, mostFor b ≤ 12 := fun b => by cases b <;> decide
      -- the twin, and others
      refine ⟨fun σ H12 => ∃ (tw ol : Addr) (ws : List V), σ = [some (.ref a), some (.ref st), some (.int (0 + (i : Int))), some (.bl ch), some (.ref nl), some (.ref p), some (.ref x), some (.ref D), w8, w9, some (.ref od), none, some (.ref tw), some (.ref ol), none] ∧ Grd C H12 st c nl x (300 * i + 203) zs ch ∧ FoldersAt C H12 tw zs ch ∧ H12 ol = some (.lst ws) ∧ ws.length ≤ 1 ∧ (∀ w ∈ ws, Oth C zs ch H12 w) ∧ ol ≠ st ∧ ol ≠ c ∧ ol ≠ nl, ?_, ?_⟩
      · have Th := (thf_lst g11.nm n1 n2 hlen (farz H11)).1
        refine ⟨_, rfl, _, rfl, rfl, rfl, fold H11 (.ref nl) _ zs ch _ Th rfl hw fun tw G1 e1 FA => ?_⟩
        have g1 := g11.same e1
        refine ⟨_, rfl, _, rfl, nl, _, rfl, SqL.of g1.nm, fun q nq => ?_⟩
        obtain ⟨q1, q2⟩ := g1.S.notfree nq
        rw [show (5 : Int) = ((5 : Nat) : Int) from rfl, cut_upto, ← List.map_take]
        have e2 := same_upd (o := HO.lst ((zs.take 5).map V.str)) nq
        have hq : upd G1 q (.lst ((zs.take 5).map V.str)) q = some (.lst ((zs.take 5).map V.str)) := upd_same
        generalize upd G1 q (.lst ((zs.take 5).map V.str)) = G2 at e2 hq ⊢
        have ft := fit.take5 (mostFor (!ch)) (m5 _)
        have Th2 := (thf_lst hq q1 q2 (by rw [List.length_map, List.length_take]; omega) (far _ G2 ft.nm)).1
        refine ⟨_, rfl, ch, rfl, rfl, rfl, fold G2 (.ref q) _ (zs.take 5) (!ch) _ Th2 rfl ft.right fun o1 G3 e3 FA3 => ?_⟩
        refine ⟨by show 1 ≤ sizeLine; rw [sizeLine_eq]; omega, fun ol nol => ?_⟩
        have e4 := same_upd (o := HO.lst [.ref o1]) nol
        have g3 := (g1.same e2).same e3
        obtain ⟨l1', l2'⟩ := g3.S.notfree nol
        refine ⟨_, _, rfl, tw, ol, _, rfl, g3.same e4, FA.same (Same.trans e2 (Same.trans e3 e4)), upd_same, by show 1 ≤ 1; exact Nat.le_refl _, fcons ⟨o1, zs.take 5, !ch, rfl, FA3.same e4, ft.nm, ?_⟩ (fun y m => nomatch m), l1', l2', (ne_of_none g3.nm nol).symm⟩
        rw [show decide (ch = !ch) = false by cases ch <;> rfl, Bool.and_false]
      rintro σ H12 ⟨tw, ol, ws, rfl, g12, FT, hol, hwl, hws, o1, o2', o3⟩
      -- the last ones, with a new name
      refine ⟨fun σ H12 => ∃ (tw ol : Addr) (ws : List V), σ = [some (.ref a), some (.ref st), some (.int (0 + (i : Int))), some (.bl ch), some (.ref nl), some (.ref p), some (.ref x), some (.ref D), w8, w9, some (.ref od), none, some (.ref tw), some (.ref ol), none] ∧ Grd C H12 st c nl x (300 * i + 203) zs ch ∧ FoldersAt C H12 tw zs ch ∧ H12 ol = some (.lst ws) ∧ ws.length ≤ 2 ∧ (∀ w ∈ ws, Oth C zs ch H12 w) ∧ ol ≠ st ∧ ol ≠ c ∧ ol ≠ nl, ?_, ?_⟩
      · refine ⟨_, rfl, .inl ⟨rfl, _, SqL.of hol⟩, ?_⟩
        refine ⟨_, rfl, _, rfl, nl, zs, rfl, .inl (SqL.of g12.nm), by omega, fun s G1 e1 hs hns => ⟨by show 1 ≤ sizeLine; rw [sizeLine_eq]; omega, fun q1 nq1 => ?_⟩⟩
        have e2 := same_upd (o := HO.lst [.str s]) nq1
        have hq1 : upd G1 q1 (.lst [.str s]) q1 = some (.lst [.str s]) := upd_same
        generalize upd G1 q1 (.lst [.str s]) = G2 at e2 hq1 ⊢
        refine ⟨nl, q1, _, _, rfl, rfl, e2 _ _ (e1 _ _ g12.nm), hq1, by rw [List.length_map, sizeLine_eq]; show zs.length + 1 ≤ _; omega, fun q2 nq2 => ?_⟩
        have c1 : cutV (zs.map V.str ++ [V.str s]) (some (1 : Int)) none = ((zs ++ [s]).drop 1).map V.str := by
          rw [show (1 : Int) = ((1 : Nat) : Int) from rfl, cut_from, List.map_drop, List.map_append]
          rfl
        have e3 := same_upd (o := HO.lst (zs.map V.str ++ [V.str s])) nq2
        have hq2 : upd G2 q2 (.lst (zs.map V.str ++ [V.str s])) q2 = some (.lst (zs.map V.str ++ [V.str s])) := upd_same
        generalize upd G2 q2 (.lst (zs.map V.str ++ [V.str s])) = G3 at e3 hq2 ⊢
        refine ⟨_, rfl, q2, _, rfl, SqL.of hq2, fun q3 nq3 => ?_⟩
        rw [c1]
        have c2 : cutV (((zs ++ [s]).drop 1).map V.str) (some (-1 * (5 : Int))) none = (((zs ++ [s]).drop 1).drop (zs.length - 5)).map V.str := by
          rw [show -1 * (5 : Int) = -((5 : Nat) : Int) from rfl, cut_last _ _ (by decide), ← List.map_drop]
          congr 2
          rw [List.length_map, List.length_drop, List.length_append]
          show zs.length + 1 - 1 - 5 = zs.length - 5
          omega
        have e4 := same_upd (o := HO.lst (((zs ++ [s]).drop 1).map V.str)) nq3
        have hq3 : upd G3 q3 (.lst (((zs ++ [s]).drop 1).map V.str)) q3 = some (.lst (((zs ++ [s]).drop 1).map V.str)) := upd_same
        generalize upd G3 q3 (.lst (((zs ++ [s]).drop 1).map V.str)) = G4 at e4 hq3 ⊢
        have e14 := Same.trans e1 (Same.trans e2 (Same.trans e3 e4))
        have R4 := g12.S.same e14
        refine ⟨5, rfl, _, rfl, q3, _, rfl, SqL.of hq3, fun q4 nq4 => ?_⟩
        rw [show cutV (((zs ++ [s]).drop 1).map V.str) (some (-5)) none = (((zs ++ [s]).drop 1).drop (zs.length - 5)).map V.str from c2]
        obtain ⟨f1, f2⟩ := R4.notfree nq4
        obtain ⟨ft, hin⟩ := fit.tail5 (m5 ch) hs hns
        generalize ((zs ++ [s]).drop 1).drop (zs.length - 5) = z2 at ft hin ⊢
        have e5 := same_upd (o := HO.lst (z2.map V.str)) nq4
        have hq4 : upd G4 q4 (.lst (z2.map V.str)) q4 = some (.lst (z2.map V.str)) := upd_same
        generalize upd G4 q4 (.lst (z2.map V.str)) = G5 at e5 hq4 ⊢
        have Th2 := (thf_lst hq4 f1 f2 (by rw [List.length_map]; have := ft.len; omega) (far _ G5 ft.nm)).1
        refine ⟨_, rfl, rfl, rfl, fold G5 (.ref q4) _ z2 ch _ Th2 rfl ft.right fun o2 G6 e6 FA6 => ?_⟩
        · have e16 := Same.trans e14 (Same.trans e5 e6)
          have hne : zs ≠ z2 := fun e => hns (by rw [e]; exact hin)
          have g9' := g12.same e16
          have hol' := e16 _ _ hol
          refine ⟨ol, _, _, rfl, rfl, hol', Evl.sz_lt (by omega), tw, ol, ws ++ [.ref o2], rfl, g9'.updL hol' o1 o2' o3, (FT.same e16).updL hol', upd_same, by rw [List.length_append]; show ws.length + 1 ≤ 2; omega, fun w mw => ?_, o1, o2', o3⟩
          rcases List.mem_append.mp mw with mw | mw
          · exact ((hws w mw).same e16).updL hol'
          · rw [List.mem_singleton.mp mw]
            exact (show Oth C zs ch G6 (.ref o2) from ⟨o2, z2, ch, rfl, FA6, ft.nm, by rw [decide_eq_false hne, Bool.false_and]⟩).updL hol'
      rintro σ H13 ⟨tw, ol, ws, rfl, g13, FT, hol, hwl, hws, o1, o2', o3⟩
      -- the first ones, with a new name
      refine ⟨fun σ H12 => ∃ (tw ol : Addr) (ws : List V), σ = [some (.ref a), some (.ref st), some (.int (0 + (i : Int))), some (.bl ch), some (.ref nl), some (.ref p), some (.ref x), some (.ref D), w8, w9, some (.ref od), none, some (.ref tw), some (.ref ol), none] ∧ Grd C H12 st c nl x (300 * i + 203) zs ch ∧ FoldersAt C H12 tw zs ch ∧ H12 ol = some (.lst ws) ∧ ws.length ≤ 3 ∧ (∀ w ∈ ws, Oth C zs ch H12 w) ∧ ol ≠ st ∧ ol ≠ c ∧ ol ≠ nl, ?_, ?_⟩
      · refine ⟨_, rfl, .inl ⟨rfl, _, SqL.of hol⟩, ?_⟩
        refine ⟨_, rfl, 1, rfl, _, rfl, nl, _, rfl, SqL.of g13.nm, fun q1 nq1 => ?_⟩
        have c1 : cutV (zs.map V.str) none (some (-1)) = (zs.take (zs.length - 1)).map V.str := by
          rw [show (-1 : Int) = -((1 : Nat) : Int) from rfl, cut_but _ _ (by decide), List.length_map, List.map_take]
        rw [c1]
        have e1 := same_upd (o := HO.lst ((zs.take (zs.length - 1)).map V.str)) nq1
        have hq1 : upd H13 q1 (.lst ((zs.take (zs.length - 1)).map V.str)) q1 = some (.lst ((zs.take (zs.length - 1)).map V.str)) := upd_same
        generalize upd H13 q1 (.lst ((zs.take (zs.length - 1)).map V.str)) = G1 at e1 hq1 ⊢
        refine ⟨_, rfl, nl, zs, rfl, .inl (SqL.of (e1 _ _ g13.nm)), by omega, fun s G2 e2 hs hns => ⟨by show 1 ≤ sizeLine; rw [sizeLine_eq]; omega, fun q2 nq2 => ?_⟩⟩
        have e3 := same_upd (o := HO.lst [.str s]) nq2
        have hq2 : upd G2 q2 (.lst [.str s]) q2 = some (.lst [.str s]) := upd_same
        generalize upd G2 q2 (.lst [.str s]) = G3 at e3 hq2 ⊢
        have e13 := Same.trans e1 (Same.trans e2 e3)
        refine ⟨q1, q2, _, _, rfl, rfl, e3 _ _ (e2 _ _ hq1), hq2, by rw [List.length_map, List.length_take, sizeLine_eq]; show min _ _ + 1 ≤ _; omega, fun q4 nq4 => ?_⟩
        obtain ⟨f1, f2⟩ := (g13.S.same e13).notfree nq4
        have ft := fit.last hs hns
        have hin : s ∈ zs.take (zs.length - 1) ++ [s] := List.mem_append_right _ List.mem_cons_self
        rw [show (zs.take (zs.length - 1)).map V.str ++ [V.str s] = (zs.take (zs.length - 1) ++ [s]).map V.str by rw [List.map_append]; rfl]
        generalize zs.take (zs.length - 1) ++ [s] = z2 at ft hin ⊢
        have e5 := same_upd (o := HO.lst (z2.map V.str)) nq4
        have hq4 : upd G3 q4 (.lst (z2.map V.str)) q4 = some (.lst (z2.map V.str)) := upd_same
        generalize upd G3 q4 (.lst (z2.map V.str)) = G5 at e5 hq4 ⊢
        have Th2 := (thf_lst hq4 f1 f2 (by rw [List.length_map]; have := ft.len; omega) (far _ G5 ft.nm)).1
        refine ⟨_, rfl, rfl, rfl, fold G5 (.ref q4) _ z2 ch _ Th2 rfl ft.right fun o2 G6 e6 FA6 => ?_⟩
        · have e16 := Same.trans e13 (Same.trans e5 e6)
          have hne : zs ≠ z2 := fun e => hns (by rw [e]; exact hin)
          have g9' := g13.same e16
          have hol' := e16 _ _ hol
          refine ⟨ol, _, _, rfl, rfl, hol', Evl.sz_lt (by omega), tw, ol, ws ++ [.ref o2], rfl, g9'.updL hol' o1 o2' o3, (FT.same e16).updL hol', upd_same, by rw [List.length_append]; show ws.length + 1 ≤ 3; omega, fun w mw => ?_, o1, o2', o3⟩
          rcases List.mem_append.mp mw with mw | mw
          · exact ((hws w mw).same e16).updL hol'
          · rw [List.mem_singleton.mp mw]
            exact (show Oth C zs ch G6 (.ref o2) from ⟨o2, z2, ch, rfl, FA6, ft.nm, by rw [decide_eq_false hne, Bool.false_and]⟩).updL hol'
      rintro σ H14 ⟨tw, ol, ws, rfl, g14, FT, hol, hwl, hws, o1, o2', o3⟩
      -- the other way round
      refine ⟨fun σ H12 => ∃ (tw ol : Addr) (ws : List V), σ = [some (.ref a), some (.ref st), some (.int (0 + (i : Int))), some (.bl ch), some (.ref nl), some (.ref p), some (.ref x), some (.ref D), w8, w9, some (.ref od), none, some (.ref tw), some (.ref ol), none] ∧ Grd C H12 st c nl x (300 * i + 203) zs ch ∧ FoldersAt C H12 tw zs ch ∧ H12 ol = some (.lst ws) ∧ ws.length ≤ 4 ∧ (∀ w ∈ ws, Oth C zs ch H12 w) ∧ ol ≠ st ∧ ol ≠ c ∧ ol ≠ nl, ?_, ?_⟩
      · refine ⟨_, rfl, .ref nl, zs.length, rfl, .inl ⟨_, SqL.of g14.nm, by rw [List.length_map]⟩, _, _, rfl, rfl, _, rfl, ?_⟩
        refine ite2 (fun hc => ?_) (fun hc => ?_)
        · have hc : (1 : Int) < (zs.length : Int) := of_decide_eq_true hc
          refine ⟨_, rfl, .inl ⟨rfl, _, SqL.of hol⟩, ?_⟩
          refine ⟨_, rfl, nl, _, rfl, SqL.of g14.nm, fun q4 nq4 => ?_⟩
          obtain ⟨f1, f2⟩ := g14.S.notfree nq4
          have ft := fit.rev
          have hne : zs ≠ zs.reverse := rev_other hnd (by omega)
          rw [← List.map_reverse]
          generalize zs.reverse = z2 at ft hne ⊢
          have e5 := same_upd (o := HO.lst (z2.map V.str)) nq4
          have hq4 : upd H14 q4 (.lst (z2.map V.str)) q4 = some (.lst (z2.map V.str)) := upd_same
          generalize upd H14 q4 (.lst (z2.map V.str)) = G5 at e5 hq4 ⊢
          have Th2 := (thf_lst hq4 f1 f2 (by rw [List.length_map]; have := ft.len; omega) (far _ G5 ft.nm)).1
          refine ⟨_, rfl, rfl, rfl, fold G5 (.ref q4) _ z2 ch _ Th2 rfl ft.right fun o2 G6 e6 FA6 => ?_⟩
          have e16 := Same.trans e5 e6
          have g9' := g14.same e16
          have hol' := e16 _ _ hol
          refine ⟨ol, _, _, rfl, rfl, hol', Evl.sz_lt (by omega), tw, ol, ws ++ [.ref o2], rfl, g9'.updL hol' o1 o2' o3, (FT.same e16).updL hol', upd_same, by rw [List.length_append]; show ws.length + 1 ≤ 4; omega, fun w mw => ?_, o1, o2', o3⟩
          rcases List.mem_append.mp mw with mw | mw
          · exact ((hws w mw).same e16).updL hol'
          · rw [List.mem_singleton.mp mw]
            exact (show Oth C zs ch G6 (.ref o2) from ⟨o2, z2, ch, rfl, FA6, ft.nm, by rw [decide_eq_false hne, Bool.false_and]⟩).updL hol'
        · exact ⟨tw, ol, ws, rfl, g14, FT, hol, by omega, hws, o1, o2', o3⟩
      rintro σ H15 ⟨tw, ol, ws, rfl, g15, FT, hol, hwl, hws, o1, o2', o3⟩
      have feq : ∀ (H' : Hp) (b1 b2 : Addr) (z1 z2 : List Str) (c1 c2 : Bool), FoldersAt C H' b1 z1 c1 → (∀ z ∈ z1, isNameS z = true) → FoldersAt C H' b2 z2 c2 → (∀ z ∈ z2, isNameS z = true) → ∀ R : VK, (∀ H'', Same H' H'' → R (.bl (decide (z1 = z2) && decide (c1 = c2))) H'') → spFEq K C [.ref b1, .ref b2] H' R E0 := by
        intro H' b1 b2 z1 z2 c1 c2 F1 m1 F2 m2 R hR
        obtain ⟨dx2, t2, pd2, hx2, _, _⟩ := id F2
        exact ⟨b1, .ref b2, .ref C, z1, c1, _, rfl, F1, m1, tF _ _ _ _ hx2, .inr ⟨kT, b2, z2, c2, rfl, F2, m2, rfl⟩, hR⟩
      have ins : ∀ {H' : Hp} {b : Addr} {z : List Str} {c' : Bool}, FoldersAt C H' b z c' → ∃ dx fs, H' b = some (.ins C dx fs) := fun ⟨dx, _, _, h, _⟩ => ⟨dx, _, h⟩
      have tt : (decide (zs = zs) && decide (ch = ch)) = true := by simp
      refine ⟨fun σ H16 => σ = [some (.ref a), some (.ref st), some (.int (0 + (i : Int))), some (.bl ch), some (.ref nl), some (.ref p), some (.ref x), some (.ref D), w8, w9, some (.ref od), none, some (.ref tw), some (.ref ol), none] ∧ Same H15 H16, ?_, ?_⟩
      · obtain ⟨dxx, fsx, hxx⟩ := ins g15.fo
        obtain ⟨dxt, fst, hxt⟩ := ins FT
        refine ⟨_, rfl, _, rfl, x, dxx, _, .ref C, rfl, hxx, tF _ _ _ _ hxt, nC, feq _ _ _ _ _ _ _ g15.fo hnm FT hnm _ fun G1 e1 => ⟨_, rfl, _, rfl, ?_⟩⟩
        rw [tt]
        refine iteF ?_
        refine ⟨_, rfl, _, rfl, x, dxx, tw, dxt, _, _, rfl, rfl, e1 _ _ hxx, e1 _ _ hxt, feq _ _ _ _ _ _ _ (g15.fo.same e1) hnm (FT.same e1) hnm _ fun G2 e2 => ⟨_, rfl, _, rfl, ?_⟩⟩
        rw [tt]
        refine iteF ?_
        have e12 := Same.trans e1 e2
        have hol2 := e12 _ _ hol
        refine ⟨_, rfl, ol, rfl, ⟨_, SqL.of hol2⟩, fun D3 nD3 => ?_⟩
        refine lc_it (walk_list (xs := ws)) (Upto G2 D3 ws fun _ => V.bl false) (.zero nD3) (fun j H' _ u => SqL.of (u.sm _ _ hol2)) ?_ ?_
        · rintro j y H5 H6 hj u ⟨rfl, hy⟩
          refine ⟨rfl, yes2 ?_⟩
          have e15 := Same.trans e12 u.sm
          obtain ⟨b, z', c', rfl, FB, mB, ff⟩ := (hws y (List.mem_of_getElem? hy)).same e15
          obtain ⟨dxb, fsb, hxb⟩ := ins FB
          have fx := g15.fo.same e15
          refine ⟨_, rfl, _, rfl, x, dxx, _, .ref C, rfl, e15 _ _ hxx, tF _ _ _ _ hxb, nC, feq _ _ _ _ _ _ _ fx hnm FB mB _ fun G3 e3 => ⟨_, rfl, _, rfl, ?_⟩⟩
          rw [ff]
          refine iteF ?_
          have ff2 : (decide (z' = zs) && decide (c' = ch)) = false := by rw [← ff, decide_eq_decide.mpr (show z' = zs ↔ zs = z' from eq_comm), decide_eq_decide.mpr (show c' = ch ↔ ch = c' from eq_comm)]
          refine ⟨_, rfl, _, rfl, b, dxb, x, dxx, _, _, rfl, rfl, e3 _ _ hxb, e3 _ _ (e15 _ _ hxx), feq _ _ _ _ _ _ _ (FB.same e3) mB (fx.same e3) hnm _ fun G4 e4 => ⟨_, rfl, _, rfl, ?_⟩⟩
          rw [ff2]
          exact u.next nD3 hy (Same.trans e3 e4) (by omega)
        · intro H5 u
          have eD := u.all rfl
          refine ⟨D3, ws.map fun _ => false, rfl, SqL.of (by rw [eD, List.map_map]; rfl), _, rfl, ?_⟩
          rw [show (ws.map fun _ => false).any id = false by simp]
          refine iteF ?_
          exact ⟨rfl, Same.trans e12 u.sm⟩
      rintro σ H16 ⟨rfl, e16⟩
      have g16 := g15.same e16
      -- things of other kinds
      refine ⟨fun σ H17 => ∃ (od t : Addr), σ = [some (.ref a), some (.ref st), some (.int (0 + (i : Int))), some (.bl ch), some (.ref nl), some (.ref p), some (.ref x), some (.ref D), w8, w9, some (.ref od), none, some (.ref tw), some (.ref ol), none] ∧ Same H16 H17 ∧ H17 od = some (.lst [.non, .ref t, .ref nl, .str z0, .int 5]) ∧ H17 t = some (.tup (zs.map V.str)), ?_, ?_⟩
      · refine ⟨_, rfl, .inl ⟨nl, _, rfl, SqL.of g16.nm, fun t nt => ?_⟩⟩
        have e1 := same_upd (o := HO.tup (zs.map V.str)) nt
        have ht : upd H16 t (.tup (zs.map V.str)) t = some (.tup (zs.map V.str)) := upd_same
        generalize upd H16 t (.tup (zs.map V.str)) = G1 at e1 ht ⊢
        refine ⟨_, rfl, _, rfl, nl, _, 0, .str z0, rfl, rfl, SqL.of (e1 _ _ g16.nm), atI_nat (j := 0) hz00, by show 5 ≤ sizeLine; rw [sizeLine_eq]; omega, fun od nod => ?_⟩
        have e2 := same_upd (o := HO.lst [.non, .ref t, .ref nl, .str z0, .int 5]) nod
        exact ⟨od, t, rfl, Same.trans e1 e2, upd_same, e2 _ _ ht⟩
      rintro σ H17 ⟨od2, t2, rfl, e17, hod2, ht2⟩
      have g17 := g16.same e17
      have odds : ∀ y ∈ ([.non, .ref t2, .ref nl, .str z0, .int 5] : List V), ∃ T ∈ ["NoneType", "int", "str", "list", "tuple"], ∀ H', Same H17 H' → TyX K H' y (.type T) ∧ Bik H' y T :=
        fcons (p := fun y => ∃ T ∈ ["NoneType", "int", "str", "list", "tuple"], ∀ H', Same H17 H' → TyX K H' y (.type T) ∧ Bik H' y T) ⟨"NoneType", by decide, fun H' e => ⟨.base .non, .non⟩⟩ (fcons ⟨"tuple", by decide, fun H' e => ⟨.base (.tup (e _ _ ht2)), .tup (e _ _ ht2)⟩⟩ (fcons ⟨"list", by decide, fun H' e => ⟨.base (.lst (e _ _ g17.nm)), .lst (e _ _ g17.nm)⟩⟩
          (fcons ⟨"str", by decide, fun H' e => ⟨.base (.str z0), .str z0⟩⟩ (fcons ⟨"int", by decide, fun H' e => ⟨.base (.int 5), .int 5⟩⟩ (fun y m => nomatch m)))))
      have fno : ∀ (H' : Hp), Same H17 H' → ∀ (y : V) (T : String), T ∈ ["NoneType", "int", "str", "list", "tuple"] → TyX K H' y (.type T) → ∀ R : VK, (∀ H'', Same H' H'' → R (.bl false) H'') → spFEq K C [.ref x, y] H' R E0 := fun H' e y T mT ty R hR =>
        ⟨x, y, .type T, zs, ch, false, rfl, (g17.same e).fo, hnm, ty, .inl ⟨kB T mT, rfl⟩, hR⟩
      refine ⟨_, rfl, od2, rfl, ⟨_, SqL.of hod2⟩, fun D3 nD3 => ?_⟩
      obtain ⟨dxx, fsx, hxx⟩ := ins g17.fo
      refine lc_it (walk_list (xs := [V.non, .ref t2, .ref nl, .str z0, .int 5])) (Upto H17 D3 [V.non, .ref t2, .ref nl, .str z0, .int 5] fun _ => V.bl false) (.zero nD3) (fun j H' _ u => SqL.of (u.sm _ _ hod2)) ?_ ?_
      · rintro j y H5 H6 hj u ⟨rfl, hy⟩
        refine ⟨rfl, yes2 ?_⟩
        obtain ⟨T, mT, hT⟩ := odds y (List.mem_of_getElem? hy)
        exact ⟨_, rfl, _, rfl, x, dxx, _, .type T, rfl, u.sm _ _ hxx, (hT _ u.sm).1, nB T mT, fno _ u.sm y T mT (hT _ u.sm).1 _ fun G e => ⟨false, rfl, u.next nD3 hy e (by show 5 ≤ 100000; decide)⟩⟩
      · intro H18 u1
        have eD3 := u1.all rfl
        have s18 := u1.sm
        refine ⟨_, rfl, od2, rfl, ⟨_, SqL.of (s18 _ _ hod2)⟩, fun D4 nD4 => ?_⟩
        refine lc_it (walk_list (xs := [V.non, .ref t2, .ref nl, .str z0, .int 5])) (Upto H18 D4 [V.non, .ref t2, .ref nl, .str z0, .int 5] fun _ => V.bl false) (.zero nD4) (fun j H' _ u => SqL.of (u.sm _ _ (s18 _ _ hod2))) ?_ ?_
        · rintro j y H5 H6 hj u ⟨rfl, hy⟩
          refine ⟨rfl, yes2 ?_⟩
          obtain ⟨T, mT, hT⟩ := odds y (List.mem_of_getElem? hy)
          have s6 := Same.trans s18 u.sm
          exact ⟨_, rfl, _, rfl, .inl ⟨x, dxx, _, T, rfl, s6 _ _ hxx, (hT _ s6).2, sB T mT, fno _ s6 y T mT (hT _ s6).1 _ fun G e => ⟨false, rfl, u.next nD4 hy e (by show 5 ≤ 100000; decide)⟩⟩⟩
        · intro H19 u2
          have eD4 := u2.all rfl
          have s19 := u2.sm
          refine ⟨D3, D4, _, _, rfl, rfl, s19 _ _ eD3, eD4, by show 5 + 5 ≤ sizeLine; rw [sizeLine_eq]; omega, fun b1 nb1 => ?_⟩
          have f1 := same_upd (o := HO.lst (List.replicate 10 (V.bl false))) nb1
          refine ⟨by show 1 ≤ sizeLine; rw [sizeLine_eq]; omega, fun b2 nb2 => ?_⟩
          have f2 := same_upd (o := HO.lst [V.bl false]) nb2
          refine ⟨b2, 10, _, rfl, rfl, upd_same, by decide, by decide, by show 1 * 10 ≤ sizeLine; rw [sizeLine_eq]; omega, fun b3 nb3 => ?_⟩
          have f3 := same_upd (o := HO.lst (List.replicate (10 : Int).toNat [V.bl false]).flatten) nb3
          refine ⟨.ref b1, .ref b3, dBools (fun _ : Nat => false) (List.range 10), rfl, .lst (SqL.of (f3 _ _ (f2 _ _ upd_same))) (dp_bools (fun _ : Nat => false) (List.range 10)), .lst (SqL.of upd_same) (dp_bools (fun _ : Nat => false) (List.range 10)), bools_depth _ _, bools_wide _ (by decide), fun H7 e7 => ⟨true, rfl, ?_⟩⟩
          refine iteF ?_
          exact ⟨_, _, _, _, _, _, _, _, _, _, _, rfl, (g17.S.same (Same.trans s18 (Same.trans s19 (Same.trans f1 (Same.trans f2 (Same.trans f3 e7)))))).more (by omega)⟩
    · rintro σ H1 ⟨v2, v3, v4, v5, v6, v7, v8, v9, v10, v12, v13, rfl, S⟩
      have hna : ∀ z ∈ [Str.ofString "a"], isNameS z = true := by decide +kernel
      have fara : ∀ H, ∀ y ∈ [V.str (Str.ofString "a")], Far K H st c y := fun H => fcons (Far.str (by decide +kernel)) (fun y m => nomatch m)
      have hwa : wrongOf (some [V.str (Str.ofString "a")]) (mostFor false) = none := by decide +kernel
      refine ⟨by show 1 ≤ sizeLine; rw [sizeLine_eq]; omega, fun q1 nq1 => ?_⟩
      obtain ⟨c1, c2⟩ := S.notfree nq1
      have e1 := same_upd (o := HO.lst [V.str (Str.ofString "a")]) nq1
      have R1 := S.same e1
      have Th1 := (thf_lst (K := K) (st := st) (c := c) (show upd H1 q1 (.lst [V.str (Str.ofString "a")]) q1 = some (.lst [V.str (Str.ofString "a")]) from upd_same) c1 c2 (by decide) (fara _)).1
      refine fold _ (.ref q1) _ [Str.ofString "a"] false _ Th1 rfl hwa fun x1 G1 s1 F1 => ?_
      have R2 := R1.same s1
      refine ⟨by show 1 ≤ sizeLine; rw [sizeLine_eq]; omega, fun q2 nq2 => ?_⟩
      obtain ⟨c3, c4⟩ := R2.notfree nq2
      have e2 := same_upd (o := HO.tup [V.str (Str.ofString "a")]) nq2
      have R3 := R2.same e2
      have Th2 := (thf_tup (K := K) (st := st) (c := c) (show upd G1 q2 (.tup [V.str (Str.ofString "a")]) q2 = some (.tup [V.str (Str.ofString "a")]) from upd_same) c3 c4 (by decide) (fara _)).1
      refine ⟨rfl, rfl, fold _ (.ref q2) _ [Str.ofString "a"] false _ Th2 rfl hwa fun x2 G2 s2 F2 => ?_⟩
      have F1' := (F1.same e2).same s2
      obtain ⟨dx1, t1, pd1, hx1, _, _⟩ := id F1'
      obtain ⟨dx2, t2, pd2, hx2, _, _⟩ := id F2
      refine ⟨x1, dx1, _, .ref C, rfl, hx1, tF _ _ _ _ hx2, nC, x1, .ref x2, .ref C, [Str.ofString "a"], false, _, rfl, F1', hna, tF _ _ _ _ hx2, .inr ⟨kT, x2, [Str.ofString "a"], false, rfl, F2, hna, rfl⟩, fun G3 s3 => ⟨_, rfl, _, rfl, ?_⟩⟩
      rw [show (decide ([Str.ofString "a"] = [Str.ofString "a"]) && decide (false = false)) = true by simp]
      refine iteT ?_
      have R4 := (R3.same s2).same s3
      refine ⟨by show 1 ≤ sizeLine; rw [sizeLine_eq]; omega, fun q3 nq3 => ?_⟩
      obtain ⟨c5, c6⟩ := R4.notfree nq3
      have Th3 := (thf_lst (K := K) (st := st) (c := c) (show upd G3 q3 (.lst [V.str (Str.ofString "a")]) q3 = some (.lst [V.str (Str.ofString "a")]) from upd_same) c5 c6 (by decide) (fara _)).1
      refine fold _ (.ref q3) _ [Str.ofString "a"] false _ Th3 rfl hwa fun x3 G4 s4 F3 => ?_
      obtain ⟨dx3, t3, pd3, hx3, _, _⟩ := id F3
      refine ⟨x3, C, dx3, _, _, rfl, hx3, T.cl, T.nC, look_chain _ _ _, ?_⟩
      exact ⟨false, false, rfl, rfl, q _⟩
end
end Bk

set_option maxHeartbeats 0
namespace Bk
open PySem PySem.Spec PyProof.Rows L2
def gd (x : Str) (st : Stmt) : He.DefD := ⟨(x, none), x, x, defArgs st, defBody st, defScope st, [], []⟩
def md (c m q : Str) (st : Stmt) (kws : List (Str × He.Dv)) : He.DefD := ⟨(c, some m), m, q, defArgs st, defBody st, defScope st, [], kws⟩
def fnL : List He.DefD := [gd "is_list" (topS 6), gd "is_name" (topS 7), gd "first_wrong" (topS 12), gd "choices" (topS 13), gd "choices_of" (topS 14), gd "rows_of_neighbours" (topS 15), gd "_law_start" (topS 17), gd "_law_draw" (topS 18), gd "_law_pick" (topS 19), gd "_law_same" (topS 20), gd "_law_name" (topS 21), gd "_law_names" (topS 22), gd "_law_spare" (topS 23), gd "_law_b_rows" (topS 24), gd "_law_b_lots" (topS 25), gd "law" (topS 26), md "BadFolders" "__init__" "BadFolders.__init__" (inClass (topS 2) 0) [], md "Folders" "__init__" "Folders.__init__" (inClass (topS 11) 0) [("chain", .bl false)], md "Folders" "__len__" "Folders.__len__" (inClass (topS 11) 1) [], md "Folders" "__contains__" "Folders.__contains__" (inClass (topS 11) 2) [], md "Folders" "__eq__" "Folders.__eq__" (inClass (topS 11) 3) [], md "Folders" "lots" "Folders.lots" (inClass (topS 11) 4) []]
def faL : List He.Fa := [.glo "is_list", .glo "is_name", .glo "first_wrong", .glo "choices", .glo "choices_of", .glo "rows_of_neighbours", .glo "_law_start", .glo "_law_draw", .glo "_law_pick", .glo "_law_same", .glo "_law_name", .glo "_law_names", .glo "_law_spare", .glo "_law_b_rows", .glo "_law_b_lots", .glo "law", .glo "BadFolders", .glo "Folders", .str "LETTERS" "abcdefghijklmnopqrstuvwxyz", .int "LONGEST_NAME" 8, .int "MOST_FOLDERS" 5, .int "MOST_IN_CHAIN" 12, .meth "BadFolders" "__init__", .noat "BadFolders" "index", .exm "BadFolders" "BadFolders" true, .cls "Folders", .noat "Folders" "names", .noat "Folders" "chain", .noat "Folders" "places", .mkr "Folders", .meth "Folders" "__len__", .meth "Folders" "__contains__", .meth "Folders" "__eq__", .meth "Folders" "lots", .free "len", .free "list", .free "tuple", .free "isinstance", .free "all", .free "any", .free "zip", .free "enumerate", .free "range", .free "int", .free "str", .free "bool", .free "dict", .free "abs"]
def kindsL : List String := ["NoneType", "int", "str", "list", "tuple"]
def exL (K : PySem.W.Frag) : Bool := errB K (He.ga K "BadFolders") (He.ma K (He.ga K "BadFolders") "__init__") && (insB K (He.ga K "Folders") && (eqCls K (He.ga K "Folders") (He.ma K (He.ga K "Folders") "__eq__") && (decide (PySem.W.kitOne K (.ref (He.ga K "Folders")) (.ref (He.ga K "Folders")) = some true) && ((kindsL.all fun T => decide (PySem.W.kitOne K (.type T) (.ref (He.ga K "Folders")) = some false)) && ((kindsL.all fun T => decide (PySem.W.subIn K (.ref (He.ga K "Folders")) (.type T) = some false)) && ((kindsL.all fun T => PySem.W.notFirst K (He.ga K "Folders") (.type T)) && (PySem.W.notFirst K (He.ga K "Folders") (.ref (He.ga K "Folders")))))))))
abbrev RowL : PySem.W.OpenRow := PySem.W.OpenLaw.row PySem.Challenge.rw_blockshares_k01_folders_made
abbrev hkL : PySem.W.Hook := He.hookX 4 faL fnL [] [] exL
def obL (s : PySem.W.SharedT) : He.AlX := He.obsX 4 faL fnL [] [] exL (HandSHeadRun.getT s)
theorem obL_eq (s : PySem.W.SharedT) : obL s = hkL.obs s.abs := He.obsX_eq (HandSHeadRun.getT_eq s)
theorem runL (w : World) : HandSHeadRun.RunEq RowL (PySem.W.view RowL.prog [26]) hkL obL 3000 ["__name__", "ShareError", "BadFolders", "LETTERS", "LONGEST_NAME", "is_list", "is_name", "MOST_FOLDERS", "MOST_IN_CHAIN", "Folders", "first_wrong", "choices", "choices_of", "rows_of_neighbours", "_law_start", "_law_draw", "_law_pick", "_law_same", "_law_name", "_law_names", "_law_spare", "_law_b_rows", "_law_b_lots"] w := by
  intro os
  kernel_rfl
end Bk

namespace Bk
open PySem PySem.Spec PyProof.Rows L2
theorem factsL {P : Program} {w w' : World} {K : PySem.W.Frag} {h h' : Heap} {mg : Str → Option Value} {f : Addr} (X : K.In h) (G : h.Ns mainGlobals mg) (hfa : mg ("law" : Str) = some (.ref f)) (cx : He.SaysX faL fnL [] [] exL w' h' K) :
    ∃ fd : FuncData, (∀ (s : Shared) (v : Value), BindsTo s fd ⟨[v], []⟩ [("_law_script", v)]) ∧ ∀ base : Heap, K.In base → base.Ns mainGlobals mg → FnOk P w K mg base CX0 9 f fd ["_law_script"] (spLaw K) := by
  have c := He.SaysT.d cx.t
  have mm := cx.more
  unfold exL at mm
  obtain ⟨xe_BadFolders, mm⟩ := Bool.and_eq_true_iff.mp mm
  obtain ⟨xi_Folders, mm⟩ := Bool.and_eq_true_iff.mp mm
  obtain ⟨m3, mm⟩ := Bool.and_eq_true_iff.mp mm
  obtain ⟨m4, mm⟩ := Bool.and_eq_true_iff.mp mm
  obtain ⟨m5, mm⟩ := Bool.and_eq_true_iff.mp mm
  obtain ⟨m6, mm⟩ := Bool.and_eq_true_iff.mp mm
  obtain ⟨m7, mm⟩ := Bool.and_eq_true_iff.mp mm
  have m8 := mm
  have glo : ∀ (i : Nat) (x : Str), faL[i]? = some (.glo x) → mg x = some (.ref (He.ga K x)) := fun i x e => He.glo_ok X G (c.fact i e)
  have fr : ∀ (i : Nat) (x : Str), faL[i]? = some (.free x) → mg x = none := fun i x e => He.free_ok X G (c.fact i e)
  have B : Bi mg := ⟨fr 34 _ rfl, fr 35 _ rfl, fr 36 _ rfl, fr 37 _ rfl, fr 38 _ rfl, fr 39 _ rfl, fr 40 _ rfl, fr 41 _ rfl, fr 42 _ rfl, fr 43 _ rfl, fr 44 _ rfl, fr 45 _ rfl, fr 46 _ rfl, fr 47 _ rfl⟩
  obtain ⟨fd_is_list, D_is_list⟩ := c.def_ 0 (d := gd "is_list" (topS 6)) rfl
  have E_is_list : Fun K "is_list" "is_list" (topS 6) _ fd_is_list := fun_of D_is_list
  obtain ⟨fd_is_name, D_is_name⟩ := c.def_ 1 (d := gd "is_name" (topS 7)) rfl
  have E_is_name : Fun K "is_name" "is_name" (topS 7) _ fd_is_name := fun_of D_is_name
  obtain ⟨fd_first_wrong, D_first_wrong⟩ := c.def_ 2 (d := gd "first_wrong" (topS 12)) rfl
  have E_first_wrong : Fun K "first_wrong" "first_wrong" (topS 12) _ fd_first_wrong := fun_of D_first_wrong
  obtain ⟨fd_choices, D_choices⟩ := c.def_ 3 (d := gd "choices" (topS 13)) rfl
  have E_choices : Fun K "choices" "choices" (topS 13) _ fd_choices := fun_of D_choices
  obtain ⟨fd_choices_of, D_choices_of⟩ := c.def_ 4 (d := gd "choices_of" (topS 14)) rfl
  have E_choices_of : Fun K "choices_of" "choices_of" (topS 14) _ fd_choices_of := fun_of D_choices_of
  obtain ⟨fd_rows_of_neighbours, D_rows_of_neighbours⟩ := c.def_ 5 (d := gd "rows_of_neighbours" (topS 15)) rfl
  have E_rows_of_neighbours : Fun K "rows_of_neighbours" "rows_of_neighbours" (topS 15) _ fd_rows_of_neighbours := fun_of D_rows_of_neighbours
  obtain ⟨fd__law_start, D__law_start⟩ := c.def_ 6 (d := gd "_law_start" (topS 17)) rfl
  have E__law_start : Fun K "_law_start" "_law_start" (topS 17) _ fd__law_start := fun_of D__law_start
  obtain ⟨fd__law_draw, D__law_draw⟩ := c.def_ 7 (d := gd "_law_draw" (topS 18)) rfl
  have E__law_draw : Fun K "_law_draw" "_law_draw" (topS 18) _ fd__law_draw := fun_of D__law_draw
  obtain ⟨fd__law_pick, D__law_pick⟩ := c.def_ 8 (d := gd "_law_pick" (topS 19)) rfl
  have E__law_pick : Fun K "_law_pick" "_law_pick" (topS 19) _ fd__law_pick := fun_of D__law_pick
  obtain ⟨fd__law_same, D__law_same⟩ := c.def_ 9 (d := gd "_law_same" (topS 20)) rfl
  have E__law_same : Fun K "_law_same" "_law_same" (topS 20) _ fd__law_same := fun_of D__law_same
  obtain ⟨fd__law_name, D__law_name⟩ := c.def_ 10 (d := gd "_law_name" (topS 21)) rfl
  have E__law_name : Fun K "_law_name" "_law_name" (topS 21) _ fd__law_name := fun_of D__law_name
  obtain ⟨fd__law_names, D__law_names⟩ := c.def_ 11 (d := gd "_law_names" (topS 22)) rfl
  have E__law_names : Fun K "_law_names" "_law_names" (topS 22) _ fd__law_names := fun_of D__law_names
  obtain ⟨fd__law_spare, D__law_spare⟩ := c.def_ 12 (d := gd "_law_spare" (topS 23)) rfl
  have E__law_spare : Fun K "_law_spare" "_law_spare" (topS 23) _ fd__law_spare := fun_of D__law_spare
  obtain ⟨fd__law_b_rows, D__law_b_rows⟩ := c.def_ 13 (d := gd "_law_b_rows" (topS 24)) rfl
  have E__law_b_rows : Fun K "_law_b_rows" "_law_b_rows" (topS 24) _ fd__law_b_rows := fun_of D__law_b_rows
  obtain ⟨fd__law_b_lots, D__law_b_lots⟩ := c.def_ 14 (d := gd "_law_b_lots" (topS 25)) rfl
  have E__law_b_lots : Fun K "_law_b_lots" "_law_b_lots" (topS 25) _ fd__law_b_lots := fun_of D__law_b_lots
  obtain ⟨fd_law, D_law⟩ := c.def_ 15 (d := gd "law" (topS 26)) rfl
  have E_law : Fun K "law" "law" (topS 26) _ fd_law := fun_of D_law
  obtain ⟨fd_BadFolders_init, D_BadFolders_init⟩ := c.def_ 16 (d := md "BadFolders" "__init__" "BadFolders.__init__" (inClass (topS 2) 0) []) rfl
  have E_BadFolders_init : Fun K "__init__" "BadFolders.__init__" (inClass (topS 2) 0) _ fd_BadFolders_init := fun_of D_BadFolders_init
  obtain ⟨fd_Folders_init, D_Folders_init⟩ := c.def_ 17 (d := md "Folders" "__init__" "Folders.__init__" (inClass (topS 11) 0) [("chain", .bl false)]) rfl
  have F_Folders_init : FunD K "__init__" "Folders.__init__" (defArgs (inClass (topS 11) 0)) (defBody (inClass (topS 11) 0)) (defScope (inClass (topS 11) 0)) [] [("chain", .bl false)] _ fd_Folders_init := D_Folders_init
  obtain ⟨fd_Folders_len, D_Folders_len⟩ := c.def_ 18 (d := md "Folders" "__len__" "Folders.__len__" (inClass (topS 11) 1) []) rfl
  have E_Folders_len : Fun K "__len__" "Folders.__len__" (inClass (topS 11) 1) _ fd_Folders_len := fun_of D_Folders_len
  obtain ⟨fd_Folders_contains, D_Folders_contains⟩ := c.def_ 19 (d := md "Folders" "__contains__" "Folders.__contains__" (inClass (topS 11) 2) []) rfl
  have E_Folders_contains : Fun K "__contains__" "Folders.__contains__" (inClass (topS 11) 2) _ fd_Folders_contains := fun_of D_Folders_contains
  obtain ⟨fd_Folders_eq, D_Folders_eq⟩ := c.def_ 20 (d := md "Folders" "__eq__" "Folders.__eq__" (inClass (topS 11) 3) []) rfl
  have E_Folders_eq : Fun K "__eq__" "Folders.__eq__" (inClass (topS 11) 3) _ fd_Folders_eq := fun_of D_Folders_eq
  obtain ⟨fd_Folders_lots, D_Folders_lots⟩ := c.def_ 21 (d := md "Folders" "lots" "Folders.lots" (inClass (topS 11) 4) []) rfl
  have E_Folders_lots : Fun K "lots" "Folders.lots" (inClass (topS 11) 4) _ fd_Folders_lots := fun_of D_Folders_lots
  have g_is_list := glo 0 "is_list" rfl
  have g_is_name := glo 1 "is_name" rfl
  have g_first_wrong := glo 2 "first_wrong" rfl
  have g_choices := glo 3 "choices" rfl
  have g_choices_of := glo 4 "choices_of" rfl
  have g_rows_of_neighbours := glo 5 "rows_of_neighbours" rfl
  have g__law_start := glo 6 "_law_start" rfl
  have g__law_draw := glo 7 "_law_draw" rfl
  have g__law_pick := glo 8 "_law_pick" rfl
  have g__law_same := glo 9 "_law_same" rfl
  have g__law_name := glo 10 "_law_name" rfl
  have g__law_names := glo 11 "_law_names" rfl
  have g__law_spare := glo 12 "_law_spare" rfl
  have g__law_b_rows := glo 13 "_law_b_rows" rfl
  have g__law_b_lots := glo 14 "_law_b_lots" rfl
  have g_law := glo 15 "law" rfl
  have g_BadFolders := glo 16 "BadFolders" rfl
  have g_Folders := glo 17 "Folders" rfl
  have e := hfa.symm.trans g_law
  cases e
  obtain ⟨t_LETTERS, k_LETTERS⟩ := He.str_ok X G (c.fact 18 (f := .str "LETTERS" "abcdefghijklmnopqrstuvwxyz") rfl)
  obtain ⟨t_LONGEST_NAME, k_LONGEST_NAME⟩ := He.int_ok X G (c.fact 19 (f := .int "LONGEST_NAME" 8) rfl)
  obtain ⟨t_MOST_FOLDERS, k_MOST_FOLDERS⟩ := He.int_ok X G (c.fact 20 (f := .int "MOST_FOLDERS" 5) rfl)
  obtain ⟨t_MOST_IN_CHAIN, k_MOST_IN_CHAIN⟩ := He.int_ok X G (c.fact 21 (f := .int "MOST_IN_CHAIN" 12) rfl)
  have M_BadFolders := He.meth_ok (c.fact 22 (f := .meth "BadFolders" "__init__") rfl)
  have T_BadFolders : ExT K mg "BadFolders" _ _ "index" := errB_ok xe_BadFolders g_BadFolders (He.noat_ok (c.fact 23 (f := .noat "BadFolders" "index") rfl)) M_BadFolders.at_ (He.exm_ok (c.fact 24 (f := .exm "BadFolders" "BadFolders" true) rfl))
  have cl_Folders := He.cls_ok (c.fact 25 (f := .cls "Folders") rfl)
  have a_Folders_names := He.noat_ok (c.fact 26 (f := .noat "Folders" "names") rfl)
  have a_Folders_chain := He.noat_ok (c.fact 27 (f := .noat "Folders" "chain") rfl)
  have a_Folders_places := He.noat_ok (c.fact 28 (f := .noat "Folders" "places") rfl)
  have r_Folders := He.mkr_ok (c.fact 29 (f := .mkr "Folders") rfl)
  have m_Folders_len := He.meth_ok (c.fact 30 (f := .meth "Folders" "__len__") rfl)
  have m_Folders_contains := He.meth_ok (c.fact 31 (f := .meth "Folders" "__contains__") rfl)
  have m_Folders_eq := He.meth_ok (c.fact 32 (f := .meth "Folders" "__eq__") rfl)
  have m_Folders_lots := He.meth_ok (c.fact 33 (f := .meth "Folders" "lots") rfl)
  have T : FolT K mg _ _ := ⟨g_Folders, cl_Folders, a_Folders_names, a_Folders_chain, a_Folders_places, r_Folders⟩
  obtain ⟨ds, dF, bF⟩ := FunD.binds0 (ps := ["self", "names", "chain"]) F_Folders_init 2 (fun z => by cases z) rfl fun D doc pm an cdv ct us ks hl hk => match us, hl, ks, hk with
    | [_, _], _, [_], _ => ⟨_, _, _, _, _, _, rfl, rfl, rfl⟩
  obtain ⟨mv, bK⟩ := FunD.kbinds0 (ps := ["self", "names", "chain"]) F_Folders_init 2 ["chain"] [] (fun us mz ws => us ++ ws) (fun z => by cases z) (fun _ m => nomatch m) (fun r1 _ r3 => r1.append r3) fun D doc pm an cdv ct us mv ws l1 l2 l3 => match us, l1, mv, l2, ws, l3 with
    | [_, _], _, [], _, [_], _ => rfl
  have bl : ∀ (s : Shared) (v : Value), BindsTo s fd_law ⟨[v], []⟩ [("_law_script", v)] := fun s v => FunD.bindsA (ps := ["_law_script"]) D_law (fun _ _ _ _ _ _ us hl => match us, hl with | [_], _ => rfl) s [v] rfl
  refine ⟨fd_law, bl, fun base _ _ => ?_⟩
  have c_is_list : Cal P w K mg base CX0 1 "is_list" _ fd_is_list ["thing"] (spIsList K) := ⟨ok_is_list B E_is_list, g_is_list, E_is_list.kp, E_is_list.binds (fun _ _ _ _ _ _ us hl => match us, hl with | [_], _ => rfl)⟩
  have c_is_name : Cal P w K mg base CX0 1 "is_name" _ fd_is_name ["thing"] (spIsName K) := ⟨ok_is_name B k_LETTERS k_LONGEST_NAME E_is_name, g_is_name, E_is_name.kp, E_is_name.binds (fun _ _ _ _ _ _ us hl => match us, hl with | [_], _ => rfl)⟩
  have c_first_wrong : Cal P w K mg base CX0 2 "first_wrong" _ fd_first_wrong ["names", "most"] (spFirstWrong K) := ⟨ok_first B c_is_list c_is_name E_first_wrong, g_first_wrong, E_first_wrong.kp, E_first_wrong.binds (fun _ _ _ _ _ _ us hl => match us, hl with | [_, _], _ => rfl)⟩
  have c_choices_of : Cal P w K mg base CX0 1 "choices_of" _ fd_choices_of ["things", "many"] (spChoicesOf K) := ⟨ok_choices_of B E_choices_of, g_choices_of, E_choices_of.kp, E_choices_of.binds (fun _ _ _ _ _ _ us hl => match us, hl with | [_, _], _ => rfl)⟩
  have c_choices : Cal P w K mg base CX0 2 "choices" _ fd_choices ["things"] (spChoices K) := ⟨ok_choices B c_choices_of E_choices, g_choices, E_choices.kp, E_choices.binds (fun _ _ _ _ _ _ us hl => match us, hl with | [_], _ => rfl)⟩
  have c_rows_of_neighbours : Cal P w K mg base CX0 1 "rows_of_neighbours" _ fd_rows_of_neighbours ["names"] spNeigh := ⟨ok_neigh B E_rows_of_neighbours, g_rows_of_neighbours, E_rows_of_neighbours.kp, E_rows_of_neighbours.binds (fun _ _ _ _ _ _ us hl => match us, hl with | [_], _ => rfl)⟩
  have c__law_start : Cal P w K mg base CX0 1 "_law_start" _ fd__law_start ["_law_script"] (spStart K) := ⟨ok_start B E__law_start, g__law_start, E__law_start.kp, E__law_start.binds (fun _ _ _ _ _ _ us hl => match us, hl with | [_], _ => rfl)⟩
  have c__law_draw : Cal P w K mg base CX0 1 "_law_draw" _ fd__law_draw ["_law_stream", "_law_many"] spDraw := ⟨ok_draw B E__law_draw, g__law_draw, E__law_draw.kp, E__law_draw.binds (fun _ _ _ _ _ _ us hl => match us, hl with | [_, _], _ => rfl)⟩
  have c__law_pick : Cal P w K mg base CX0 2 "_law_pick" _ fd__law_pick ["_law_stream", "_law_some"] (spPick K) := ⟨ok_pick B c__law_draw E__law_pick, g__law_pick, E__law_pick.kp, E__law_pick.binds (fun _ _ _ _ _ _ us hl => match us, hl with | [_, _], _ => rfl)⟩
  have b_same : Binds K fd__law_same ["_law_found", "_law_due"] [] := E__law_same.binds (fun _ _ _ _ _ _ us hl => match us, hl with | [_, _], _ => rfl)
  have c__law_same : Cal P w K mg base CX0 5 "_law_same" _ fd__law_same ["_law_found", "_law_due"] (spSame K 4) := ⟨ok_same B E__law_same g__law_same b_same 4, g__law_same, E__law_same.kp, b_same⟩
  have c__law_name : Cal P w K mg base CX0 3 "_law_name" _ fd__law_name ["_law_stream"] spName := ⟨ok_name B c__law_draw c__law_pick E__law_name, g__law_name, E__law_name.kp, E__law_name.binds (fun _ _ _ _ _ _ us hl => match us, hl with | [_], _ => rfl)⟩
  have c__law_names : Cal P w K mg base CX0 4 "_law_names" _ fd__law_names ["_law_stream", "_law_many"] (spNames K) := ⟨ok_names B c__law_name E__law_names, g__law_names, E__law_names.kp, E__law_names.binds (fun _ _ _ _ _ _ us hl => match us, hl with | [_, _], _ => rfl)⟩
  have c__law_spare : Cal P w K mg base CX0 1 "_law_spare" _ fd__law_spare ["_law_names_here"] (spSpare K) := ⟨ok_spare B E__law_spare, g__law_spare, E__law_spare.kp, E__law_spare.binds (fun _ _ _ _ _ _ us hl => match us, hl with | [_], _ => rfl)⟩
  have b_brows : Binds K fd__law_b_rows ["_law_many", "_law_left"] [] := E__law_b_rows.binds (fun _ _ _ _ _ _ us hl => match us, hl with | [_, _], _ => rfl)
  have c__law_b_rows : Cal P w K mg base CX0 7 "_law_b_rows" _ fd__law_b_rows ["_law_many", "_law_left"] (spRows K 6) := ⟨ok_brows B E__law_b_rows g__law_b_rows b_brows 6, g__law_b_rows, E__law_b_rows.kp, b_brows⟩
  have c__law_b_lots : Cal P w K mg base CX0 8 "_law_b_lots" _ fd__law_b_lots ["_law_names_here", "_law_is_chain"] (spBlots K) := ⟨ok_blots B c__law_b_rows E__law_b_lots, g__law_b_lots, E__law_b_lots.kp, E__law_b_lots.binds (fun _ _ _ _ _ _ us hl => match us, hl with | [_, _], _ => rfl)⟩
  have GF := ok_folders (P := P) (w := w) (base := base) B k_MOST_FOLDERS k_MOST_IN_CHAIN T_BadFolders T (ok_BF T_BadFolders E_BadFolders_init) (E_BadFolders_init.binds (fun _ _ _ _ _ _ us hl => match us, hl with | [_, _], _ => rfl)) c_first_wrong c_choices c_rows_of_neighbours F_Folders_init
  have GE := ok_feq (P := P) (w := w) (base := base) B T E_Folders_eq
  have bE : Binds K fd_Folders_eq ["self", "other"] [] := E_Folders_eq.binds (fun _ _ _ _ _ _ us hl => match us, hl with | [_, _], _ => rfl)
  have oE : Own K _ "__eq__" _ := ⟨m_Folders_eq.at_, m_Folders_eq.fn⟩
  have kB : ∀ T ∈ kindsL, PySem.W.kitOne K (.type T) (.ref (He.ga K "Folders")) = some false := fun T mT => of_decide_eq_true (List.all_eq_true.mp m5 T mT)
  have sB : ∀ T ∈ kindsL, PySem.W.subIn K (.ref (He.ga K "Folders")) (.type T) = some false := fun T mT => of_decide_eq_true (List.all_eq_true.mp m6 T mT)
  have nB : ∀ T ∈ kindsL, PySem.W.notFirst K (He.ga K "Folders") (.type T) = true := fun T mT => List.all_eq_true.mp m7 T mT
  have GI := ok_finA (P := P) (w := w) (base := base) B T GE bE oE (sB "str" (by decide)) (kB "str" (by decide)) E_Folders_contains
  exact ok_law B T GF bF dF bK GE bE oE m3 (ok_flen B T E_Folders_len) (E_Folders_len.binds (fun _ _ _ _ _ _ us hl => match us, hl with | [_], _ => rfl)) ⟨m_Folders_len.at_, m_Folders_len.fn⟩ GI (E_Folders_contains.binds (fun _ _ _ _ _ _ us hl => match us, hl with | [_, _], _ => rfl)) ⟨m_Folders_contains.at_, m_Folders_contains.fn⟩ (ok_flots B T E_Folders_lots) (E_Folders_lots.binds (fun _ _ _ _ _ _ us hl => match us, hl with | [_], _ => rfl)) m_Folders_lots (of_decide_eq_true m4) kB sB nB m8 (insB_ok xi_Folders cl_Folders) c__law_start c__law_draw c__law_pick c__law_names c__law_b_lots c__law_spare c__law_same E_law
end Bk
open PySem PySem.W PySem.Calls PyProof.Rows
theorem PySem.Challenge.cw_blockshares_k01_folders_made_holds : PySem.Challenge.rw_blockshares_k01_folders_made.Holds := by
  w_on; o_law
  refine HandSHeadRun.head_any (r := Bk.RowL) (q := view Bk.RowL.prog [26]) (H := Bk.hkL) (ob := Bk.obL) (M := 3000) (d := HandSHeadRun.topDef Bk.RowL.prog 26) (kwd := []) Bk.obL_eq
    (by kernel_rfl) (fun s => by kernel_rfl) Bk.runL (by kernel_rfl) (by kernel_rfl) (by kernel_rfl) (by rfl) (by first | assumption | decide +kernel) (by decide +kernel) ⟨rfl, rfl, rfl, rfl, rfl, by decide +kernel⟩ ?hw ?hc
  case hw => w_witness2
  case hc =>
    refine L2.walk_ofE (l := PySem.Challenge.rw_blockshares_k01_folders_made) (n := 63) (k := 9) (x := "_law_script") (CX := L2.CX0) rfl (by decide) (by kernel_rfl) ⟨rfl, by decide, by decide⟩ ?F (fun _ _ _ _ z => z)
    intro w mg fa h Y G hmg0
    obtain ⟨K, KX, c⟩ := Y
    have hmg : mg ("law" : PySem.Str) = some (.ref fa) := by
      have e : (HandSHeadRun.topDef Bk.RowL.prog 26).name = ("law" : PySem.Str) := by kernel_rfl
      rw [← e]
      exact hmg0
    obtain ⟨fd, hb, hF⟩ := Bk.factsL (P := (PySem.Challenge.rw_blockshares_k01_folders_made).prog) (w := w) KX G hmg c
    exact ⟨K, fd, Bk.spLaw K, KX, hb, fun H a ns hl _ hS => ⟨a, ns, rfl, hS, fun _ => rfl⟩, hF⟩
