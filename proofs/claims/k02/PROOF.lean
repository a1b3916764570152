import PyProof.Rows.All
import Wide.All
import OpenK.AllK
import Wide.FinOn
import HandS.ForMost
import KE.GoesMore
import KE.GoesEnum
import PyProof.Draws
import HandS.DictComp
import HandS.ForExc
import HandS.IsInst
import HandS.Conv
import HandS.MakeKwOnly
import HandS.TupAny
import HandS.Flow
import HandS.Steps
import HandS.Defaults
import HandS.Evl
import HandS.Walk
import HandS.Zip
import HandS.Style
import HandS.ExcInit
import HandS.ExcField
import HandS.Head0
import HandS.Head1
import HandS.Head2
import HandS.HeadEnd
import HandS.HeadHook1
import HandS.HeadHook2
import HandS.HeadHook3
import HandS.HeadHook4
import PySem.Challenge.RW_blockshares_k02_folders_refused
set_option Elab.async false
set_option linter.all false
set_option maxRecDepth 100000
set_option maxHeartbeats 2000000
/-! enumerate over a tuple, in a for or a comprehension: my own rule beside the layer's for lists -/
namespace Bk
open PySem PySem.Spec PyProof.Rows L2
theorem two_le {b n : Nat} (hb : b ∈ [n + 1, n]) : n ≤ b := by
  simp at hb
  omega
/-- a new enumerate object over the iterator at p -/
abbrev enumO (p : Addr) : Obj := { cls := .type "enumerate", data := .fields #[.none, .bool false, .ref p, rawInt 0, .none, .none] }
theorem meets_enum1 {v : Value} {o : Obj} {G : Heap → Prop} (B : Begins v o G) :
    Meets (Builtin.«enumerate.__new__» ⟨[.type "enumerate", v], []⟩) (fun _ R s => G s.heap ∧ R (.ok (.ret (.ref (s.heap.push o).objs.size))) { s with heap := (s.heap.push o).push (enumO s.heap.objs.size) }) := by
  refine .of_wp fun prog w A R s hh => ?_
  obtain ⟨hp, gs, dr, tk, os⟩ := s
  obtain ⟨hG, hR⟩ := hh
  have sb := sub_enumerate
  have it1 : ∀ {A1 : Around} {E1 Q1 : Value → Shared → Prop}, Q1 (.ref hp.objs.size) ⟨hp.push o, gs, dr, tk, os⟩ → wpAny (model prog w) A1 (pyIter v) Q1 E1 ⟨hp, gs, dr, tk, os⟩ := fun z => B.iter prog w _ _ ⟨hp, gs, dr, tk, os⟩ _ hG z
  wp_walk using it1
  refine wpAny_stack_any fun st => wpAny_pure ?_
  split
  · rename_i c _ _ _ _ _
    cases (c == Value.type "enumerate") <;> (wp_walk using it1; exact ⟨_, rfl, hR⟩)
  · wp_walk using it1
    exact ⟨_, rfl, hR⟩
theorem call_enum1 {prog : Program} {w : World} {A : Around} {E : Value → Shared → Prop} {s : Shared} {v : Value} {o : Obj} {G : Heap → Prop} {Q : Value → Shared → Prop} (B : Begins v o G) (hG : G s.heap)
    (h : Q (.ref (s.heap.objs.size + 1)) { s with heap := (s.heap.push o).push (enumO s.heap.objs.size) }) : wpAny (model prog w) A (call (.type "enumerate") [v]) Q E s := by
  refine callType_new F.called_enumerate (by decide) (F.typeCall_enumerate_1 _) (F.newCall_enumerate_1 _) (fun obj => F.args_object_init_2 obj _) F.entry_enumerate_new (meets_enum1 B) ⟨hG, ?_⟩
  have hz : (s.heap.push o).objs.size = s.heap.objs.size + 1 := Heap.size_push ..
  show _ ∧ _
  rw [hz]
  exact ⟨⟨_, by rw [← hz]; exact Heap.get?_push_size _ rfl, rfl⟩, h⟩
/-- the tuple at a as it stands at each turn, each item in a new pair -/
def IteT (K : PySem.W.Frag) (a : Addr) : It :=
  ⟨fun i H => ∃ (xs : List V) (x : V), SqT K H a xs ∧ xs[i]? = some x,
    fun i H v H' => ∃ T x, v = .ref T ∧ H T = none ∧ H' = upd H T (.tup [.int (i : Nat), x]) ∧ ∀ xs, SqT K H a xs → xs[i]? = some x,
    fun i H => ∃ xs : List V, SqT K H a xs ∧ xs.length = i⟩
theorem tup_iter_ne {h : Heap} {a it : Addr} {its : Array Value} {i : Nat} (t : h.IsTuple a its) (u : h.IsTupleIter it a i) : a ≠ it := by
  rintro rfl
  obtain ⟨o, e, c, _⟩ := t
  obtain ⟨o', e', c', _⟩ := u
  rw [e] at e'
  cases e'
  rw [c] at c'
  exact absurd c' (by decide)
theorem turn_enumT {P : Program} {w : World} {K : PySem.W.Frag} {elts : List Expr} {kk : Nat} {tpos : Pos} (a e it : Addr) :
    Turn P w K (.Tuple elts kk tpos) (IteT K a) [e, it] e (fun i h => (∃ old, IsEnum h e it ((i : Nat) : Int) old) ∧ h.IsTupleIter it a i ∧ e ≠ it) where
  mem := List.mem_cons_self
  obj := fun i h st b hb => by
    obtain ⟨⟨old, he⟩, ⟨o, ho, hc, hd⟩, _⟩ := st
    rcases List.mem_cons.mp hb with rfl | hb
    · exact ⟨_, he, fun v q => nomatch q⟩
    · obtain rfl := List.mem_singleton.mp hb
      exact ⟨o, ho, fun v q => by rw [hd] at q; cases q⟩
  keep := fun i h h' st k => ⟨st.1.imp fun old he => k e List.mem_cons_self _ he, st.2.1.at fun o q => k it (List.mem_cons_of_mem _ List.mem_cons_self) o q, st.2.2⟩
  item := by
    rintro X rfl rfl rfl hc i pins s σ H E I hf ⟨⟨old, he⟩, hit, hne⟩ ⟨xs, x, hq, hx⟩
    obtain ⟨its, rv, p, hz⟩ := I.tuple hq
    have p' : s.heap.IsTuple a its.toArray := p
    have hai := tup_iter_ne p' hit
    have hl : i < its.toArray.size := by
      have l1 := rv.length
      have l2 := (List.getElem?_eq_some_iff.mp hx).1
      simp only [List.size_toArray]
      omega
    have hea : e ≠ a := by
      rintro rfl
      obtain ⟨o, e1, c, _⟩ := p'
      rw [show s.heap.get? e = _ from he] at e1
      obtain rfl := Option.some.inj e1
      exact absurd c (show ¬ Value.type "enumerate" = Value.type "tuple" by decide)
    have D := Draws.tuple (prog := X.prog) (w := X.w) (A := X.A.in1) (I.ok.hd hc) it a hai its.toArray
    refine wpAny_pyNext_enum_itemD D he ⟨hit, p'⟩ hl hne (by simp [hne, hea]) fun u h' tk hu ho st' hT hsz hk => ?_
    have ru : RelV x u := by
      obtain ⟨u', hu', ru⟩ := rv.get hx
      have : its[i]? = some u := by simpa using hu
      rw [hu'] at this
      cases this
      exact ru
    have hel : e < s.heap.objs.size := Heap.lt_size he
    have hil : it < s.heap.objs.size := by
      obtain ⟨_, q, _⟩ := hit
      exact Heap.lt_size q
    refine ⟨_, rfl, wpAny_letOwnedTupleGo_enum (s := { s with heap := h', toks := tk + 1 }) ho fun h2 he2 sb => ?_⟩
    have hT2 : h2.get? s.heap.objs.size = some { cls := .type "tuple", data := .seq #[.int i tk, u] } := (sb.2 _ (Nat.ne_of_gt hel)).trans hT
    have new : ObjOk X.prog X.w (upd H s.heap.objs.size (.tup [.int (i : Nat), x])) h2 s.heap.objs.size (.tup [.int (i : Nat), x]) :=
      ⟨by show 2 ≤ sizeLine; decide, [.int i tk, u], .cons ⟨_, rfl⟩ (.cons ru .nil), ⟨_, hT2, rfl, _, rfl⟩⟩
    have I1 := I.turnedNew (t' := tk + 1) (ch := [e, it]) (fun b ob hb q => (sb.2 b (fun z => hb (by simp [z]))).trans (hk b ob (fun z => hb (by simp [z])) (fun z => hb (by simp [z])) q)) hf (Nat.le_refl _) new
    refine ⟨.ref s.heap.objs.size, _, I1, rfl, ⟨_, x, rfl, I.hok.fresh (Nat.le_refl _), rfl, fun ys hy => by rw [I.tuple_inj hy hq]; exact hx⟩, ⟨⟨u, ?_⟩, st'.1.at fun o q => (sb.2 it (Ne.symm hne)).trans q, hne⟩, fun b hb => ?_⟩
    · rw [show ((i + 1 : Nat) : Int) = (i : Int) + 1 by omega]
      exact he2
    · have hlt : b < s.heap.objs.size := by
        rcases List.mem_cons.mp hb with rfl | hb
        · exact hel
        · rw [List.mem_singleton.mp hb]
          exact hil
      rw [upd_ne (Nat.ne_of_lt hlt)]
      exact (hf b hb).1
  done := by
    rintro X rfl rfl rfl hc i pins s σ H E I hf ⟨⟨old, he⟩, hit, hne⟩ ⟨xs, hq, hx⟩
    obtain ⟨its, rv, p, hz⟩ := I.tuple hq
    have p' : s.heap.IsTuple a its.toArray := p
    obtain ⟨f0, f1, f2, f3, f4, f5⟩ := hf it (List.mem_cons_of_mem _ List.mem_cons_self)
    have l1 := rv.length
    have en : i = its.toArray.size := by
      simp only [List.size_toArray]
      omega
    have hit' : s.heap.IsTupleIter it a its.toArray.size := en ▸ hit
    have D := Draws.tuple (prog := X.prog) (w := X.w) (A := X.A.in1) (I.ok.hd hc) it a (tup_iter_ne p' hit) its.toArray
    exact wpAny_pyNext_enum_endD D he ⟨hit', p'⟩ fun h' eb => ⟨rfl, I.turned (t' := s.toks) (fun b o hb q => eb b o hb q) f0 f1 f3 f4 f5⟩
  self := fun A i s Q E st h => wpAny_pyIter_enum st.1.choose_spec h
/-- enumerate(xs), xs a list or a tuple -/
def iEnS (K : PySem.W.Frag) (ta : TA) : TI := fun σ H R => ta σ H fun vs H1 => ∃ a, vs = [.ref a] ∧ ((∃ xs, SqL K H1 a xs ∧ R (Ite K a) H1) ∨ (∃ xs, SqT K H1 a xs ∧ R (IteT K a) H1))
theorem pi_enS {X : Cx} {e : Expr} {ta : TA} {p pos tpos : Pos} {elts : List Expr} {kk : Nat} (hg : Gl X "enumerate") (hm : X.mg "enumerate" = none) (ha : PA X [e] ta) (hs : starEach [e] X.env = [(false, eval e X.env)] := by rfl) :
    PI X (.Tuple elts kk tpos) (.Call (.Name "enumerate" p) [e] [] pos) (iEnS X.K ta) := by
  refine ⟨fun pins s σ H R I h => Call_ (ld_blt I hg hm boot_enumerate (PyProof.Rows.callWith_type1 (thn (ha.run pos pins s σ H _ I h) fun us s1 ⟨vs, H1, I1, r1, a, ev, q⟩ => ?_) hs rfl))⟩
  subst ev
  obtain ⟨u, rfl, r⟩ : ∃ u, us = [u] ∧ RelV (.ref a) u := by
    cases r1 with
    | cons r rr => cases rr; exact ⟨_, rfl, r⟩
  cases (show u = Value.ref a from r)
  rcases q with ⟨xs, hq, q⟩ | ⟨xs, hq, q⟩
  · obtain ⟨its, rv, p', hz⟩ := I1.list hq
    refine call_enumerate_list p'.isList fun h' he hit hsz hk => wpAny_pyIter_enum he ?_
    have I2 : Inv X pins σ H1 { s1 with heap := h' } := I1.kept (t' := s1.toks) hk
    refine ⟨s1.heap.objs.size + 1, [s1.heap.objs.size + 1, s1.heap.objs.size], _, _, H1, rfl, I2, turn_enum a _ s1.heap.objs.size, ⟨⟨.none, he⟩, hit, Nat.succ_ne_self _⟩, fun b hb => ?_, q⟩
    have hle : s1.heap.objs.size ≤ b := two_le hb
    exact I1.fpOk hle (I1.hok.fresh hle)
  · obtain ⟨its, rv, p', hz⟩ := I1.tuple hq
    have pt : s1.heap.IsTuple a its.toArray := p'
    generalize ho : ({ cls := .type "tuple_iterator", data := .fields #[.ref a, .int 0 0] } : Obj) = oi
    have hz1 : (s1.heap.push oi).objs.size = s1.heap.objs.size + 1 := Heap.size_push ..
    have kk1 : ∀ b o, s1.heap.get? b = some o → ((s1.heap.push oi).push (enumO s1.heap.objs.size)).get? b = some o := fun b o x => Heap.get?_push_of_some _ (Heap.get?_push_of_some _ x)
    have he : IsEnum ((s1.heap.push oi).push (enumO s1.heap.objs.size)) (s1.heap.objs.size + 1) s1.heap.objs.size ((0 : Nat) : Int) .none := by
      rw [← hz1]
      exact Heap.get?_push_size _ rfl
    have hit : ((s1.heap.push oi).push (enumO s1.heap.objs.size)).IsTupleIter s1.heap.objs.size a 0 := by
      refine ⟨oi, Heap.get?_push_of_some _ (Heap.get?_push_size _ (by rw [← ho]; rfl)), ?_, ?_⟩ <;> rw [← ho] <;> rfl
    have I2 : Inv X pins σ H1 { s1 with heap := (s1.heap.push oi).push (enumO s1.heap.objs.size) } := I1.kept (t' := s1.toks) kk1
    refine call_enum1 (o := oi) (ho ▸ begins_tuple a its.toArray) pt (wpAny_pyIter_enum he ?_)
    refine ⟨s1.heap.objs.size + 1, [s1.heap.objs.size + 1, s1.heap.objs.size], _, _, H1, rfl, I2, turn_enumT a _ s1.heap.objs.size, ⟨⟨.none, he⟩, hit, Nat.succ_ne_self _⟩, fun b hb => ?_, q⟩
    have hle : s1.heap.objs.size ≤ b := two_le hb
    exact I1.fpOk hle (I1.hok.fresh hle)
end Bk

set_option maxHeartbeats 4000000
/-! a dict comprehension whose keys are tuples (of ints and texts): beside the layer's, whose keys are ints and texts -/
namespace Bk
open PySem PySem.Spec PyProof.Rows L2
/-- a comprehension's store, by a key that is a tuple -/
theorem put_tup {X : Cx} {pins : List (Addr × Obj)} {σ : L2.St} {H : Hp} {s : Shared} {E : Value → Shared → Prop} {D b : Addr} {kvs : List (List Key × V)} {k : List Key} {v : V} {u r : Value} {Q : Unit → Shared → Prop} (hu : X.A.units < cLine) (I : Inv X pins σ H s)
    (hD : H D = some (.dT kvs)) (hz : kvs.length < sizeLine) (hb : H b = some (.tup (k.map kV))) (ry : RelV (.ref b) u) (rv : RelV v r) (h : ∀ s', Inv X pins σ (upd H D (.dT (putK kvs k v))) s' → Q () s') : wpAny (model X.prog X.w) X.A (dictSet D u r) Q E s := by
  cases (show u = Value.ref b from ry)
  obtain ⟨z, hd, xs, rel, dd⟩ := dt_of I.hok hD
  have len1 : xs.length ≤ sizeLine := (Paired.length rel) ▸ z
  have len2 := length_putK kvs k v
  refine wpAny_dictSet_heap (hsz := len1) (knd := tupleKind (mixKind X.prog X.w)) hu (key_of I.hok hb) dd fun h' dd' same => h _ ?_
  obtain ⟨q, es, ep, hq, h2, h3, h4, _, h5⟩ := dd'
  refine d_write I (by rw [hD]; exact True.intro) same ⟨q, hq⟩ ⟨by omega, hd, _, (rel.put k hb rv).keeps fun c ys ec => ?_, q, es, ep, hq, h2, h3, h4, h5⟩
  rwa [upd_ne (ne_of ec hD (fun z => nomatch z))]
section
variable {X : Cx}
/-- {k: v for target in iter}, the keys tuples: D the new dict -/
def tDcT (wi : TI) (g : TG) (tk tv : TE) (vs : List Nat) : TE := fun σ H Q => wi σ H fun J H1 => ∀ D, H1 D = none → ∃ W : Nat → Nat → Hp → Prop, (∃ m, W 0 m (upd H1 D (.dT []))) ∧ ∀ i m H, W i m H →
  (J.stop i H ∧ Q (.ref D) H) ∨ (J.go i H ∧ ∃ Nx : Hp → Prop, (∀ H', Nx H' → ∃ m', m' < m ∧ W (i + 1) m' H') ∧ ∀ x H', J.yld i H x H' → g x (wipe σ vs) H' fun σ2 H2 => wipe σ2 vs = wipe σ vs ∧
    tk σ2 H2 fun y H4 => tv σ2 H4 fun z H5 => ∃ kvs k b, y = .ref b ∧ H5 b = some (.tup (k.map kV)) ∧ H5 D = some (.dT kvs) ∧ kvs.length < sizeLine ∧ Nx (upd H5 D (.dT (putK kvs k z))))
theorem pe_dcT {kx vx tg iter : Expr} {scope : Scope} {own : List (Str × Nat)} {pos : Pos} {wi : TI} {g : TG} {tk tv : TE} (hu : X.A.units < cLine) (hc : X.calm = true) (hN : X.N.Nodup) (hi : PI X tg iter wi) (ok : BlkOk X.N X.env.scope scope own)
    (hg : ∀ (s : Shared) (H : Hp) (C : Addr) (cl : List (Str × Addr)) (fp : List Addr), PG (X.blk s H scope (compEnvC scope cl C X.env) fp) tg g)
    (hk : ∀ (s : Shared) (H : Hp) (C : Addr) (cl : List (Str × Addr)) (fp : List Addr), PE (X.blk s H scope (compEnvC scope cl C X.env) fp) kx tk)
    (he : ∀ (s : Shared) (H : Hp) (C : Addr) (cl : List (Str × Addr)) (fp : List Addr), PE (X.blk s H scope (compEnvC scope cl C X.env) fp) vx tv) (hs : ∀ x, foldedSetIterable iter X.env x = pure x := by intro _; rfl) :
    PE X (.DictComp kx vx [⟨tg, iter, [], 0⟩] scope pos) (tDcT wi g tk tv (own.map (·.2))) := by
  refine ⟨fun pins s σ H Q I h => ?_⟩
  rw [arm_eval_DictComp]
  have fr : ∀ y ∈ scope.names, y.2 = .free → ∃ c, X.env.cells.lookup y.1 = some c := fun y hy e => (ok.free y hy e).elim (fun k => I.ok.has _ (.inl k)) fun k => I.ok.has _ (.inr k)
  refine wpAny_comprehension_free rfl hs (closure_ok fr) ok.kind (fun y hy e => by rw [ok.uniq y hy, e]) (thn (hi.run pins s σ H _ I h) fun xv s1 hx => thn hx fun itv s2 h2 => ?_)
  obtain ⟨it, fp, tn, J, H2, rfl, I2, T, st2, f2, q⟩ := h2
  refine wpAny_newObj_type (newEnv_comp ?_)
  -- the new dict stands at D
  obtain ⟨D, hD⟩ : ∃ D, D = s2.heap.objs.size := ⟨_, rfl⟩
  obtain ⟨W, ⟨m0, w0⟩, turn⟩ := q D (I2.hok.fresh (Nat.le_of_eq hD.symm))
  obtain ⟨s3, hs3⟩ : ∃ s3 : Shared, s3 = { s2 with heap := s2.heap.push { cls := .type "dict", data := .dict #[] } } := ⟨_, rfl⟩
  have hh3 : s3.heap = s2.heap.push { cls := .type "dict", data := .dict #[] } := by rw [hs3]
  have k3 : ∀ b o, s2.heap.get? b = some o → s3.heap.get? b = some o := fun b o e => by rw [hh3]; exact Heap.get?_push_of_some _ e
  have I3 : Inv X pins σ (upd H2 D (.dT [])) s3 := by
    subst hs3 hD
    exact I2.laid (t' := s2.toks) (fun b o e => Heap.get?_push_of_some _ e) (Nat.le_refl _) (dt_empty s2.heap I2.big)
  have young : ∀ b ∈ fp, b < s2.heap.objs.size := fun b hb => (T.obj _ _ st2 b hb).elim fun o e => Heap.lt_size e.1
  have f3 : ∀ b ∈ fp, FpOk X pins (upd H2 D (.dT [])) b ∧ b < s3.heap.objs.size := fun b hb => by
    refine ⟨⟨?_, (f2 b hb).2⟩, by rw [hh3, Heap.size_push]; exact Nat.lt_succ_of_lt (young b hb)⟩
    rw [upd_ne (by rw [hD]; exact Nat.ne_of_lt (young b hb))]
    exact (f2 b hb).1
  have st3 : tn 0 s3.heap := T.keep _ _ _ st2 fun b _ => k3 b
  rw [← hs3]
  obtain ⟨H3, hH3⟩ : ∃ H3, H3 = upd H2 D (.dT []) := ⟨_, rfl⟩
  rw [← hH3] at I3 f3 w0
  have I4 := block_start I3 ok hN f3
  let cl := cellsFrom (s3.heap.objs.size + 1) scope.names (cloFrom X.env.cells scope.names [])
  have pg := hg s3 H3 s3.heap.objs.size cl fp
  have pk := hk s3 H3 s3.heap.objs.size cl fp
  have pe := he s3 H3 s3.heap.objs.size cl fp
  show codeAny _ _ (.compStart (.DictComp kx vx [⟨tg, iter, [], 0⟩] scope pos) 0 (.ref it) (.ref s2.heap.objs.size) (compEnvC scope cl s3.heap.objs.size X.env)) (compPost (model X.prog X.w) X.A X.xe none _ (.ref s2.heap.objs.size) s3.heap.objs.size) { s3 with heap := pushCells (s3.heap.push { cls := .type "dict", data := .dict #[] }) scope.names }
  rw [← hD]
  obtain ⟨ce, hce⟩ : ∃ ce, ce = compEnvC scope cl s3.heap.objs.size X.env := ⟨_, rfl⟩
  have cL : ce.locals = s3.heap.objs.size := by rw [hce]; rfl
  have I4' : Inv (X.blk s3 H3 scope ce fp) [] (wipe σ (own.map (·.2))) H3 { s3 with heap := pushCells (s3.heap.push { cls := .type "dict", data := .dict #[] }) scope.names } := by rw [hce]; exact I4
  rw [← hce] at pg pk pe ⊢
  clear I4
  obtain ⟨s4, hs4⟩ : ∃ s4 : Shared, s4 = { s3 with heap := pushCells (s3.heap.push { cls := .type "dict", data := .dict #[] }) scope.names } := ⟨_, rfl⟩
  rw [← hs4] at I4' ⊢
  have st4 : tn 0 s4.heap := T.keep _ _ _ st3 fun b _ o e => by rw [hs4]; exact pushCells_keeps _ _ _ _ (Heap.get?_push_of_some _ e)
  have stat : ∀ {σ' : L2.St} {H' : Hp} {s' : Shared}, Inv (X.blk s3 H3 scope ce fp) [] σ' H' s' → (∀ b ∈ fp, H' b = none) → ∀ b ∈ fp, FpOk (X.blk s3 H3 scope ce fp) [] H' b := fun I' hn b hb =>
    ⟨hn b hb, (I'.ok.exf b hb).1, I'.ok.exfs b hb, .inl hb, fun x c e => (I'.ok.exf b hb).2 x c e, fun p hp => by simp at hp⟩
  suffices loop : codeAny (model X.prog X.w) X.A (.compLoop (.DictComp kx vx [⟨tg, iter, [], 0⟩] scope pos) 0 (.ref it) (.ref D) ce) (compPost (model X.prog X.w) X.A X.xe none (EP X pins σ Q) (.ref D) s3.heap.objs.size) s4 from
    codeAny_compStart_dict loop (T.self X.A 0 _ _ _ st4 loop)
  refine compLoop_anyD (fun n s' => ∃ i H', Inv (X.blk s3 H3 scope ce fp) [] (wipe σ (own.map (·.2))) H' s' ∧ tn i s'.heap ∧ (∀ b ∈ fp, H' b = none) ∧ W i n H') ?_ m0 ⟨0, H3, I4', st4, fun b hb => (f3 b hb).1.1, w0⟩
  rintro n s5 ⟨i, H5, I5, st5, n5, w5⟩
  rcases turn i n H5 w5 with ⟨stop, qq⟩ | ⟨go, Nx, hNx, step⟩
  · refine thnF (T.done (X.blk s3 H3 scope ce fp) rfl rfl rfl hc i [] s5 _ H5 (fun _ _ => False) I5 (stat I5 n5) st5 stop) fun r s6 ⟨hr, I6⟩ => ?_
    subst hr
    have I7 : Inv X pins σ H5 s6 := I3.call' (ch := fp) I6.os I6.base I6.hok I6.bare fun b hb => ⟨(f3 b hb).1.2.2.2.1, (f3 b hb).1.2.1, (f3 b hb).1.2.2.2.2.1, (f3 b hb).1.2.2.2.2.2⟩
    obtain ⟨m, hn, _⟩ := I6.loc
    refine ⟨m, by rw [← cL]; exact hn, fun h'' sb => ?_⟩
    obtain ⟨g0, g1, g2, g3, g4, g5⟩ := I3.fpOk (H' := H5) (Nat.le_refl _) (by rw [← cL]; exact I6.free)
    exact ⟨.ref D, H5, I7.turned (t' := s6.toks) (fun b o hb e => (sb.2 b hb).trans e) g0 g1 g3 g4 g5, rfl, qq⟩
  · refine thnF (T.item (X.blk s3 H3 scope ce fp) rfl rfl rfl hc i [] s5 _ H5 (fun _ _ => False) I5 (stat I5 n5) st5 go) fun r s6 ⟨u, hr, h6⟩ => ?_
    subst hr
    refine thnF h6 fun _ s7 ⟨x, H7, I7, r7, y7, st7, n7⟩ => ?_
    have I7' := I7.pinned (stat I7 n7) (T.obj _ _ st7)
    refine thnF (pg.run _ s7 _ H7 x u _ I7' r7 (step x H7 y7)) fun _ s8 ⟨σ8, H8, I8, hw8, q8⟩ => ?_
    refine wpAny_tests_nil ?_
    simp only [if_true]
    refine thnF (pk.run _ s8 σ8 H8 _ I8 q8) fun z s10 ⟨yk, H10, I10, r10, q10⟩ => ?_
    refine thnF (pe.run _ s10 σ8 H10 _ I10 q10) fun z2 s11 ⟨yv, H11, I11, r11, kvs, k, b, ek, hb11, hD11, hz11, nx⟩ => ?_
    subst ek
    refine put_tup (X := X.blk s3 H3 scope ce fp) hu I11 hD11 hz11 hb11 r10 r11 fun s12 I12 => ?_
    obtain ⟨m', hm, w'⟩ := hNx _ nx
    have pin' : ∀ b ∈ fp, ∀ o, s7.heap.get? b = some o → s12.heap.get? b = some o ∧ (upd H11 D (.dT (putK kvs k yv))) b = none := fun b hb o e =>
      have z := I12.pin (b, o) (List.mem_append_right _ (List.mem_append_right _ (mem_pinsAt hb e)))
      ⟨z.1, z.2.1⟩
    refine ⟨m', hm, i + 1, _, (I12.unpinned (pins := [])).weak (by rw [← hw8, wipe_length]) (fun j v e => ?_), T.keep _ _ _ st7 fun b hb o e => (pin' b hb o e).1, fun b hb => ?_, w'⟩
    · rw [← hw8] at e
      exact (wipe_some e).1
    · obtain ⟨o, e, _⟩ := T.obj _ _ st7 b hb
      exact (pin' b hb o e).2
end
end Bk

namespace Bk
open PySem PySem.Spec PyProof.Rows L2
/-! ### heaps -/
theorem same_upd {H : Hp} {p : Addr} {o : HO} (h : H p = none) : Same H (upd H p o) := fun b x e => by
  rw [upd_ne (ne_of_none e h)]
  exact e
theorem Same.sqt {K : PySem.W.Frag} {H H' : Hp} {a : Addr} {xs : List V} (e : Same H H') (h : SqT K H a xs) : SqT K H' a xs := by
  rcases h with (h | ⟨o, h⟩) | h
  · exact .inl (.inl (e _ _ h))
  · exact .inl (.inr ⟨o, e _ _ h⟩)
  · exact .inr h
/-- a new object grows while all else stays -/
theorem Same.grow {H H' : Hp} {p : Addr} {o : HO} (e : Same H H') (h : H p = none) : Same H (upd H' p o) := fun b x q => by
  rw [upd_ne (ne_of_none q h)]
  exact e b x q
/-- all but the stream is as it was -/
def Kept (st c : Addr) (H H' : Hp) : Prop := ∀ b o, b ≠ st → b ≠ c → H b = some o → H' b = some o
theorem Kept.refl (st c : Addr) (H : Hp) : Kept st c H H := fun _ _ _ _ e => e
theorem Kept.trans {st c : Addr} {H H1 H2 : Hp} (a : Kept st c H H1) (b : Kept st c H1 H2) : Kept st c H H2 := fun x o n m e => b x o n m (a x o n m e)
theorem Same.kept {st c : Addr} {H H' : Hp} (a : Same H H') : Kept st c H H' := fun x o _ _ e => a x o e
/-! ### the stream of drawn numbers: at st, its cells at c; n bounds the draws so far -/
structure Strm (H : Hp) (st c : Addr) (n : Nat) : Prop where
  ne : c ≠ st
  ex : ∃ (cells : List Int) (a k m : Int), H c = some (.lst (cells.map V.int)) ∧ H st = some (.lst [.ref c, .int a, .int k, .int m]) ∧ 0 ≤ a ∧ 0 ≤ k ∧ k ≤ (n : Int) ∧ 0 ≤ m ∧ m < 2147483647
theorem Strm.more {H : Hp} {st c : Addr} {n n' : Nat} (S : Strm H st c n) (h : n ≤ n') : Strm H st c n' := by
  obtain ⟨ne, cells, a, k, m, h1, h2, h3, h4, h5, h6, h7⟩ := S
  exact ⟨ne, cells, a, k, m, h1, h2, h3, h4, by omega, h6, h7⟩
theorem Strm.same {H H' : Hp} {st c : Addr} {n : Nat} (S : Strm H st c n) (h : Same H H') : Strm H' st c n := by
  obtain ⟨ne, cells, a, k, m, h1, h2, h3⟩ := S
  exact ⟨ne, cells, a, k, m, h _ _ h1, h _ _ h2, h3⟩
theorem Strm.notfree {H : Hp} {st c : Addr} {n : Nat} (S : Strm H st c n) {p : Addr} (h : H p = none) : p ≠ st ∧ p ≠ c := by
  obtain ⟨ne, cells, a, k, m, h1, h2, h3⟩ := S
  exact ⟨fun e => (ne_of_none h2 h) e.symm, fun e => (ne_of_none h1 h) e.symm⟩
/-- what was free and is tracked behind is no part of the stream -/
theorem Kept.upd {H H' : Hp} {st c : Addr} {n : Nat} {p : Addr} {o : HO} (S : Strm H st c n) (k : Kept st c H H') (h : H p = none) : Kept st c H (L2.upd H' p o) := fun b x n1 n2 e => by
  rw [upd_ne (ne_of_none e h)]
  exact k b x n1 n2 e
theorem Strm.upd {H : Hp} {st c : Addr} {n : Nat} {p : Addr} {o : HO} (S : Strm H st c n) (h1 : p ≠ st) (h2 : p ≠ c) : Strm (L2.upd H p o) st c n := by
  obtain ⟨ne, cells, a, k, m, e1, e2, e3⟩ := S
  exact ⟨ne, cells, a, k, m, by rw [upd_ne h2.symm]; exact e1, by rw [upd_ne h1.symm]; exact e2, e3⟩
theorem Kept.free {H H' : Hp} {st c p : Addr} (k : Kept st c H H') (h : H' p = none) (n1 : p ≠ st) (n2 : p ≠ c) : H p = none := by
  cases e : H p with
  | none => rfl
  | some o =>
    rw [k p o n1 n2 e] at h
    cases h
theorem Kept.grow {H H' : Hp} {st c p : Addr} {o : HO} (k : Kept st c H H') (h : H p = none) : Kept st c H (L2.upd H' p o) := fun b x n1 n2 e => by
  rw [upd_ne (ne_of_none e h)]
  exact k b x n1 n2 e
/-! ### names that the program's top leaves -/
structure Bi (mg : Str → Option Value) : Prop where
  len : mg "len" = none
  list : mg "list" = none
  tuple : mg "tuple" = none
  isinstance : mg "isinstance" = none
  all : mg "all" = none
  any : mg "any" = none
  zip : mg "zip" = none
  enumerate : mg "enumerate" = none
  range : mg "range" = none
  int : mg "int" = none
  str : mg "str" = none
  bool : mg "bool" = none
  dict : mg "dict" = none
  abs : mg "abs" = none
/-- a def that can be called by its name -/
structure Cal (P : Program) (w : World) (K : PySem.W.Frag) (mg : Str → Option Value) (base : Heap) (CX : CXT) (k : Nat) (x : Str) (f : Addr) (fd : FuncData) (ps : List Str) (sp : Sp) : Prop where
  ok : FnOk P w K mg base CX k f fd ps sp
  g : mg x = some (.ref f)
  kp : PySem.W.keepIn K (.ref f) = true
  b : Binds K fd ps []
/-! ### what is a name -/
def lettersL : List Nat := (Str.ofString "abcdefghijklmnopqrstuvwxyz").cps.toList
theorem letters_mem (c : Nat) : c ∈ lettersL ↔ 97 ≤ c ∧ c ≤ 122 := by
  rw [show lettersL = List.range' 97 26 by decide +kernel, List.mem_range'_1]
  omega
def isNameS (z : Str) : Bool := decide (1 ≤ z.length) && decide (z.length ≤ 8) && z.cps.toList.all fun c => decide (c ∈ lettersL)
def isNameB : V → Bool
  | .str z => isNameS z
  | _ => false
def isStr : V → Bool
  | .str _ => true
  | _ => false
/-- any object, as far as isinstance with str asks -/
def Itm (K : PySem.W.Frag) (H : Hp) (x : V) : Prop := ∃ t, TyX K H x t ∧ PySem.W.kitOne K t (.type "str") = some (isStr x) ∧ ∀ z, x = .str z → z.length ≤ 100000
/-- any object, as far as isinstance with (list, tuple) asks: b tells whether it is one of them -/
def Sqs (K : PySem.W.Frag) (H : Hp) (x : V) (b : Bool) : Prop := ∃ t, TyX K H x t ∧ PySem.W.kitAny K t [.type "list", .type "tuple"] = some b
theorem Itm.str {K : PySem.W.Frag} {H : Hp} {z : Str} (h : z.length ≤ 100000) : Itm K H (.str z) := ⟨.type "str", .base (.str z), kit_ty (show kitB "str" "str" = some true by decide +kernel), fun _ e => by cases e; exact h⟩
theorem TyX.same {K : PySem.W.Frag} {H H' : Hp} {x : V} {t : Value} (h : TyX K H x t) (e : Same H H') : TyX K H' x t := by
  cases h with
  | base b =>
    cases b with
    | non => exact .base .non
    | bl y => exact .base (.bl y)
    | int i => exact .base (.int i)
    | str y => exact .base (.str y)
    | flt y => exact .base (.flt y)
    | lst q => exact .base (.lst (e _ _ q))
    | frz q => exact .base (.frz (e _ _ q))
    | tup q => exact .base (.tup (e _ _ q))
    | dK q => exact .base (.dK (e _ _ q))
    | dT q => exact .base (.dT (e _ _ q))
    | ins q c1 c2 c3 c4 c5 => exact .base (.ins (e _ _ q) c1 c2 c3 c4 c5)
  | byt b => exact .byt b
  | set q => exact .set (e _ _ q)
  | kList q c => exact .kList q c
  | kTuple q c => exact .kTuple q c
  | kDict q c => exact .kDict q c
  | fTuple q => exact .fTuple (e _ _ q)
  | fDict q => exact .fDict (e _ _ q)
/-! ### promises -/
def spStart (K : PySem.W.Frag) : Sp := fun vs H Q _ => ∃ (a : Addr) (ns : List Int), vs = [.ref a] ∧ SqL K H a (ns.map V.int) ∧
  ∀ (st c : Addr) (H' : Hp), Same H H' → H st = none → H c = none → Strm H' st c 0 → Q (.ref st) H'
def spDraw : Sp := fun vs H Q _ => ∃ (st c : Addr) (n : Nat) (k : Int), vs = [.ref st, .int k] ∧ Strm H st c n ∧ n ≤ 1000000 ∧ 0 < k ∧ k < 1000000 ∧
  ∀ (d : Int) (H' : Hp), 0 ≤ d → d < k → Strm H' st c (n + 1) → Kept st c H H' → Q (.int d) H'
/-- what one may pick from: a list, a tuple, a text -/
inductive Pk (K : PySem.W.Frag) (H : Hp) (st c : Addr) : V → Nat → (Nat → V) → Prop where
  | lst {a : Addr} {xs : List V} {f : Nat → V} (h : SqL K H a xs) (n1 : a ≠ st) (n2 : a ≠ c) (e : ∀ j, j < xs.length → xs[j]? = some (f j)) : Pk K H st c (.ref a) xs.length f
  | tup {a : Addr} {xs : List V} {f : Nat → V} (h : SqT K H a xs) (n1 : a ≠ st) (n2 : a ≠ c) (e : ∀ j, j < xs.length → xs[j]? = some (f j)) : Pk K H st c (.ref a) xs.length f
  | str {z : Str} {f : Nat → V} (hz : z.length ≤ sizeLine) (e : ∀ j, j < z.length → ∃ ch, z.cps.toList[j]? = some ch ∧ f j = .str ⟨#[ch]⟩) : Pk K H st c (.str z) z.length f
def spPick (K : PySem.W.Frag) : Sp := fun vs H Q _ => ∃ (st c : Addr) (n len : Nat) (x : V) (f : Nat → V), vs = [.ref st, x] ∧ Strm H st c n ∧ n ≤ 1000000 ∧ 0 < len ∧ len < 1000000 ∧ Pk K H st c x len f ∧
  ∀ (j : Nat) (H' : Hp), j < len → Strm H' st c (n + 1) → Kept st c H H' → Q (f j) H'
def spIsList (K : PySem.W.Frag) : Sp := fun vs H Q _ => ∃ (x : V) (b : Bool), vs = [x] ∧ Sqs K H x b ∧ ∀ H', Same H H' → Q (.bl b) H'
def spIsName (K : PySem.W.Frag) : Sp := fun vs H Q _ => ∃ x : V, vs = [x] ∧ Itm K H x ∧ ∀ H', Same H H' → Q (.bl (isNameB x)) H'
def spName : Sp := fun vs H Q _ => ∃ (st c : Addr) (n : Nat), vs = [.ref st] ∧ Strm H st c n ∧ n ≤ 900000 ∧
  ∀ (z : Str) (H' : Hp), isNameS z = true → Strm H' st c (n + 9) → Kept st c H H' → Q (.str z) H'
def spNames (K : PySem.W.Frag) : Sp := fun vs H Q _ => ∃ (st c : Addr) (n many : Nat), vs = [.ref st, .int (many : Int)] ∧ Strm H st c n ∧ n ≤ 800000 ∧ many ≤ 16 ∧
  ∀ (l : Addr) (zs : List Str) (H' : Hp), H l = none → zs.length = many → zs.Nodup → (∀ z ∈ zs, isNameS z = true) → Strm H' st c (n + 200) → Kept st c H H' → H' l = some (.lst (zs.map V.str)) → Q (.ref l) H'
theorem dp_ints {K : PySem.W.Frag} {H : Hp} : ∀ l : List Int, DpAll K H (l.map V.int) (l.map PyData.int)
  | [] => .nil
  | x :: r => .cons (.int x) (dp_ints r)
theorem lay_ints : ∀ l : List Int, PyData.canLayAll0 (l.map PyData.int) = true
  | [] => by simp [PyData.canLayAll0]
  | x :: r => by
    have := lay_ints r
    simp [PyData.canLayAll0, PyData.canLay0, this]
theorem depth_ints : ∀ l : List Int, PyData.depthAll (l.map PyData.int) = 0
  | [] => by simp [PyData.depthAll]
  | x :: r => by
    have := depth_ints r
    simp [PyData.depthAll, PyData.depth, this]
theorem shaped_ints (l : List Int) : SeqAt.shaped (.list (l.map PyData.int)) = true := by
  have h1 := lay_ints l
  have h2 := depth_ints l
  simp [SeqAt.shaped, PyData.canLay0, PyData.depth, h1, h2]
theorem eqv_nil (l : List Int) : PyData.eqv (.list (l.map PyData.int)) (.list []) = l.isEmpty := by
  cases l <;> simp [PyData.eqv, PyData.eqvAll]
theorem yes2 {σ : L2.St} {H : Hp} {A B : Hp → Prop} (h : A H) : tYes σ H (fun b H3 => if b = true then A H3 else B H3) := by
  show (if true = true then A H else B H)
  rw [if_pos rfl]
  exact h
theorem take_succ_map {α β : Type} {l : List α} {f : α → β} {i : Nat} {x : α} (h : l[i]? = some x) : (l.take (i + 1)).map f = (l.take i).map f ++ [f x] := by
  obtain ⟨h1, rfl⟩ := List.getElem?_eq_some_iff.mp h
  rw [List.take_add_one, h, List.map_append]
  rfl
/-- the first turns of a comprehension that keeps each item -/
structure Upto {α : Type} (H : Hp) (D : Addr) (l : List α) (f : α → V) (i : Nat) (H' : Hp) : Prop where
  sm : Same H H'
  at_ : H' D = some (.lst ((l.take i).map f))
theorem Upto.zero {α : Type} {H : Hp} {D : Addr} {l : List α} {f : α → V} (h : H D = none) : Upto H D l f 0 (upd H D (.lst [])) := ⟨same_upd h, upd_same⟩
theorem Upto.next {α : Type} {H H' H2 : Hp} {D : Addr} {l : List α} {f : α → V} {i : Nat} {x : α} (u : Upto H D l f i H') (nD : H D = none) (hx : l[i]? = some x) (s2 : Same H' H2) (hl : l.length ≤ 100000) :
    ∃ acc, H2 D = some (.lst acc) ∧ acc.length < sizeLine ∧ Upto H D l f (i + 1) (upd H2 D (.lst (acc ++ [f x]))) := by
  have hi := (List.getElem?_eq_some_iff.mp hx).1
  refine ⟨_, s2 _ _ u.at_, Evl.sz_lt ?_, Same.grow (u.sm.trans s2) nD, ?_⟩
  · rw [List.length_map, List.length_take]
    omega
  · rw [upd_same, take_succ_map hx]
theorem Upto.all {α : Type} {H H' : Hp} {D : Addr} {l : List α} {f : α → V} {n : Nat} (u : Upto H D l f n H') (e : n = l.length) : H' D = some (.lst (l.map f)) := by
  rw [u.at_, e, List.take_length]
theorem inV_strs (z : Str) : ∀ zs : List Str, inV (.str z) (zs.map V.str) = decide (z ∈ zs)
  | [] => rfl
  | x :: r => by
    have ih := inV_strs z r
    unfold inV at ih ⊢
    rw [List.map_cons, List.any_cons, ih]
    show ((x == z) || decide (z ∈ r)) = decide (z ∈ x :: r)
    by_cases e : x = z
    · subst e
      simp
    · have e2 : ¬ z = x := fun q => e q.symm
      rw [beq_eq_false_iff_ne.mpr e, Bool.false_or]
      simp [e2]
theorem flat_strs : ∀ zs : List Str, (zs.map V.str).all flatV = true
  | [] => rfl
  | x :: r => by
    rw [List.map_cons, List.all_cons, flat_strs r]
    rfl
theorem pigeon {α : Type} [DecidableEq α] : ∀ (a b : List α), a.Nodup → (∀ x ∈ a, x ∈ b) → a.length ≤ b.length
  | [], _, _, _ => Nat.zero_le _
  | x :: r, b, hn, hs => by
    have hx := hs x List.mem_cons_self
    obtain ⟨n1, n2⟩ := List.nodup_cons.mp hn
    have ih := pigeon r (b.erase x) n2 fun y hy => (List.mem_erase_of_ne (fun (e : y = x) => n1 (e ▸ hy))).mpr (hs y (List.mem_cons_of_mem _ hy))
    rw [List.length_erase_of_mem hx] at ih
    have : 0 < b.length := List.length_pos_of_mem hx
    rw [List.length_cons]
    omega
/-- the first turns of a comprehension that keeps some items -/
structure UptoF {α : Type} (H : Hp) (D : Addr) (l : List α) (f : α → V) (p : α → Bool) (i : Nat) (H' : Hp) : Prop where
  sm : Same H H'
  at_ : H' D = some (.lst (((l.take i).filter p).map f))
theorem UptoF.zero {α : Type} {H : Hp} {D : Addr} {l : List α} {f : α → V} {p : α → Bool} (h : H D = none) : UptoF H D l f p 0 (upd H D (.lst [])) := ⟨same_upd h, upd_same⟩
theorem take_succ {α : Type} {l : List α} {i : Nat} {x : α} (h : l[i]? = some x) : l.take (i + 1) = l.take i ++ [x] := by
  rw [List.take_add_one, h]
  rfl
theorem UptoF.yes {α : Type} {H H' H2 : Hp} {D : Addr} {l : List α} {f : α → V} {p : α → Bool} {i : Nat} {x : α} (u : UptoF H D l f p i H') (nD : H D = none) (hx : l[i]? = some x) (hp : p x = true) (s2 : Same H' H2) (hl : l.length ≤ 100000) :
    ∃ acc, H2 D = some (.lst acc) ∧ acc.length < sizeLine ∧ UptoF H D l f p (i + 1) (upd H2 D (.lst (acc ++ [f x]))) := by
  have hi := (List.getElem?_eq_some_iff.mp hx).1
  refine ⟨_, s2 _ _ u.at_, Evl.sz_lt ?_, Same.grow (Same.trans u.sm s2) nD, ?_⟩
  · have := List.length_filter_le p (l.take i)
    rw [List.length_map]
    rw [List.length_take] at this
    omega
  · rw [upd_same, take_succ hx, List.filter_append, List.map_append, List.filter_cons_of_pos hp]
    rfl
theorem UptoF.no {α : Type} {H H' H2 : Hp} {D : Addr} {l : List α} {f : α → V} {p : α → Bool} {i : Nat} {x : α} (u : UptoF H D l f p i H') (hx : l[i]? = some x) (hp : p x = false) (s2 : Same H' H2) : UptoF H D l f p (i + 1) H2 :=
  ⟨Same.trans u.sm s2, by rw [take_succ hx, List.filter_append, List.filter_cons_of_neg (by rw [hp]; exact Bool.false_ne_true), List.filter_nil, List.append_nil]; exact s2 _ _ u.at_⟩
theorem UptoF.all {α : Type} {H H' : Hp} {D : Addr} {l : List α} {f : α → V} {p : α → Bool} {n : Nat} (u : UptoF H D l f p n H') (e : n = l.length) : H' D = some (.lst ((l.filter p).map f)) := by
  rw [u.at_, e, List.take_length]
/-! ### the layer's rules with K told (within a comprehension's block the reading may not speak of the block) -/
section
variable {X : Cx} (K : PySem.W.Frag)
theorem kIn (e : X.K = K := by rfl) : OpR X (compareOp .In) (rIn K false) := e ▸ op_in_seq
theorem kNotIn (e : X.K = K := by rfl) : OpR X (compareOp .NotIn) (rIn K true) := e ▸ op_notIn_seq
theorem kEqD (hu : X.A.units + 64 < cLine) (e : X.K = K := by rfl) : OpR X (compareOp .Eq) (rEqD K) := e ▸ op_eqD hu
theorem kNeD (hu : X.A.units + 64 < cLine) (e : X.K = K := by rfl) : OpR X (compareOp .NotEq) (rNeD K) := e ▸ op_neD hu
theorem kCatA (e : X.K = K := by rfl) : OpR X (binaryOp .Add) (rCatA K) := e ▸ op_catA
theorem kIxL (e : X.K = K := by rfl) : IxR X (rIxL K) := e ▸ ix_list
theorem kIxT (e : X.K = K := by rfl) : IxR X (rIxT K) := e ▸ ix_tup
theorem kIx (e : X.K = K := by rfl) : IxR X (rIx K) := e ▸ ix_seq
theorem kSlL (e : X.K = K := by rfl) : SlR X (rSlL K) := e ▸ sl_list
theorem kSlT (e : X.K = K := by rfl) : SlR X (rSlA K) := e ▸ sl_tupA
/-- len of a text, a list, a tuple -/
def rLn (K : PySem.W.Frag) : List V → Hp → VK → Prop := fun xs H Q => ∃ x n, xs = [x] ∧ LenV K x H n ∧ Q (.int n) H
theorem kLen (e : X.K = K := by rfl) : CallR X (.builtin "len") (rLn K) := e ▸ call_len
def rLs (K : PySem.W.Frag) : List V → Hp → VK → Prop := fun xs H Q => ∃ p ys, xs = [.ref p] ∧ (SqL K H p ys ∨ SqT K H p ys) ∧ ∀ l, H l = none → Q (.ref l) (upd H l (.lst ys))
theorem kList (e : X.K = K := by rfl) : CallR X (.type "list") (rLs K) := e ▸ call_list_of
theorem kAll (hc : X.calm = true) (e : X.K = K := by rfl) : CallR X (.builtin "all") (rAll K) := e ▸ cr_all hc
theorem kAny (hc : X.calm = true) (e : X.K = K := by rfl) : CallR X (.builtin "any") (rAny K) := e ▸ cr_any hc
theorem kIsi (e : X.K = K := by rfl) : CallR X (.builtin "isinstance") (rIsi K) := e ▸ call_isi
theorem kIsiT (e : X.K = K := by rfl) : CallR X (.builtin "isinstance") (rIsiT K) := e ▸ call_isiT
theorem kTupleOf {a : Expr} {ta : TE} {p pos : Pos} (hg : Gl X "tuple") (hm : X.mg "tuple" = none) (ha : PE X a ta) (e : X.K = K := by rfl) (na : starEach [a] X.env = (false, eval a X.env) :: starEach [] X.env := by rfl) : PE X (.Call (.Name "tuple" p) [a] [] pos) (tThen ta (kTup K)) := e ▸ pe_tupleOf hg hm ha na
theorem kTg (n : Nat) {es : List Expr} {k : Nat} {t : TGs} {pos : Pos} (hc : X.calm = true) (h : PGs X es t) (e : X.K = K := by rfl) (hn : (assignEach es X.env).length = n := by rfl) (hst : (assignEach es X.env).findIdx? (·.1) = none := by rfl) :
    PG X (.Tuple es k pos) (gTup K n t) := e ▸ pg_tup hc h hn hst
theorem kPiL {tg l : Expr} {tl : TE} (hl : PE X l tl) (e : X.K = K := by rfl) : PI X tg l (iList K tl) := e ▸ pi_list hl
theorem kPiT {tg l : Expr} {tl : TE} (hl : PE X l tl) (e : X.K = K := by rfl) : PI X tg l (iTup K tl) := e ▸ pi_tup hl
theorem kPiE {e1 : Expr} {ta : TA} {p pos tpos : Pos} {elts : List Expr} {kk : Nat} (hg : Gl X "enumerate") (hm : X.mg "enumerate" = none) (ha : PA X [e1] ta) (e : X.K = K := by rfl) (hs : starEach [e1] X.env = [(false, eval e1 X.env)] := by rfl) :
    PI X (.Tuple elts kk tpos) (.Call (.Name "enumerate" p) [e1] [] pos) (iEnS K ta) := e ▸ pi_enS hg hm ha hs
theorem kPiZ {e1 e2 : Expr} {ta : TA} {p pos tpos : Pos} {elts : List Expr} {kk : Nat} (hg : Gl X "zip") (hm : X.mg "zip" = none) (ha : PA X [e1, e2] ta) (e : X.K = K := by rfl)
    (hs : starEach [e1, e2] X.env = (false, eval e1 X.env) :: starEach [e2] X.env := by rfl) (hpl : (backTo pos (starEach [e2] X.env)).any (·.1) = false := by rfl) :
    PI X (.Tuple elts kk tpos) (.Call (.Name "zip" p) [e1, e2] [] pos) (RZ.iZipA K ta) := e ▸ RZ.pi_zipA hg hm ha hs hpl
end
end Bk

namespace Bk
open PySem PySem.Spec PyProof.Rows L2
section
variable {K : PySem.W.Frag}
/-! ### walks -/
theorem walk_enumT {a : Addr} {xs : List V} : Walk (IteT K a) xs.length (fun H => SqT K H a xs) (YPair (fun i => some (.int (i : Nat))) (fun i => xs[i]?)) := by
  refine ⟨fun i _ hi q => ⟨xs, xs[i], q, by simp [hi]⟩, fun _ q => ⟨xs, q, rfl⟩, fun i H v H' _ q y => ?_⟩
  obtain ⟨T, x, h1, h2, h3, h4⟩ := y
  exact ⟨T, .int (i : Nat), x, h1, h2, h3, rfl, h4 xs q⟩
/-- enumerate of a list or a tuple: whichever it is -/
theorem enS_of {a : Addr} {xs : List V} {H : Hp} {R : It → Hp → Prop} (hS : SqL K H a xs ∨ SqT K H a xs)
    (h : ∀ (J : It) (G : Hp → Prop), Walk J xs.length G (YPair (fun i => some (.int (i : Nat))) (fun i => xs[i]?)) → (∀ H', Same H H' → G H') → R J H) :
    (∃ ys, SqL K H a ys ∧ R (Ite K a) H) ∨ (∃ ys, SqT K H a ys ∧ R (IteT K a) H) := by
  rcases hS with hS | hS
  · exact .inl ⟨xs, hS, h _ _ walk_enum fun H' e => e.seq hS⟩
  · exact .inr ⟨xs, hS, h _ _ walk_enumT fun H' e => Same.sqt e hS⟩
/-- for at, x in enumerate(xs), xs in the slot i: a list or a tuple -/
theorem for_enS {i : Nat} {a : Addr} {xs : List V} {g : TG} {tb : TS} {D : Ends} {σ : L2.St} {H : Hp} (hv : σ[i]? = some (some (.ref a))) (hS : SqL K H a xs ∨ SqT K H a xs) (Pv : Nat → L2.St → Hp → Prop) (h0 : Pv 0 σ H) (hG : ∀ k σ' H', Pv k σ' H' → Same H H')
    (hs : ∀ k x σ' H' H2, k < xs.length → Pv k σ' H' → YPair (fun j => some (.int (j : Nat))) (fun j => xs[j]?) k H' x H2 → g x σ' H2 fun σ2 H3 => tb { D with nx := Pv (k + 1), ct := Pv (k + 1), bk := D.nx } σ2 H3) (hd : ∀ σ' H', Pv xs.length σ' H' → D.nx σ' H') :
    tFor (iEnS K (tCons (tVar i) tNil)) g tb D σ H :=
  ⟨_, hv, a, rfl, enS_of (R := fun J H1 => ∃ W : Nat → Nat → L2.St → Hp → Prop, (∃ m, W 0 m σ H1) ∧ ∀ i m σ H, W i m σ H →
      (J.stop i H ∧ D.nx σ H) ∨ (J.go i H ∧ ∃ N : L2.St → Hp → Prop, (∀ σ' H', N σ' H' → ∃ m', m' < m ∧ W (i + 1) m' σ' H') ∧ ∀ x H', J.yld i H x H' → g x σ H' fun σ2 H2 => tb { D with nx := N, ct := N, bk := D.nx } σ2 H2))
    hS fun J G wk kG => for_it wk Pv h0 (fun k σ' H' _ p => kG H' (hG k σ' H' p)) hs hd⟩
section
variable {J : It} {n : Nat} {G : Hp → Prop} {Y : Nat → Hp → V → Hp → Prop}
/-- the inner walk of a comprehension with two fors -/
theorem inner_it (w : Walk J n G Y) {g1 : TG} {tt1 : TT} {te : TE} {σ2 : L2.St} {vs1 : List Nat} {D : Addr} {Nx : Hp → Prop} {H0 : Hp} (Pw : Nat → Hp → Prop) (h0 : Pw 0 H0) (hG : ∀ j H, j ≤ n → Pw j H → G H)
    (hs : ∀ j x H H', j < n → Pw j H → Y j H x H' → g1 x (wipe σ2 vs1) H' fun σ3 H5 => wipe σ3 vs1 = wipe σ2 vs1 ∧ tt1 σ3 H5 fun b H6 =>
      if b = true then te σ3 H6 fun y H7 => ∃ acc, H7 D = some (.lst acc) ∧ acc.length < sizeLine ∧ Pw (j + 1) (upd H7 D (.lst (acc ++ [y]))) else Pw (j + 1) H6) (hd : ∀ H, Pw n H → Nx H) :
    ∃ W1 : Nat → Nat → Hp → Prop, (∃ m, W1 0 m H0) ∧ ∀ j k H, W1 j k H →
      (J.stop j H ∧ Nx H) ∨ (J.go j H ∧ ∃ Nx1 : Hp → Prop, (∀ H', Nx1 H' → ∃ k', k' < k ∧ W1 (j + 1) k' H') ∧ ∀ x H', J.yld j H x H' → g1 x (wipe σ2 vs1) H' fun σ3 H5 => wipe σ3 vs1 = wipe σ2 vs1 ∧ tt1 σ3 H5 fun b H6 =>
        if b = true then te σ3 H6 fun y H7 => ∃ acc, H7 D = some (.lst acc) ∧ acc.length < sizeLine ∧ Nx1 (upd H7 D (.lst (acc ++ [y]))) else Nx1 H6) := by
  refine ⟨fun j k H => k = n - j ∧ j ≤ n ∧ Pw j H, ⟨n, rfl, Nat.zero_le _, h0⟩, ?_⟩
  rintro j k H ⟨rfl, hj, p⟩
  rcases Nat.lt_or_ge j n with hlt | hge
  · exact .inr ⟨w.goes j H hlt (hG j H hj p), Pw (j + 1), fun H' p' => ⟨n - (j + 1), by omega, rfl, hlt, p'⟩, fun x H' y => hs j x H H' hlt p (w.yields j H x H' hlt (hG j H hj p) y)⟩
  · obtain rfl : j = n := by omega
    exact .inl ⟨w.stops H (hG j H hj p), hd H p⟩
/-- the outer walk -/
theorem outer_it (w : Walk J n G Y) {g : TG} {tt : TT} {σ : L2.St} {vs : List Nat} {H1 : Hp} {D : Addr} {Qd : Hp → Prop} {In : L2.St → Hp → (Hp → Prop) → Prop} (Pv : Nat → Hp → Prop) (h0 : Pv 0 (upd H1 D (.lst []))) (hG : ∀ i H, i ≤ n → Pv i H → G H)
    (hs : ∀ i x H H', i < n → Pv i H → Y i H x H' → g x (wipe σ vs) H' fun σ2 H2 => wipe σ2 vs = wipe σ vs ∧ tt σ2 H2 fun b H3 => if b = true then In σ2 H3 (Pv (i + 1)) else Pv (i + 1) H3) (hd : ∀ H, Pv n H → Qd H) :
    ∃ W : Nat → Nat → Hp → Prop, (∃ m, W 0 m (upd H1 D (.lst []))) ∧ ∀ i m H, W i m H →
      (J.stop i H ∧ Qd H) ∨ (J.go i H ∧ ∃ Nx : Hp → Prop, (∀ H', Nx H' → ∃ m', m' < m ∧ W (i + 1) m' H') ∧ ∀ x H', J.yld i H x H' → g x (wipe σ vs) H' fun σ2 H2 => wipe σ2 vs = wipe σ vs ∧ tt σ2 H2 fun b H3 =>
        if b = true then In σ2 H3 Nx else Nx H3) := by
  refine ⟨fun i m H => m = n - i ∧ i ≤ n ∧ Pv i H, ⟨n, rfl, Nat.zero_le _, h0⟩, ?_⟩
  rintro i m H ⟨rfl, hi, p⟩
  rcases Nat.lt_or_ge i n with hlt | hge
  · exact .inr ⟨w.goes i H hlt (hG i H hi p), Pv (i + 1), fun H' p' => ⟨n - (i + 1), by omega, rfl, hlt, p'⟩, fun x H' y => hs i x H H' hlt p (w.yields i H x H' hlt (hG i H hi p) y)⟩
  · obtain rfl : i = n := by omega
    exact .inl ⟨w.stops H (hG i H hi p), hd H p⟩
/-- a dict comprehension by tuples -/
theorem dcT_it (w : Walk J n G Y) {g : TG} {tk tv : TE} {vs : List Nat} {σ : L2.St} {H1 : Hp} {D : Addr} {Qd : Hp → Prop} (Pv : Nat → Hp → Prop) (h0 : Pv 0 (upd H1 D (.dT []))) (hG : ∀ i H, i ≤ n → Pv i H → G H)
    (hs : ∀ i x H H', i < n → Pv i H → Y i H x H' → g x (wipe σ vs) H' fun σ2 H2 => wipe σ2 vs = wipe σ vs ∧
      tk σ2 H2 fun y H4 => tv σ2 H4 fun z H5 => ∃ kvs k b, y = .ref b ∧ H5 b = some (.tup (k.map kV)) ∧ H5 D = some (.dT kvs) ∧ kvs.length < sizeLine ∧ Pv (i + 1) (upd H5 D (.dT (putK kvs k z)))) (hd : ∀ H, Pv n H → Qd H) :
    ∃ W : Nat → Nat → Hp → Prop, (∃ m, W 0 m (upd H1 D (.dT []))) ∧ ∀ i m H, W i m H →
      (J.stop i H ∧ Qd H) ∨ (J.go i H ∧ ∃ Nx : Hp → Prop, (∀ H', Nx H' → ∃ m', m' < m ∧ W (i + 1) m' H') ∧ ∀ x H', J.yld i H x H' → g x (wipe σ vs) H' fun σ2 H2 => wipe σ2 vs = wipe σ vs ∧
        tk σ2 H2 fun y H4 => tv σ2 H4 fun z H5 => ∃ kvs k b, y = .ref b ∧ H5 b = some (.tup (k.map kV)) ∧ H5 D = some (.dT kvs) ∧ kvs.length < sizeLine ∧ Nx (upd H5 D (.dT (putK kvs k z)))) := by
  refine ⟨fun i m H => m = n - i ∧ i ≤ n ∧ Pv i H, ⟨n, rfl, Nat.zero_le _, h0⟩, ?_⟩
  rintro i m H ⟨rfl, hi, p⟩
  rcases Nat.lt_or_ge i n with hlt | hge
  · exact .inr ⟨w.goes i H hlt (hG i H hi p), Pv (i + 1), fun H' p' => ⟨n - (i + 1), by omega, rfl, hlt, p'⟩, fun x H' y => hs i x H H' hlt p (w.yields i H x H' hlt (hG i H hi p) y)⟩
  · obtain rfl : i = n := by omega
    exact .inl ⟨w.stops H (hG i H hi p), hd H p⟩
end
/-! ### slices -/
theorem sIx_nat' (n d k : Nat) (h : k ≤ n) : HT.sIx n d (some (k : Int)) = k := by
  rw [HT.sIx_nat]
  omega
theorem cut_to (xs : List V) (k : Nat) (h : k ≤ xs.length) : cutV xs none (some (k : Int)) = xs.take k := by
  unfold cutV
  rw [HT.sIx_none, sIx_nat' _ _ _ h]
  simp
theorem cut_mid (xs : List V) (i k : Nat) (h1 : i ≤ k) (h2 : k ≤ xs.length) : cutV xs (some (i : Int)) (some (k : Int)) = (xs.drop i).take (k - i) := by
  unfold cutV
  rw [sIx_nat' _ _ _ h2, sIx_nat' _ _ _ (by omega)]
/-! ### what first_wrong tells -/
def badAt (xs : List V) (most i : Nat) (x : V) : Bool := decide (i = most) || !isNameB x || inV x (xs.take i)
/-- the first place from i on that is wrong -/
def wrongFrom (xs : List V) (most : Nat) : Nat → List V → Option Nat
  | _, [] => none
  | i, x :: r => if badAt xs most i x = true then some i else wrongFrom xs most (i + 1) r
def firstWrong (xs : List V) (most : Nat) : Option Nat := if xs = [] then some 0 else wrongFrom xs most 0 xs
def optV : Option Nat → V
  | none => .non
  | some i => .int (i : Int)
theorem wrong_step {xs : List V} {most i : Nat} {x : V} (h : xs[i]? = some x) : wrongFrom xs most i (xs.drop i) = if badAt xs most i x = true then some i else wrongFrom xs most (i + 1) (xs.drop (i + 1)) := by
  obtain ⟨h1, rfl⟩ := List.getElem?_eq_some_iff.mp h
  rw [List.drop_eq_getElem_cons h1]
  rfl
theorem wrong_end {xs : List V} {most i : Nat} (h : xs.length ≤ i) : wrongFrom xs most i (xs.drop i) = none := by
  rw [List.drop_eq_nil_of_le h]
  rfl
theorem name_flat {x : V} (h : isNameB x = true) : flatV x = true := by
  cases x <;> first | rfl | cases h
theorem all_flat {xs : List V} {k : Nat} (h : ∀ j x, j < k → xs[j]? = some x → isNameB x = true) : (xs.take k).all flatV = true := by
  rw [List.all_eq_true]
  intro x hx
  obtain ⟨j, hj, e⟩ := List.mem_iff_getElem.mp hx
  rw [List.length_take] at hj
  refine name_flat (h j x (by omega) ?_)
  rw [List.getElem_take] at e
  rw [← e]
  exact List.getElem?_eq_getElem (by omega)
/-- a thing that is a list or a tuple of any objects, or neither -/
inductive Thing (K : PySem.W.Frag) (H : Hp) : V → Option (List V) → Prop where
  | seq {a : Addr} {xs : List V} (hS : SqL K H a xs ∨ H a = some (.tup xs)) (b : Sqs K H (.ref a) true) (hi : ∀ x ∈ xs, Itm K H x) (hl : xs.length ≤ 100000) : Thing K H (.ref a) (some xs)
  | no {x : V} (b : Sqs K H x false) : Thing K H x none
/-- what is wrong with a thing as the names of folders -/
def wrongOf (o : Option (List V)) (most : Nat) : Option Nat := match o with
  | none => some 0
  | some xs => firstWrong xs most
def spFirstWrong (K : PySem.W.Frag) : Sp := fun vs H Q _ => ∃ (x : V) (o : Option (List V)) (most : Nat), vs = [x, .int (most : Int)] ∧ Thing K H x o ∧ ∀ H', Same H H' → Q (optV (wrongOf o most)) H'
theorem Itm.same {H H' : Hp} {x : V} (h : Itm K H x) (e : Same H H') : Itm K H' x := let ⟨t, a, b⟩ := h; ⟨t, TyX.same a e, b⟩
theorem Sqs.same {H H' : Hp} {x : V} {b : Bool} (h : Sqs K H x b) (e : Same H H') : Sqs K H' x b := let ⟨t, a, c⟩ := h; ⟨t, TyX.same a e, c⟩
theorem Thing.same {H H' : Hp} {x : V} {o : Option (List V)} (h : Thing K H x o) (e : Same H H') : Thing K H' x o := by
  cases h with
  | seq hS b hi hl => exact .seq (hS.imp (fun z => e.seq z) fun z => e _ _ z) (b.same e) (fun x hx => (hi x hx).same e) hl
  | no b => exact .no (b.same e)
end
section
variable {K : PySem.W.Frag}
/-- a dict comprehension over enumerate(xs), xs a list in the slot i -/
theorem dcT_enL {i : Nat} {a : Addr} {xs : List V} {g : TG} {tk tv : TE} {vs : List Nat} {σ : L2.St} {H : Hp} {Q : VK} (hv : σ[i]? = some (some (.ref a))) (hS : SqL K H a xs)
    (h : ∀ D, H D = none → ∃ Pv : Nat → Hp → Prop, Pv 0 (upd H D (.dT [])) ∧ (∀ k H', Pv k H' → SqL K H' a xs) ∧
      (∀ k x H' H2, k < xs.length → Pv k H' → YPair (fun j => some (.int (j : Nat))) (fun j => xs[j]?) k H' x H2 → g x (wipe σ vs) H2 fun σ2 H3 => wipe σ2 vs = wipe σ vs ∧
        tk σ2 H3 fun y H4 => tv σ2 H4 fun z H5 => ∃ kvs k' b, y = .ref b ∧ H5 b = some (.tup (k'.map kV)) ∧ H5 D = some (.dT kvs) ∧ kvs.length < sizeLine ∧ Pv (k + 1) (upd H5 D (.dT (putK kvs k' z)))) ∧
      ∀ H', Pv xs.length H' → Q (.ref D) H') : tDcT (iEnS K (tCons (tVar i) tNil)) g tk tv vs σ H Q :=
  ⟨_, hv, a, rfl, .inl ⟨xs, hS, fun D nD => by
    obtain ⟨Pv, h0, hG, hs, hd⟩ := h D nD
    exact dcT_it walk_enum Pv h0 (fun k H' _ p => hG k H' p) hs hd⟩⟩
end
/-! ### what is none wrong -/
theorem wrongFrom_none {xs : List V} {most : Nat} : ∀ (l : List V) (i : Nat), wrongFrom xs most i l = none → ∀ j x, l[j]? = some x → badAt xs most (i + j) x = false
  | [], i, _, j, x, h => by simp at h
  | y :: r, i, hw, j, x, h => by
    have e : (if badAt xs most i y = true then some i else wrongFrom xs most (i + 1) r) = none := hw
    by_cases hb : badAt xs most i y = true
    · rw [if_pos hb] at e
      cases e
    · rw [if_neg hb] at e
      cases j with
      | zero =>
        cases h
        simpa using hb
      | succ j =>
        have := wrongFrom_none r (i + 1) e j x (by simpa using h)
        rw [show i + (j + 1) = i + 1 + j by omega]
        exact this
theorem names_of {xs : List V} (h : ∀ (j : Nat) (x : V), xs[j]? = some x → isNameB x = true) : ∃ zs : List Str, xs = zs.map V.str ∧ ∀ z ∈ zs, isNameS z = true := by
  induction xs with
  | nil => exact ⟨[], rfl, fun _ z => nomatch z⟩
  | cons x r ih =>
    obtain ⟨zs, e, hz⟩ := ih fun j y hy => h (j + 1) y (by simpa using hy)
    have hx := h 0 x rfl
    cases x with
    | str z =>
      refine ⟨z :: zs, by rw [e]; rfl, fun y hy => ?_⟩
      rcases List.mem_cons.mp hy with rfl | hy
      · exact hx
      · exact hz y hy
    | _ => cases hx
/-- what is right: unlike names, not too many -/
theorem right_names {o : Option (List V)} {most : Nat} (h : wrongOf o most = none) : ∃ zs : List Str, o = some (zs.map V.str) ∧ zs ≠ [] ∧ (∀ z ∈ zs, isNameS z = true) ∧ zs.length ≤ most ∧ zs.Nodup := by
  cases o with
  | none => cases h
  | some xs =>
    have h : firstWrong xs most = none := h
    unfold firstWrong at h
    by_cases hn : xs = []
    · rw [if_pos hn] at h
      cases h
    · rw [if_neg hn] at h
      have hb := wrongFrom_none xs 0 h
      have hb : ∀ j x, xs[j]? = some x → badAt xs most j x = false := fun j x hx => by
        have := hb j x hx
        rwa [Nat.zero_add] at this
      obtain ⟨zs, e, hz⟩ := names_of fun j x hx => by
        have := hb j x hx
        simp [badAt] at this
        exact this.1.2
      refine ⟨zs, by rw [e], fun z => hn (by rw [e, z]; rfl), hz, ?_, ?_⟩
      · rcases Nat.lt_or_ge most zs.length with hlt | hge
        · have hx : xs[most]? = some (V.str zs[most]) := by rw [e, List.getElem?_map, List.getElem?_eq_getElem hlt]; rfl
          have := hb most _ hx
          simp [badAt] at this
        · exact hge
      · rw [List.nodup_iff_pairwise_ne, List.pairwise_iff_getElem]
        intro i j hi hj hij heq
        have hx : xs[j]? = some (V.str zs[j]) := by rw [e, List.getElem?_map, List.getElem?_eq_getElem hj]; rfl
        have := hb j _ hx
        simp [badAt] at this
        have h2 := this.2
        rw [e, ← List.map_take, inV_strs] at h2
        have h2 := of_decide_eq_false h2
        exact h2 (List.mem_iff_getElem.mpr ⟨i, by rw [List.length_take]; omega, by rw [List.getElem_take]; exact heq⟩)
end Bk

namespace Bk
open PySem PySem.Spec PyProof.Rows L2
/-! ### values that are tuples, one for each of some things -/
def Ats {α : Type} (H : Hp) (g : α → List V) (vs : List V) (xs : List α) : Prop := vs.length = xs.length ∧ ∀ (i : Nat) (v : V) (x : α), vs[i]? = some v → xs[i]? = some x → ∃ b, v = .ref b ∧ H b = some (.tup (g x))
section
variable {α : Type} {g : α → List V} {H H' : Hp} {vs ws : List V} {xs ys : List α}
theorem Ats.nil : Ats H g [] [] := ⟨rfl, fun i v x h => by simp at h⟩
theorem Ats.same (a : Ats H g vs xs) (e : Same H H') : Ats H' g vs xs := ⟨a.1, fun i v x h1 h2 => let ⟨b, e1, e2⟩ := a.2 i v x h1 h2; ⟨b, e1, e _ _ e2⟩⟩
theorem Ats.updL {D : Addr} {l : List V} {o : HO} (a : Ats H g vs xs) (hD : H D = some (.lst l)) : Ats (upd H D o) g vs xs := ⟨a.1, fun i v x h1 h2 => by
  obtain ⟨b, e1, e2⟩ := a.2 i v x h1 h2
  exact ⟨b, e1, by rw [upd_ne (ne_of e2 hD (fun z => nomatch z))]; exact e2⟩⟩
theorem Ats.append (a : Ats H g vs xs) (b : Ats H g ws ys) : Ats H g (vs ++ ws) (xs ++ ys) := by
  refine ⟨by rw [List.length_append, List.length_append, a.1, b.1], fun i v x h1 h2 => ?_⟩
  by_cases hi : i < vs.length
  · rw [List.getElem?_append_left hi] at h1
    rw [List.getElem?_append_left (by rw [← a.1]; exact hi)] at h2
    exact a.2 i v x h1 h2
  · rw [List.getElem?_append_right (by omega)] at h1
    rw [List.getElem?_append_right (by rw [← a.1]; omega), ← a.1] at h2
    exact b.2 _ v x h1 h2
theorem Ats.one {b : Addr} {x : α} (e : H b = some (.tup (g x))) : Ats H g [.ref b] [x] := ⟨rfl, fun i v y h1 h2 => by
  cases i with
  | zero =>
    cases h1
    cases h2
    exact ⟨b, rfl, e⟩
  | succ i => simp at h1⟩
theorem Ats.at (a : Ats H g vs xs) {i : Nat} {x : α} (h : xs[i]? = some x) : ∃ b, vs[i]? = some (.ref b) ∧ H b = some (.tup (g x)) := by
  have hi := (List.getElem?_eq_some_iff.mp h).1
  rw [← a.1] at hi
  obtain ⟨b, e1, e2⟩ := a.2 i _ x (List.getElem?_eq_getElem hi) h
  exact ⟨b, by rw [List.getElem?_eq_getElem hi, e1], e2⟩
end
/-! ### the rows of places, as choices makes them -/
def rowV (r : List Nat) : List V := r.map fun (k : Nat) => V.int (k : Int)
def lastOf (r : List Nat) : Nat := r.getLastD 0
def growRow (n : Nat) (r : List Nat) : List (List Nat) := (List.range' (lastOf r + 1) (n - (lastOf r + 1))).map fun k => r ++ [k]
def nextRows (n : Nat) (rows : List (List Nat)) : List (List Nat) := rows.flatMap (growRow n)
def rowsFrom (n : Nat) : Nat → List (List Nat) → List (List Nat)
  | 0, _ => []
  | f + 1, rows => rows ++ rowsFrom n f (nextRows n rows)
def firstRows (n : Nat) : List (List Nat) := (List.range n).map fun k => [k]
/-- all rows of places below n, shorter ones first -/
def lotRows (n : Nat) : List (List Nat) := rowsFrom n n (firstRows n)
/-- the lots of unlike names -/
def lotsOf (zs : List Str) : List (List Str) := (lotRows zs.length).map fun r => r.map fun k => zs.getD k Str.empty
structure RowOk (n k : Nat) (r : List Nat) : Prop where
  len : r.length = k + 1
  lt : ∀ x ∈ r, x < n
  last : k ≤ lastOf r
theorem RowOk.ne {n k : Nat} {r : List Nat} (h : RowOk n k r) : r ≠ [] := fun e => by
  have := h.len
  rw [e] at this
  simp at this
theorem lastOf_mem {r : List Nat} (h : r ≠ []) : lastOf r ∈ r := by
  unfold lastOf
  rw [List.getLastD_eq_getLast?, List.getLast?_eq_some_getLast h]
  exact List.getLast_mem h
theorem RowOk.lt_last {n k : Nat} {r : List Nat} (h : RowOk n k r) : lastOf r < n := h.lt _ (lastOf_mem h.ne)
theorem lastOf_snoc (r : List Nat) (k : Nat) : lastOf (r ++ [k]) = k := by
  unfold lastOf
  rw [List.getLastD_eq_getLast?, List.getLast?_append]
  rfl
theorem firstRows_ok {n : Nat} : ∀ r ∈ firstRows n, RowOk n 0 r := by
  intro r hr
  obtain ⟨k, hk, rfl⟩ := List.mem_map.mp hr
  have := List.mem_range.mp hk
  exact ⟨rfl, fun x hx => by rw [List.mem_singleton.mp hx]; exact this, Nat.zero_le _⟩
theorem nextRows_ok {n k : Nat} {rows : List (List Nat)} (h : ∀ r ∈ rows, RowOk n k r) : ∀ r ∈ nextRows n rows, RowOk n (k + 1) r := by
  intro r hr
  obtain ⟨r0, h0, hr⟩ := List.mem_flatMap.mp hr
  obtain ⟨j, hj, rfl⟩ := List.mem_map.mp hr
  obtain ⟨j1, j2⟩ := List.mem_range'_1.mp hj
  have o := h r0 h0
  have := o.last
  refine ⟨by rw [List.length_append, o.len]; rfl, fun x hx => ?_, by rw [lastOf_snoc]; omega⟩
  rcases List.mem_append.mp hx with hx | hx
  · exact o.lt x hx
  · rw [List.mem_singleton.mp hx]
    omega
theorem flatMap_len {α β : Type} {f : α → List β} {m : Nat} : ∀ {l : List α}, (∀ x ∈ l, (f x).length ≤ m) → (l.flatMap f).length ≤ l.length * m
  | [], _ => Nat.zero_le _
  | x :: r, h => by
    have ih := flatMap_len (l := r) fun y hy => h y (List.mem_cons_of_mem _ hy)
    have h1 := h x List.mem_cons_self
    rw [List.flatMap_cons, List.length_append, List.length_cons, Nat.add_mul]
    omega
theorem growRow_len {n : Nat} {r : List Nat} : (growRow n r).length ≤ n := by
  unfold growRow
  rw [List.length_map, List.length_range']
  omega
theorem nextRows_len {n : Nat} (rows : List (List Nat)) : (nextRows n rows).length ≤ rows.length * n := flatMap_len fun _ _ => growRow_len
theorem nextRows_snoc {n : Nat} {rows : List (List Nat)} {i : Nat} {r : List Nat} (h : rows[i]? = some r) : nextRows n (rows.take (i + 1)) = nextRows n (rows.take i) ++ growRow n r := by
  unfold nextRows
  rw [take_succ h, List.flatMap_append, List.flatMap_cons, List.flatMap_nil, List.append_nil]
theorem rowsFrom_nil (n : Nat) : ∀ f, rowsFrom n f [] = []
  | 0 => rfl
  | f + 1 => by
    show [] ++ rowsFrom n f (nextRows n []) = []
    exact rowsFrom_nil n f
theorem rowsFrom_ok {n : Nat} : ∀ (f k : Nat) (rows : List (List Nat)), (∀ r ∈ rows, RowOk n k r) → ∀ r ∈ rowsFrom n f rows, ∃ k', RowOk n k' r
  | 0, _, _, _, r, hr => by cases hr
  | f + 1, k, rows, h, r, hr => by
    rcases List.mem_append.mp (show r ∈ rows ++ rowsFrom n f (nextRows n rows) from hr) with hr | hr
    · exact ⟨k, h r hr⟩
    · exact rowsFrom_ok f (k + 1) _ (nextRows_ok h) r hr
theorem lotRows_ok {n : Nat} : ∀ r ∈ lotRows n, ∃ k, RowOk n k r := rowsFrom_ok n 0 _ firstRows_ok
theorem rowV_len (r : List Nat) : (rowV r).length = r.length := List.length_map ..
theorem at_last {r : List Nat} (h : r ≠ []) : atI (rowV r) (-1) = some (V.int (lastOf r : Int)) := by
  have hl : 0 < r.length := List.length_pos_iff.mpr h
  have e1 : ixN (rowV r).length (-1) = some (r.length - 1) := by
    unfold ixN
    rw [rowV_len, if_neg (by omega), if_pos (by omega)]
    congr 1
    omega
  unfold atI
  rw [e1]
  show (rowV r)[r.length - 1]? = _
  unfold rowV lastOf
  rw [List.getElem?_map, List.getLastD_eq_getLast?, List.getLast?_eq_getElem?, List.getElem?_eq_getElem (by omega)]
  rfl
theorem growRow_at {n : Nat} {r : List Nat} {j : Nat} (hj : j < n - (lastOf r + 1)) : (growRow n r)[j]? = some (r ++ [lastOf r + 1 + j]) := by
  unfold growRow
  rw [List.getElem?_map, List.getElem?_range' hj]
  simp
theorem growRow_length (n : Nat) (r : List Nat) : (growRow n r).length = n - (lastOf r + 1) := by
  unfold growRow
  rw [List.length_map, List.length_range']
/-! ### the rows of places of so many, as choices_of makes them -/
def sttK (k : Nat) (r : List Nat) : Nat := if 0 < k then lastOf r + 1 else 0
def growK (n k : Nat) (r : List Nat) : List (List Nat) := (List.range' (sttK k r) (n - sttK k r)).map fun j => r ++ [j]
def nextK (n k : Nat) (rows : List (List Nat)) : List (List Nat) := rows.flatMap (growK n k)
def rowsK (n : Nat) : Nat → List (List Nat)
  | 0 => [[]]
  | k + 1 => nextK n k (rowsK n k)
/-- a row of k places, ascending as far as it matters -/
def RowK (n k : Nat) (r : List Nat) : Prop := (k = 0 ∧ r = []) ∨ ∃ k', k = k' + 1 ∧ RowOk n k' r
theorem RowK.len {n k : Nat} {r : List Nat} (h : RowK n k r) : r.length = k := by
  rcases h with ⟨rfl, rfl⟩ | ⟨k', rfl, o⟩
  · rfl
  · exact o.len
theorem RowK.lt {n k : Nat} {r : List Nat} (h : RowK n k r) : ∀ x ∈ r, x < n := by
  rcases h with ⟨rfl, rfl⟩ | ⟨k', rfl, o⟩
  · intro x hx
    cases hx
  · exact o.lt
theorem sttK_le {n k : Nat} {r : List Nat} (h : RowK n k r) : sttK k r ≤ n := by
  unfold sttK
  rcases h with ⟨rfl, rfl⟩ | ⟨k', rfl, o⟩
  · rw [if_neg (by omega)]
    exact Nat.zero_le _
  · rw [if_pos (by omega)]
    exact o.lt_last
theorem nextK_ok {n k : Nat} {rows : List (List Nat)} (h : ∀ r ∈ rows, RowK n k r) : ∀ r ∈ nextK n k rows, RowK n (k + 1) r := by
  intro r hr
  obtain ⟨r0, h0, hr⟩ := List.mem_flatMap.mp hr
  obtain ⟨j, hj, rfl⟩ := List.mem_map.mp hr
  obtain ⟨j1, j2⟩ := List.mem_range'_1.mp hj
  have o := h r0 h0
  have hs := sttK_le o
  refine .inr ⟨k, rfl, by rw [List.length_append, o.len]; rfl, fun x hx => ?_, ?_⟩
  · rcases List.mem_append.mp hx with hx | hx
    · exact o.lt x hx
    · rw [List.mem_singleton.mp hx]
      omega
  · rw [lastOf_snoc]
    rcases o with ⟨rfl, rfl⟩ | ⟨k', rfl, o⟩
    · exact Nat.zero_le _
    · have := o.last
      unfold sttK at j1
      rw [if_pos (by omega)] at j1
      omega
theorem rowsK_ok (n : Nat) : ∀ k, ∀ r ∈ rowsK n k, RowK n k r
  | 0 => fun r hr => .inl ⟨rfl, List.mem_singleton.mp hr⟩
  | k + 1 => nextK_ok (rowsK_ok n k)
theorem nextK_snoc {n k : Nat} {rows : List (List Nat)} {i : Nat} {r : List Nat} (h : rows[i]? = some r) : nextK n k (rows.take (i + 1)) = nextK n k (rows.take i) ++ growK n k r := by
  unfold nextK
  rw [take_succ h, List.flatMap_append, List.flatMap_cons, List.flatMap_nil, List.append_nil]
theorem growK_at {n k : Nat} {r : List Nat} {j : Nat} (hj : j < n - sttK k r) : (growK n k r)[j]? = some (r ++ [sttK k r + j]) := by
  unfold growK
  rw [List.getElem?_map, List.getElem?_range' hj]
  simp
theorem growK_length (n k : Nat) (r : List Nat) : (growK n k r).length = n - sttK k r := by
  unfold growK
  rw [List.length_map, List.length_range']
/-! how many there are -/
def potOf (n k : Nat) (rows : List (List Nat)) : Nat := (rows.map fun r => 2 ^ (n - sttK k r)).sum
theorem pot_range (n : Nat) : ∀ (m s : Nat), m + s = n → ((List.range' s m).map fun j => 2 ^ (n - (j + 1))).sum + 1 = 2 ^ m
  | 0, _, _ => rfl
  | m + 1, s, h => by
    have ih := pot_range n m (s + 1) (by omega)
    rw [List.range'_succ, List.map_cons, List.sum_cons, Nat.add_assoc, ih, show n - (s + 1) = m by omega, Nat.pow_succ]
    omega
theorem pot_grow {n k : Nat} {r : List Nat} (h : sttK k r ≤ n) : potOf n (k + 1) (growK n k r) + 1 = 2 ^ (n - sttK k r) := by
  unfold potOf growK
  rw [List.map_map]
  have e : (List.map ((fun r => 2 ^ (n - sttK (k + 1) r)) ∘ fun j => r ++ [j]) (List.range' (sttK k r) (n - sttK k r))) = ((List.range' (sttK k r) (n - sttK k r)).map fun j => 2 ^ (n - (j + 1))) := by
    apply List.map_congr_left
    intro j _
    show 2 ^ (n - sttK (k + 1) (r ++ [j])) = _
    unfold sttK
    rw [if_pos (by omega), lastOf_snoc]
  rw [e]
  exact pot_range n _ _ (by omega)
theorem pot_append (n k : Nat) (a b : List (List Nat)) : potOf n k (a ++ b) = potOf n k a + potOf n k b := by
  unfold potOf
  rw [List.map_append, List.sum_append]
theorem pot_next {n k : Nat} : ∀ {rows : List (List Nat)}, (∀ r ∈ rows, RowK n k r) → potOf n (k + 1) (nextK n k rows) ≤ potOf n k rows
  | [], _ => Nat.le_refl _
  | r :: t, h => by
    have ih := pot_next (rows := t) fun x hx => h x (List.mem_cons_of_mem _ hx)
    have g := pot_grow (sttK_le (h r List.mem_cons_self))
    have e : nextK n k (r :: t) = growK n k r ++ nextK n k t := List.flatMap_cons ..
    have e2 : potOf n k (r :: t) = 2 ^ (n - sttK k r) + potOf n k t := List.sum_cons ..
    rw [e, pot_append, e2]
    omega
theorem pot_rows (n : Nat) : ∀ k, potOf n k (rowsK n k) ≤ 2 ^ n
  | 0 => by
    show (2 ^ (n - sttK 0 []) + 0) ≤ _
    unfold sttK
    rw [if_neg (by omega)]
    exact Nat.le_refl _
  | k + 1 => Nat.le_trans (pot_next (rowsK_ok n k)) (pot_rows n k)
theorem len_pot (n k : Nat) : ∀ rows : List (List Nat), rows.length ≤ potOf n k rows
  | [] => Nat.zero_le _
  | r :: t => by
    have ih := len_pot n k t
    have e2 : potOf n k (r :: t) = 2 ^ (n - sttK k r) + potOf n k t := List.sum_cons ..
    have : 0 < 2 ^ (n - sttK k r) := Nat.pow_pos (by omega)
    rw [e2, List.length_cons]
    omega
theorem rowsK_len (n k : Nat) : (rowsK n k).length ≤ 2 ^ n := Nat.le_trans (len_pot n k _) (pot_rows n k)
theorem take_pot {n k : Nat} (rows : List (List Nat)) (i : Nat) : potOf n k (rows.take i) ≤ potOf n k rows := by
  have h := pot_append n k (rows.take i) (rows.drop i)
  rw [List.take_append_drop] at h
  omega
theorem nextK_take_len {n k : Nat} (i : Nat) : (nextK n k ((rowsK n k).take i)).length ≤ 2 ^ n :=
  Nat.le_trans (len_pot n (k + 1) _) (Nat.le_trans (pot_next fun r hr => rowsK_ok n k r (List.mem_of_mem_take hr)) (Nat.le_trans (take_pot _ i) (pot_rows n k)))
/-! all of them are the rows of all lots -/
theorem rowsK_one (n : Nat) : rowsK n 1 = firstRows n := by
  show nextK n 0 [[]] = _
  unfold nextK growK firstRows sttK
  rw [List.flatMap_cons, List.flatMap_nil, List.append_nil, if_neg (by omega), Nat.sub_zero, List.range_eq_range']
  rfl
theorem rowsK_two (n k : Nat) : rowsK n (k + 2) = nextRows n (rowsK n (k + 1)) := by
  show nextK n (k + 1) _ = _
  have e : growK n (k + 1) = growRow n := by
    funext r
    unfold growK growRow sttK
    rw [if_pos (by omega)]
  unfold nextK nextRows
  rw [e]
theorem rowsFrom_K (n : Nat) : ∀ f k, rowsFrom n f (rowsK n (k + 1)) = (List.range' (k + 1) f).flatMap (rowsK n)
  | 0, _ => rfl
  | f + 1, k => by
    show rowsK n (k + 1) ++ rowsFrom n f (nextRows n (rowsK n (k + 1))) = _
    rw [← rowsK_two, rowsFrom_K n f (k + 1), List.range'_succ, List.flatMap_cons]
theorem lotRows_K (n : Nat) : lotRows n = (List.range' 1 n).flatMap (rowsK n) := by
  unfold lotRows
  rw [← rowsK_one, rowsFrom_K]
theorem lotRows_few (n : Nat) : (lotRows n).length ≤ n * 2 ^ n := by
  rw [lotRows_K]
  have h := flatMap_len (f := rowsK n) (m := 2 ^ n) (l := List.range' 1 n) fun x _ => rowsK_len n x
  rw [List.length_range'] at h
  exact h
/-- rows that lie in range tell the choices of so many of the things, which lie in the heap -/
def subsOf (xs : List V) (rows : List (List Nat)) : List (List V) := rows.map fun r => r.map fun k => xs.getD k V.non
def spChoicesOf (K : PySem.W.Frag) : Sp := fun vs H Q _ => ∃ (a : Addr) (xs : List V) (m : Nat), vs = [.ref a, .int (m : Int)] ∧ (SqL K H a xs ∨ SqT K H a xs) ∧ xs.length ≤ 12 ∧ m ≤ 12 ∧
  ∀ (D : Addr) (ws : List V) (H' : Hp), H D = none → Same H H' → H' D = some (.lst ws) → Ats H' (fun l => l) ws (subsOf xs (rowsK xs.length m)) → Q (.ref D) H'
def spChoices (K : PySem.W.Frag) : Sp := fun vs H Q _ => ∃ (a : Addr) (xs : List V), vs = [.ref a] ∧ (SqL K H a xs ∨ SqT K H a xs) ∧ xs.length ≤ 12 ∧
  ∀ (D : Addr) (ws : List V) (H' : Hp), H D = none → Same H H' → H' D = some (.lst ws) → Ats H' (fun l => l) ws (subsOf xs (lotRows xs.length)) → Q (.ref D) H'
theorem subsOf_map {rows : List (List Nat)} (zs : List Str) (h : ∀ r ∈ rows, ∀ x ∈ r, x < zs.length) : subsOf (zs.map V.str) rows = (rows.map fun r => r.map fun k => zs.getD k Str.empty).map fun l => l.map V.str := by
  unfold subsOf
  rw [List.map_map]
  apply List.map_congr_left
  intro r hr
  show _ = (r.map fun k => zs.getD k Str.empty).map V.str
  rw [List.map_map]
  apply List.map_congr_left
  intro k hk
  have hkn := h r hr k hk
  show (zs.map V.str).getD k V.non = V.str (zs.getD k Str.empty)
  rw [List.getD_eq_getElem?_getD, List.getD_eq_getElem?_getD, List.getElem?_map, List.getElem?_eq_getElem hkn]
  rfl
theorem Ats.ofMap {α β : Type} {H : Hp} {g : β → List V} {f : α → β} {vs : List V} {xs : List α} (a : Ats H g vs (xs.map f)) : Ats H (fun x => g (f x)) vs xs := ⟨by rw [a.1, List.length_map], fun i v x h1 h2 => a.2 i v (f x) h1 (by rw [List.getElem?_map, h2]; rfl)⟩
/-- what choices tells of names are the lots -/
theorem lots_of_choices {H : Hp} {ws : List V} {zs : List Str} (a : Ats H (fun l => l) ws (subsOf (zs.map V.str) (lotRows (zs.map V.str).length))) : Ats H (fun l => l.map V.str) ws (lotsOf zs) := by
  rw [List.length_map, subsOf_map zs (fun r hr => (lotRows_ok r hr).choose_spec.lt)] at a
  exact a.ofMap
/-! ### the lots of a chain -/
def longRows (zs : List Str) (l : Nat) : List (List Str) := (List.range (zs.length - l)).map fun i => (zs.drop i).take (l + 1)
def chainLots (zs : List Str) : List (List Str) := (List.range zs.length).flatMap (longRows zs)
theorem longRows_len (zs : List Str) (l : Nat) : (longRows zs l).length = zs.length - l := by
  unfold longRows
  rw [List.length_map, List.length_range]
theorem longRows_at {zs : List Str} {l j : Nat} (h : j < zs.length - l) : (longRows zs l)[j]? = some ((zs.drop j).take (l + 1)) := by
  unfold longRows
  rw [List.getElem?_map, List.getElem?_range h]
  rfl
def spNeigh : Sp := fun vs H Q _ => ∃ (a : Addr) (zs : List Str), vs = [.ref a] ∧ H a = some (.tup (zs.map V.str)) ∧ zs.length ≤ 100 ∧
  ∀ (D : Addr) (ws : List V) (H' : Hp), H D = none → Same H H' → H' D = some (.lst ws) → Ats H' (fun l => l.map V.str) ws (chainLots zs) → Q (.ref D) H'
end Bk

namespace Bk
open PySem PySem.Spec PyProof.Rows L2
/-! ### an own error with one field -/
def spExcInit (C : Addr) (f : Str) : Sp := fun vs H Q _ => ∃ (a : Addr) (v : V), vs = [.ref a, v] ∧ H a = some (exo a C none) ∧ ∀ dx, H dx = none → dx ≠ a → Q .non (upd (upd H dx (exd dx [(f, v)])) a (exo a C (some dx)))
/-- what the top has written of the error's class C, whose __init__ stands at fI and stores f -/
structure ExT (K : PySem.W.Frag) (mg : Str → Option Value) (x : Str) (C fI : Addr) (f : Str) : Prop where
  g : mg x = some (.ref C)
  o : OexC K C
  xf : XfC K C
  noF : PySem.W.findIn K (.ref C) f = some none
  iC : PySem.W.findIn K (.ref C) "__init__" = some (some (.ref fI))
  tI : PySem.W.typeIn K (.ref fI) = some (.type "function")
  te : PySem.W.exmOne K (.ref C) (.ref C) = some true
/-- the heap behind the making of an error that carries v under f in its dict d -/
def ExcAt (H : Hp) (d : Addr) (f : Str) (v : V) (H' : Hp) : Prop := H d = none ∧ Same H H' ∧ H' d = some (.xd [(f, v)])
/-- raise C(e): the reading, made easy -/
theorem mkO_of {C : Addr} {f : Str} {ta : TA} {σ : L2.St} {H : Hp} {Q : XK} {v : V} {H1 : Hp} (ha : ∀ R : List V → Hp → Prop, R [v] H1 → ta σ H R) (h : ∀ d H', ExcAt H1 d f v H' → Q (.ref C) (some d) H') : tMkO C (spExcInit C f) [] ta σ H Q := by
  refine ha _ ⟨show 1 ≤ 1000 by decide, fun a na => ⟨a, v, rfl, upd_same, fun dx ndx hne => ⟨rfl, dx, [(f, v)], upd_same, ?_, ?_, ?_⟩⟩⟩
  · rw [upd_ne hne, upd_same]
  · rw [upd_ne hne] at ndx
    exact ndx
  · rw [upd_ne hne] at ndx
    refine h dx _ ⟨ndx, fun b o e => ?_, upd_same⟩
    have nb : b ≠ dx := ne_of_none e ndx
    have na' : b ≠ a := ne_of_none e na
    rw [upd_ne nb, del_ne na', upd_ne na', upd_ne nb, upd_ne na']
    exact e
/-! ### Folders as an object -/
def placesOf (ls : List (List Str)) : List (List Key × V) := ls.zipIdx.foldl (fun acc (p : List Str × Nat) => putK acc (p.1.map Sum.inr) (V.int (p.2 : Int))) []
theorem places_snoc {ls : List (List Str)} {i : Nat} {l : List Str} (h : ls[i]? = some l) : placesOf (ls.take (i + 1)) = putK (placesOf (ls.take i)) (l.map Sum.inr) (V.int (i : Int)) := by
  have hi := (List.getElem?_eq_some_iff.mp h).1
  unfold placesOf
  rw [take_succ h, List.zipIdx_append, List.foldl_append]
  have e : (ls.take i).length = i := by rw [List.length_take]; omega
  rw [e, Nat.zero_add]
  rfl
theorem places_len : ∀ ls : List (List Str), (placesOf ls).length ≤ ls.length := by
  intro ls
  have h : ∀ (l : List (List Str × Nat)) (acc : List (List Key × V)), (l.foldl (fun acc (p : List Str × Nat) => putK acc (p.1.map Sum.inr) (V.int (p.2 : Int))) acc).length ≤ acc.length + l.length := by
    intro l
    induction l with
    | nil => intro acc; exact Nat.le_refl _
    | cons x r ih =>
      intro acc
      have h1 := ih (putK acc (x.1.map Sum.inr) (V.int (x.2 : Int)))
      have h2 := length_putK acc (x.1.map Sum.inr) (V.int (x.2 : Int))
      show (r.foldl _ (putK acc (x.1.map Sum.inr) (V.int (x.2 : Int)))).length ≤ acc.length + (r.length + 1)
      omega
  have := h ls.zipIdx []
  rw [List.length_zipIdx] at this
  simpa [placesOf] using this
def foldersF (t pd : Addr) (ch : Bool) : List (Str × V) := [("names", .ref t), ("chain", .bl ch), ("places", .ref pd)]
def lotsFor (ch : Bool) (zs : List Str) : List (List Str) := if ch then chainLots zs else lotsOf zs
def mostFor (ch : Bool) : Nat := if ch then 12 else 5
/-- Folders of the names zs stand at x -/
def FoldersAt (C : Addr) (H : Hp) (x : Addr) (zs : List Str) (ch : Bool) : Prop := ∃ dx t pd, H x = some (.ins C dx (foldersF t pd ch)) ∧ H t = some (.tup (zs.map V.str)) ∧ H pd = some (.dT (placesOf (lotsFor ch zs)))
def spFolders (K : PySem.W.Frag) (C CB : Addr) : Sp := fun vs H Q E => ∃ (x dx : Addr) (nm : V) (o : Option (List V)) (ch : Bool), vs = [.ref x, nm, .bl ch] ∧ H x = some (.ins C dx []) ∧ Thing K H nm o ∧
  (∀ i d H', wrongOf o (mostFor ch) = some i → ExcAt H d "index" (.int (i : Int)) H' → E (.ref CB) (some d) H') ∧
  (∀ zs H', wrongOf o (mostFor ch) = none → o = some (zs.map V.str) → zs.Nodup → FoldersAt C H' x zs ch → (∀ b u, b ≠ x → H b = some u → H' b = some u) → Q .non H')
structure FolT (K : PySem.W.Frag) (mg : Str → Option Value) (C fI : Addr) : Prop where
  g : mg "Folders" = some (.ref C)
  cl : Cls K C
  nN : NoAttr K C "names"
  nC : NoAttr K C "chain"
  nP : NoAttr K C "places"
  make : Mk K C fI
theorem put1 (v : V) : putF "names" v [] = ([("names", v)] : List (Str × V)) := rfl
theorem put2 (v c : V) : putF "chain" c ([("names", v)] : List (Str × V)) = ([("names", v), ("chain", c)] : List (Str × V)) := by
  have h : ¬ (("names" : Str) = "chain") := by decide +kernel
  simp [putF, h]
theorem put3 (v c p : V) : putF "places" p ([("names", v), ("chain", c)] : List (Str × V)) = ([("names", v), ("chain", c), ("places", p)] : List (Str × V)) := by
  have h : ¬ (("names" : Str) = "places") := by decide +kernel
  have h2 : ¬ (("chain" : Str) = "places") := by decide +kernel
  simp [putF, h, h2]
theorem look_n2 (t : Addr) (c : V) : List.lookup ("names" : Str) ([("names", .ref t), ("chain", c)] : List (Str × V)) = some (.ref t) := by
  simp [List.lookup]
theorem look_names (t pd : Addr) (ch : Bool) : (foldersF t pd ch).lookup ("names" : Str) = some (.ref t) := by
  show List.lookup ("names" : Str) [(("names" : Str), V.ref t), ("chain", .bl ch), ("places", .ref pd)] = _
  simp [List.lookup]
/-- all but the object at x stays -/
def But (x : Addr) (H H' : Hp) : Prop := ∀ b u, b ≠ x → H b = some u → H' b = some u
theorem But.trans {x : Addr} {H H1 H2 : Hp} (a : But x H H1) (b : But x H1 H2) : But x H H2 := fun c u n e => b c u n (a c u n e)
theorem But.same {x : Addr} {H H' : Hp} (a : Same H H') : But x H H' := fun c u _ e => a c u e
theorem But.upd {x : Addr} {H : Hp} {o : HO} : But x H (L2.upd H x o) := fun c u n e => by rw [upd_ne n]; exact e
theorem rows_few : ∀ n, n < 6 → (lotRows n).length ≤ 31 := by decide +kernel
theorem lots_few {ch : Bool} {zs : List Str} (h : zs.length ≤ mostFor ch) : (lotsFor ch zs).length ≤ 2000 := by
  cases ch with
  | true =>
    have h : zs.length ≤ 12 := h
    have := flatMap_len (f := longRows zs) (m := 100) (l := List.range zs.length) fun x _ => by rw [longRows_len]; omega
    rw [List.length_range] at this
    show (chainLots zs).length ≤ 2000
    unfold chainLots
    omega
  | false =>
    have h : zs.length ≤ 5 := h
    have := rows_few zs.length (by omega)
    show (lotsOf zs).length ≤ 2000
    unfold lotsOf
    rw [List.length_map]
    omega
end Bk

namespace Bk
open PySem PySem.Spec PyProof.Rows L2
section
variable {K : PySem.W.Frag} {H H' : Hp}
/-! ### data: None, truth values, ints, texts, lists and tuples of these -/
mutual
theorem Dp.sm (e : Same H H') : ∀ (d : PyData) (v : V), Dp K H v d → Dp K H' v d
  | _, _, .non => .non
  | _, _, .bl b => .bl b
  | _, _, .int i => .int i
  | _, _, .str x => .str x
  | .list ds, _, .lst h a => .lst (e.seq h) (DpAll.sm e ds _ a)
  | .tuple ds, _, .tup h a => .tup (Same.sqt e h) (DpAll.sm e ds _ a)
theorem DpAll.sm (e : Same H H') : ∀ (ds : List PyData) (vs : List V), DpAll K H vs ds → DpAll K H' vs ds
  | [], _, .nil => .nil
  | d :: ds, _, .cons a r => .cons (Dp.sm e d _ a) (DpAll.sm e ds _ r)
end
theorem DpAll.len : ∀ {vs : List V} {ds : List PyData}, DpAll K H vs ds → vs.length = ds.length
  | _, _, .nil => rfl
  | _, _, .cons _ r => congrArg (· + 1) (DpAll.len r)
theorem DpAll.get : ∀ {vs : List V} {ds : List PyData}, DpAll K H vs ds → ∀ {i : Nat} {v : V}, vs[i]? = some v → ∃ d, ds[i]? = some d ∧ Dp K H v d
  | _, _, .nil, i, v, h => by simp at h
  | _, _, .cons a r, 0, v, h => by
    cases h
    exact ⟨_, rfl, a⟩
  | _, _, .cons a r, i + 1, v, h => DpAll.get r (by simpa using h)
theorem tyx_l {a : Addr} {xs : List V} (h : SqL K H a xs) : TyX K H (.ref a) (.type "list") := by
  rcases h with (h | ⟨o, h⟩) | ⟨o, its, n, h, c, _⟩
  · exact .base (.lst h)
  · exact .base (.frz h)
  · exact .kList h c
theorem tyx_t {a : Addr} {xs : List V} (h : SqT K H a xs) : TyX K H (.ref a) (.type "tuple") := by
  rcases h with (h | ⟨o, h⟩) | ⟨o, its, n, h, c, _⟩
  · exact .base (.tup h)
  · exact .fTuple h
  · exact .kTuple h c
/-- the kind of a piece of data -/
def kindD : PyData → String
  | .none => "NoneType"
  | .bool _ => "bool"
  | .int _ => "int"
  | .str _ => "str"
  | .list _ => "list"
  | .tuple _ => "tuple"
  | .dict _ => "dict"
theorem tyx_d {v : V} {d : PyData} (h : Dp K H v d) : TyX K H v (.type (kindD d)) := by
  cases h with
  | non => exact .base .non
  | bl b => exact .base (.bl b)
  | int i => exact .base (.int i)
  | str x => exact .base (.str x)
  | lst h _ => exact tyx_l h
  | tup h _ => exact tyx_t h
theorem depth_mem : ∀ {ds : List PyData} {d : PyData}, d ∈ ds → d.depth ≤ PyData.depthAll ds
  | x :: r, d, h => by
    have e : PyData.depthAll (x :: r) = max (PyData.depth x) (PyData.depthAll r) := by simp [PyData.depthAll]
    rw [e]
    rcases List.mem_cons.mp h with rfl | h
    · exact Nat.le_max_left _ _
    · exact Nat.le_trans (depth_mem h) (Nat.le_max_right _ _)
mutual
/-- the greatest length of a list or tuple within -/
def wide : PyData → Nat
  | .list xs => max xs.length (wideAll xs)
  | .tuple xs => max xs.length (wideAll xs)
  | _ => 0
def wideAll : List PyData → Nat
  | [] => 0
  | x :: r => max (wide x) (wideAll r)
end
theorem wide_mem : ∀ {ds : List PyData} {d : PyData}, d ∈ ds → wide d ≤ wideAll ds
  | x :: r, d, h => by
    have e : wideAll (x :: r) = max (wide x) (wideAll r) := by simp [wideAll]
    rw [e]
    rcases List.mem_cons.mp h with rfl | h
    · exact Nat.le_max_left _ _
    · exact Nat.le_trans (wide_mem h) (Nat.le_max_right _ _)
/-- both read as one piece of data: they are the same -/
def spSame (K : PySem.W.Frag) : Nat → Sp
  | 0 => fun _ _ _ _ => False
  | n + 1 => fun vs H Q _ => ∃ (x y : V) (d : PyData), vs = [x, y] ∧ Dp K H x d ∧ Dp K H y d ∧ d.depth ≤ n ∧ wide d ≤ 90000 ∧ ∀ H', Same H H' → Q (.bl true) H'
end
section
variable {P : Program} {w : World} {K : PySem.W.Frag} {mg : Str → Option Value} {base : Heap}
theorem ok_never {CX : CXT} {k : Nat} {f : Addr} {fd : FuncData} {ps : List Str} : FnOk P w K mg base CX k f fd ps (fun _ _ _ _ => False) := ⟨fun _ _ _ _ z => z.elim, fun _ _ _ _ _ _ _ _ _ _ _ _ _ z => z.elim⟩
end
section
variable {K : PySem.W.Frag}
theorem walk_zipT {a b : Addr} {xs ys : List V} {n : Nat} (hn : n = min xs.length ys.length) : Walk (RZ.ItzT K a b) n (fun H => SqT K H a xs ∧ SqT K H b ys) (YPair (fun i => xs[i]?) (fun i => ys[i]?)) := by
  subst hn
  refine ⟨fun i _ hi q => ?_, fun _ q => ⟨xs, ys, q.1, q.2, by omega⟩, fun i H v H' _ q y => ?_⟩
  · have h1 : i < xs.length := by omega
    have h2 : i < ys.length := by omega
    exact ⟨xs, ys, xs[i], ys[i], q.1, q.2, by simp [h1], by simp [h2]⟩
  · obtain ⟨T, x, z, h1, h2, h3, h4, h5⟩ := y
    exact ⟨T, x, z, h1, h2, h3, h4 xs q.1, h5 ys q.2⟩
/-- a comprehension over zip(x, y), x and y both lists or both tuples of one length -/
theorem lcZ {i j : Nat} {a b : Addr} {xs ys : List V} {g : TG} {tt : TT} {te : TE} {vs : List Nat} {σ : L2.St} {H : Hp} {Q : VK} (hv1 : σ[i]? = some (some (.ref a))) (hv2 : σ[j]? = some (some (.ref b)))
    (hS : (SqL K H a xs ∧ SqL K H b ys) ∨ (SqT K H a xs ∧ SqT K H b ys)) (hl : xs.length = ys.length)
    (h : ∀ D, H D = none → ∃ Pv : Nat → Hp → Prop, Pv 0 (upd H D (.lst [])) ∧ (∀ k H', Pv k H' → Same H H') ∧
      (∀ k v H' H2, k < xs.length → Pv k H' → YPair (fun i => xs[i]?) (fun i => ys[i]?) k H' v H2 → g v (wipe σ vs) H2 fun σ2 H3 => wipe σ2 vs = wipe σ vs ∧ tt σ2 H3 fun b H4 =>
        if b = true then te σ2 H4 fun y H5 => ∃ acc, H5 D = some (.lst acc) ∧ acc.length < sizeLine ∧ Pv (k + 1) (upd H5 D (.lst (acc ++ [y]))) else Pv (k + 1) H4) ∧
      ∀ H', Pv xs.length H' → Q (.ref D) H') : tLc (RZ.iZipA K (tCons (tVar i) (tCons (tVar j) tNil))) g tt te vs σ H Q := by
  have hm : xs.length = min xs.length ys.length := by omega
  refine ⟨_, hv1, _, hv2, a, b, xs, ys, rfl, ?_⟩
  rcases hS with ⟨h1, h2⟩ | ⟨h1, h2⟩
  · refine .inl ⟨h1, h2, fun D nD => ?_⟩
    obtain ⟨Pv, p0, ps, pt, pd⟩ := h D nD
    exact lc_it (walk_zip hm) Pv p0 (fun k H' _ p => ⟨(ps k H' p).seq h1, (ps k H' p).seq h2⟩) pt pd
  · refine .inr ⟨h1, h2, fun D nD => ?_⟩
    obtain ⟨Pv, p0, ps, pt, pd⟩ := h D nD
    exact lc_it (walk_zipT hm) Pv p0 (fun k H' _ p => ⟨Same.sqt (ps k H' p) h1, Same.sqt (ps k H' p) h2⟩) pt pd
end
section
variable {K : PySem.W.Frag} {H : Hp} {σ : L2.St} {i : Nat} {v : V} {R : VK}
theorem isi1 {c : String} {t : Value} {k : Bool} (hv : σ[i]? = some (some v)) (tv : TyX K H v t) (hk : PySem.W.kitOne K t (.type c) = some k) (r : R (.bl k) H) : tCB (rIsi K) (tCons (tVar i) (tCons (tC (.ty c)) tNil)) σ H R :=
  ⟨_, hv, v, _, t, _, k, rfl, .ty c, tv, hk, r⟩
theorem isi2 {c1 c2 : String} {t : Value} {k : Bool} (hv : σ[i]? = some (some v)) (tv : TyX K H v t) (hk : PySem.W.kitAny K t [.type c1, .type c2] = some k) (r : ∀ H1, Same H H1 → R (.bl k) H1) :
    tCB (rIsiT K) (tCons (tVar i) (tCons (tTup (tCons (tC (.ty c1)) (tCons (tC (.ty c2)) tNil))) tNil)) σ H R :=
  ⟨_, hv, by show 2 ≤ sizeLine; decide, fun p np => ⟨v, p, _, t, _, k, rfl, upd_same, .cons (.ty c1) (.cons (.ty c2) .nil), TyX.same tv (same_upd np), hk, r _ (same_upd np)⟩⟩
theorem isi3 {c1 c2 c3 : String} {t : Value} {k : Bool} (hv : σ[i]? = some (some v)) (tv : TyX K H v t) (hk : PySem.W.kitAny K t [.type c1, .type c2, .type c3] = some k) (r : ∀ H1, Same H H1 → R (.bl k) H1) :
    tCB (rIsiT K) (tCons (tVar i) (tCons (tTup (tCons (tC (.ty c1)) (tCons (tC (.ty c2)) (tCons (tC (.ty c3)) tNil)))) tNil)) σ H R :=
  ⟨_, hv, by show 3 ≤ sizeLine; decide, fun p np => ⟨v, p, _, t, _, k, rfl, upd_same, .cons (.ty c1) (.cons (.ty c2) (.cons (.ty c3) .nil)), TyX.same tv (same_upd np), hk, r _ (same_upd np)⟩⟩
theorem kit2 {k c1 c2 : String} {b1 b2 : Bool} (h1 : kitB k c1 = some b1) (h2 : kitB k c2 = some b2) : PySem.W.kitAny K (.type k) [.type c1, .type c2] = some (b1 || b2) := by
  refine kitAny_cons (kit_ty h1) (fun e => ?_) (fun e => by rw [e]; rfl)
  rw [e, Bool.false_or]
  exact kitAny_cons (kit_ty h2) (fun e => by rw [e]; exact kitAny_nil) (fun e => e)
theorem kit3 {k c1 c2 c3 : String} {b1 b2 b3 : Bool} (h1 : kitB k c1 = some b1) (h2 : kitB k c2 = some b2) (h3 : kitB k c3 = some b3) : PySem.W.kitAny K (.type k) [.type c1, .type c2, .type c3] = some (b1 || (b2 || b3)) := by
  refine kitAny_cons (kit_ty h1) (fun e => ?_) (fun e => by rw [e]; rfl)
  rw [e, Bool.false_or]
  exact kit2 h2 h3
end
def isL : PyData → Bool
  | .list _ => true
  | _ => false
theorem kd_L : ∀ d : PyData, kitB (kindD d) "list" = some (isL d)
  | .none => (by decide +kernel : kitB "NoneType" "list" = some false)
  | .bool _ => (by decide +kernel : kitB "bool" "list" = some false)
  | .int _ => (by decide +kernel : kitB "int" "list" = some false)
  | .str _ => (by decide +kernel : kitB "str" "list" = some false)
  | .list _ => (by decide +kernel : kitB "list" "list" = some true)
  | .tuple _ => (by decide +kernel : kitB "tuple" "list" = some false)
  | .dict _ => (by decide +kernel : kitB "dict" "list" = some false)
def isT : PyData → Bool
  | .tuple _ => true
  | _ => false
theorem kd_T : ∀ d : PyData, kitB (kindD d) "tuple" = some (isT d)
  | .none => (by decide +kernel : kitB "NoneType" "tuple" = some false)
  | .bool _ => (by decide +kernel : kitB "bool" "tuple" = some false)
  | .int _ => (by decide +kernel : kitB "int" "tuple" = some false)
  | .str _ => (by decide +kernel : kitB "str" "tuple" = some false)
  | .list _ => (by decide +kernel : kitB "list" "tuple" = some false)
  | .tuple _ => (by decide +kernel : kitB "tuple" "tuple" = some true)
  | .dict _ => (by decide +kernel : kitB "dict" "tuple" = some false)
def isI : PyData → Bool
  | .bool _ => true
  | .int _ => true
  | _ => false
theorem kd_I : ∀ d : PyData, kitB (kindD d) "int" = some (isI d)
  | .none => (by decide +kernel : kitB "NoneType" "int" = some false)
  | .bool _ => (by decide +kernel : kitB "bool" "int" = some true)
  | .int _ => (by decide +kernel : kitB "int" "int" = some true)
  | .str _ => (by decide +kernel : kitB "str" "int" = some false)
  | .list _ => (by decide +kernel : kitB "list" "int" = some false)
  | .tuple _ => (by decide +kernel : kitB "tuple" "int" = some false)
  | .dict _ => (by decide +kernel : kitB "dict" "int" = some false)
def isB : PyData → Bool
  | .bool _ => true
  | _ => false
theorem kd_B : ∀ d : PyData, kitB (kindD d) "bool" = some (isB d)
  | .none => (by decide +kernel : kitB "NoneType" "bool" = some false)
  | .bool _ => (by decide +kernel : kitB "bool" "bool" = some true)
  | .int _ => (by decide +kernel : kitB "int" "bool" = some false)
  | .str _ => (by decide +kernel : kitB "str" "bool" = some false)
  | .list _ => (by decide +kernel : kitB "list" "bool" = some false)
  | .tuple _ => (by decide +kernel : kitB "tuple" "bool" = some false)
  | .dict _ => (by decide +kernel : kitB "dict" "bool" = some false)
theorem flat_eq {K : PySem.W.Frag} {H : Hp} {x y : V} {d : PyData} (hx : Dp K H x d) (hy : Dp K H y d) (h : (isL d || isT d) = false) : x = y ∧ scal x y = true := by
  cases hx <;> cases hy <;> first | exact ⟨rfl, rfl⟩ | cases h
theorem cb1 {r : List V → Hp → VK → Prop} {te : TE} {σ : L2.St} {H : Hp} {R : VK} (h : te σ H fun x H1 => r [x] H1 R) : tCB r (tCons te tNil) σ H R := h
theorem lt_one (a b : Nat) : decide (([a] : List Nat) < [b]) = decide (a < b) := by
  by_cases h : a < b
  · rw [decide_eq_true h]
    exact decide_eq_true (List.cons_lt_cons_iff.mpr (.inl h))
  · rw [decide_eq_false h]
    refine decide_eq_false fun z => ?_
    rcases List.cons_lt_cons_iff.mp z with z | ⟨_, z⟩
    · exact h z
    · exact absurd z (by simp)
theorem filter_all {α : Type} {p : α → Bool} : ∀ {l : List α}, (l.filter p).length = l.length ↔ l.all p = true
  | [] => by simp
  | x :: r => by
    have ih := filter_all (p := p) (l := r)
    have hle := List.length_filter_le p r
    cases h : p x with
    | true =>
      rw [List.filter_cons_of_pos h, List.all_cons, h, Bool.true_and, List.length_cons, List.length_cons, ← ih]
      omega
    | false =>
      rw [List.filter_cons_of_neg (by rw [h]; exact Bool.false_ne_true), List.all_cons, h, Bool.false_and, List.length_cons]
      constructor
      · intro e
        omega
      · intro e
        cases e
/-- the law's own look at a name -/
theorem name_by_letters {z : Str} {n : Nat} (h : n = (z.cps.toList.filter fun c => decide (c ∈ lettersL)).length) : isNameS z = (decide (0 < n) && decide (n < 9) && decide (n = z.length)) := by
  have e : z.length = z.cps.toList.length := by simp [Str.length]
  unfold isNameS
  by_cases ha : (z.cps.toList.all fun c => decide (c ∈ lettersL)) = true
  · have hn := filter_all.mpr ha
    rw [ha, Bool.and_true, e, h, hn]
    rw [decide_eq_true (rfl : z.cps.toList.length = z.cps.toList.length), Bool.and_true, decide_eq_decide.mpr (show 1 ≤ z.cps.toList.length ↔ 0 < z.cps.toList.length by omega), decide_eq_decide.mpr (show z.cps.toList.length ≤ 8 ↔ z.cps.toList.length < 9 by omega)]
  · have hn : ¬ n = z.length := fun q => ha (filter_all.mp (by rw [← h, q, e]))
    rw [decide_eq_false hn, Bool.and_false]
    have : (z.cps.toList.all fun c => decide (c ∈ lettersL)) = false := by
      cases q : z.cps.toList.all fun c => decide (c ∈ lettersL) with
      | true => exact absurd q ha
      | false => rfl
    rw [this, Bool.and_false]
end Bk

namespace Bk
open PySem PySem.Spec PyProof.Rows L2
section
variable {X : Cx} {CX : CXT} {k n : Nat} {f C : Addr} {fd : FuncData} {ps ks : List Str} {sp : Sp} {E : L2.St → XK} {x : Str} {p pos : Pos} {e : Expr} {es : List Expr} {kws : List Keyword} {t tk : TA} {g : List Value → List Value → List Value} {gV : List V → List V → List V}
/-- C(.., k = v, ..) within a try: what the making raises is wished for at the slots as they stand -/
def tMakeKS (C : Addr) (n m : Nat) (sp : Sp) (gV : List V → List V → List V) (E : L2.St → XK) (t tk : TA) : TE := fun σ H Q => t σ H fun vs H1 => tk σ H1 fun zs H2 => vs.length = n ∧ zs.length = m ∧ ∀ y dx, H2 y = none → H2 dx = none → dx ≠ y →
  sp (gV (.ref y :: vs) zs) (upd (upd H2 dx (.own y)) y (.ins C dx [])) (fun v H3 => v = .non ∧ Q (.ref y) H3) (E σ)
theorem pe_makeKS (M : Mk X.K C f) (F : FnOk X.prog X.w X.K X.mg X.base CX k f fd ps sp) (hr : Room (k + 1) X.A) (hg : Gl X x) (hm : X.mg x = some (.ref C)) (hb : KBn X.K fd ps (n + 1) ks g gV) (hx : ∀ σ, PassesAt CX X σ (E σ)) (ha : PA X (e :: es) t) (hkw : PK X kws tk)
    (hall : (backToKw pos (keywordEach kws X.env)).all (·.1.isSome) = true := by rfl) (hks : (backToKw pos (keywordEach kws X.env)).filterMap (·.1) = ks := by rfl) (hdb : (x == ("__debug__" : Str)) = false := by decide)
    (he : starEach (e :: es) X.env = (false, eval e X.env) :: starEach es X.env := by rfl) (hpl : ((backTo pos (starEach (e :: es) X.env)).any (·.1) || (backToKw pos (keywordEach kws X.env)).any (·.1.isNone)) = false := by rfl) :
    PE X (.Call (.Name x p) (e :: es) kws pos) (tMakeKS C n ks.length sp gV E t tk) := by
  refine ⟨fun pins s σ H Q I h => wpAny_Call_Name_kw (ld_glob I hg hm ?_ hdb)⟩
  refine PySem.W.callWith_KW (h₀ := X.base) I.ok.mod.kin M.kp hall (thn (ha.run pos pins s σ H _ I h) fun us s1 ⟨vs, H1, I1, r, q⟩ => ?_) hpl he
  refine thn (hkw.run pos pins s1 σ H1 _ I1 q) fun ws s2 ⟨zs, H2, I2, rz, l1, l2, q2⟩ => ⟨I2.kIn, ?_⟩
  rw [hks]
  have hq := q2 (s2.heap.objs.size + 1) s2.heap.objs.size (I2.hok.fresh (Nat.le_succ _)) (I2.hok.fresh (Nat.le_refl _)) (Nat.ne_of_lt (Nat.lt_succ_self _))
  have J := Inv.made (C := C) I2
  have rel : Vals (V.ref (s2.heap.objs.size + 1) :: vs) (Value.ref (s2.heap.objs.size + 1) :: us) := .cons rfl r
  have len1 : (Value.ref (s2.heap.objs.size + 1) :: us).length = n + 1 := by rw [List.length_cons, ← r.length, l1]
  refine wpAny_call (make_map (f := f) I2.kIn M.makes M.init (beq_iff_eq.mp M.fn) (codeAny_mono (F.run _ X.stack _ _ ⟨_, ks.zip ws⟩ _ _ _ (E σ) (hr.make C us (ks.zip ws)) (J.env0.make C us (ks.zip ws)) (hb.to _ _ ws J.kIn len1 (rz.length.symm.trans l2)) (hb.rel rel rz) hq) fun r s' hq' => ?_))
  cases r with
  | error er => exact hx σ pins _ _ er s' J hq'
  | ok fl =>
    cases fl with
    | ret u =>
      obtain ⟨v, H', J3, rv, ev, q3⟩ := J.after hq'
      subst ev
      exact ⟨rv, ⟨V.ref (s2.heap.objs.size + 1), H', J3, rfl, q3⟩⟩
    | next => exact hq'.elim
    | brk => exact hq'.elim
    | cont => exact hq'.elim
theorem kFld (K : PySem.W.Frag) {ta : TE} {fl : Str} (he : PE X e ta) (hk : X.K = K := by rfl) (hb : attributeBase e fl X.env (eval e X.env) = eval e X.env := by rfl) : PE X (.Attribute e fl pos) (tFld K ta fl) := hk ▸ pe_fld he hb
end
end Bk

namespace Bk
open PySem PySem.Spec PyProof.Rows L2
section
variable {K : PySem.W.Frag} {H H' : Hp} {st c : Addr}
theorem TyX.keep {x : V} {t : Value} (h : TyX K H x t) (e : ∀ p o, x = .ref p → H p = some o → H' p = some o) : TyX K H' x t := by
  cases h with
  | base b =>
    cases b with
    | non => exact .base .non
    | bl y => exact .base (.bl y)
    | int i => exact .base (.int i)
    | str y => exact .base (.str y)
    | flt y => exact .base (.flt y)
    | lst q => exact .base (.lst (e _ _ rfl q))
    | frz q => exact .base (.frz (e _ _ rfl q))
    | tup q => exact .base (.tup (e _ _ rfl q))
    | dK q => exact .base (.dK (e _ _ rfl q))
    | dT q => exact .base (.dT (e _ _ rfl q))
    | ins q c1 c2 c3 c4 c5 => exact .base (.ins (e _ _ rfl q) c1 c2 c3 c4 c5)
  | byt b => exact .byt b
  | set q => exact .set (e _ _ rfl q)
  | kList q c => exact .kList q c
  | kTuple q c => exact .kTuple q c
  | kDict q c => exact .kDict q c
  | fTuple q => exact .fTuple (e _ _ rfl q)
  | fDict q => exact .fDict (e _ _ rfl q)
theorem sql_keep {a : Addr} {xs : List V} (h : SqL K H a xs) (e : ∀ o, H a = some o → H' a = some o) : SqL K H' a xs := by
  rcases h with (h | ⟨o, h⟩) | h
  · exact .inl (.inl (e _ h))
  · exact .inl (.inr ⟨o, e _ h⟩)
  · exact .inr h
theorem fcons {p : V → Prop} {x : V} {l : List V} (h : p x) (r : ∀ y ∈ l, p y) : ∀ y ∈ x :: l, p y := fun y m => by
  rcases List.mem_cons.mp m with rfl | m
  · exact h
  · exact r y m
/-- not the stream's own objects -/
def Off (st c : Addr) (x : V) : Prop := ∀ p, x = .ref p → p ≠ st ∧ p ≠ c
theorem Off.ref {p : Addr} (h1 : p ≠ st) (h2 : p ≠ c) : Off st c (.ref p) := fun q e => by cases e; exact ⟨h1, h2⟩
theorem Off.flat {x : V} (h : flatV x = true) : Off st c x := fun q e => by subst e; cases h
def Far (K : PySem.W.Frag) (H : Hp) (st c : Addr) (x : V) : Prop := Itm K H x ∧ Off st c x
theorem Far.kept {x : V} (h : Far K H st c x) (k : Kept st c H H') : Far K H' st c x := by
  obtain ⟨⟨t, a, b⟩, o⟩ := h
  exact ⟨⟨t, TyX.keep a fun p u e q => k p u (o p e).1 (o p e).2 q, b⟩, o⟩
theorem Far.str {z : Str} (h : z.length ≤ 100000) : Far K H st c (.str z) := ⟨.str h, Off.flat rfl⟩
theorem itm_kit {x : V} {k : String} (t : TyX K H x (.type k)) (h : kitB k "str" = some false) (hs : isStr x = false) : Itm K H x := ⟨_, t, by rw [hs]; exact kit_ty h, fun z e => by subst e; cases hs⟩
theorem sqs_kit {x : V} {k : String} {b1 b2 : Bool} (t : TyX K H x (.type k)) (h1 : kitB k "list" = some b1) (h2 : kitB k "tuple" = some b2) : Sqs K H x (b1 || b2) := ⟨_, t, kit2 h1 h2⟩
/-- a thing of any objects, none of them the stream's -/
def ThF (K : PySem.W.Frag) (H : Hp) (st c : Addr) (x : V) (o : Option (List V)) : Prop := Thing K H x o ∧ Off st c x ∧ ∀ xs, o = some xs → ∀ y ∈ xs, Far K H st c y
theorem ThF.kept {x : V} {o : Option (List V)} (h : ThF K H st c x o) (k : Kept st c H H') : ThF K H' st c x o := by
  obtain ⟨T, off, hy⟩ := h
  refine ⟨?_, off, fun xs e y m => (hy xs e y m).kept k⟩
  have sq : ∀ {b : Bool}, Sqs K H x b → Sqs K H' x b := fun ⟨t, a, b⟩ => ⟨t, TyX.keep a fun p u e q => k p u (off p e).1 (off p e).2 q, b⟩
  cases T with
  | @seq a xs hS b hi hl =>
    have ka : ∀ o, H a = some o → H' a = some o := fun o q => k a o (off a rfl).1 (off a rfl).2 q
    exact .seq (hS.imp (fun z => sql_keep z ka) fun z => ka _ z) (sq b) (fun y m => ((hy xs rfl y m).kept k).1) hl
  | no b => exact .no (sq b)
theorem thf_lst {a : Addr} {xs : List V} (h : H a = some (.lst xs)) (h1 : a ≠ st) (h2 : a ≠ c) (hl : xs.length ≤ 100000) (hy : ∀ y ∈ xs, Far K H st c y) : ThF K H st c (.ref a) (some xs) :=
  ⟨.seq (.inl (SqL.of h)) (sqs_kit (k := "list") (b1 := true) (b2 := false) (.base (.lst h)) (by decide +kernel) (by decide +kernel)) (fun y m => (hy y m).1) hl, Off.ref h1 h2, fun ys e y m => by cases e; exact hy y m⟩
theorem thf_tup {a : Addr} {xs : List V} (h : H a = some (.tup xs)) (h1 : a ≠ st) (h2 : a ≠ c) (hl : xs.length ≤ 100000) (hy : ∀ y ∈ xs, Far K H st c y) : ThF K H st c (.ref a) (some xs) :=
  ⟨.seq (.inr h) (sqs_kit (k := "tuple") (b1 := false) (b2 := true) (.base (.tup h)) (by decide +kernel) (by decide +kernel)) (fun y m => (hy y m).1) hl, Off.ref h1 h2, fun ys e y m => by cases e; exact hy y m⟩
theorem thf_no {x : V} {k : String} (t : TyX K H x (.type k)) (h1 : kitB k "list" = some false) (h2 : kitB k "tuple" = some false) (o : Off st c x) : ThF K H st c x none := ⟨.no (sqs_kit t h1 h2), o, fun _ e => by cases e⟩
/-- what a turn of the law starts from: the stream and the list of odd things -/
structure Ground (K : PySem.W.Frag) (H : Hp) (st c od : Addr) (n : Nat) : Prop where
  S : Strm H st c n
  n1 : od ≠ st
  n2 : od ≠ c
  odd : ∃ xs, H od = some (.lst xs) ∧ xs.length = 14 ∧ ∀ x ∈ xs, Far K H st c x
theorem Ground.kept {od : Addr} {n n' : Nat} (G : Ground K H st c od n) (S : Strm H' st c n') (k : Kept st c H H') : Ground K H' st c od n' := by
  obtain ⟨xs, h1, h2, h3⟩ := G.odd
  exact ⟨S, G.n1, G.n2, xs, k _ _ G.n1 G.n2 h1, h2, fun x m => (h3 x m).kept k⟩
theorem pk_lst {a : Addr} {xs : List V} (h : SqL K H a xs) (n1 : a ≠ st) (n2 : a ≠ c) : Pk K H st c (.ref a) xs.length (fun j => xs.getD j .non) :=
  .lst h n1 n2 fun j hj => by rw [List.getD_eq_getElem?_getD, List.getElem?_eq_getElem hj]; rfl
theorem getD_mem {xs : List V} {j : Nat} (h : j < xs.length) : xs.getD j .non ∈ xs := by
  rw [List.getD_eq_getElem?_getD, List.getElem?_eq_getElem h]
  exact List.getElem_mem h
/-! ### the answers as data -/
theorem dp_strs : ∀ zs : List Str, DpAll K H (zs.map V.str) (zs.map PyData.str)
  | [] => .nil
  | x :: r => .cons (.str x) (dp_strs r)
theorem depth_strs : ∀ zs : List Str, PyData.depthAll (zs.map PyData.str) = 0
  | [] => by simp [PyData.depthAll]
  | x :: r => by
    have := depth_strs r
    simp [PyData.depthAll, PyData.depth, this]
theorem wide_strs : ∀ zs : List Str, wideAll (zs.map PyData.str) = 0
  | [] => by simp [wideAll]
  | x :: r => by
    have := wide_strs r
    simp [wideAll, wide, this]
def dMade (zs : List Str) : PyData := .tuple [.str (Str.ofString "made"), .tuple (zs.map PyData.str)]
def dBad (i : Nat) : PyData := .tuple [.str (Str.ofString "bad"), .int (i : Int)]
theorem dp_made {p t : Addr} {zs : List Str} (hp : H p = some (.tup [.str (Str.ofString "made"), .ref t])) (ht : SqT K H t (zs.map V.str)) : Dp K H (.ref p) (dMade zs) := .tup (SqT.of hp) (.cons (.str _) (.cons (.tup ht (dp_strs zs)) .nil))
theorem dp_bad {p : Addr} {i : Nat} (hp : H p = some (.tup [.str (Str.ofString "bad"), .int (i : Int)])) : Dp K H (.ref p) (dBad i) := .tup (SqT.of hp) (.cons (.str _) (.cons (.int _) .nil))
theorem made_depth (zs : List Str) : (dMade zs).depth ≤ 3 := by
  have := depth_strs zs
  simp [dMade, PyData.depth, PyData.depthAll, this]
theorem bad_depth (i : Nat) : (dBad i).depth ≤ 3 := by simp [dBad, PyData.depth, PyData.depthAll]
theorem made_wide {zs : List Str} (h : zs.length ≤ 100) : wide (dMade zs) ≤ 90000 := by
  have := wide_strs zs
  simp [dMade, wide, wideAll, this]
  omega
theorem bad_wide (i : Nat) : wide (dBad i) ≤ 90000 := by simp [dBad, wide, wideAll]
end
end Bk

namespace Bk
open PySem PySem.Spec PyProof.Rows L2
section
variable {K : PySem.W.Frag}
/-! ### the top's facts -/
theorem fun_of {x qual : Str} {st : Stmt} {f : Addr} {fd : FuncData} (F : FunD K x qual (defArgs st) (defBody st) (defScope st) [] [] f fd) : Fun K x qual st f fd := by
  obtain ⟨⟨oc, od, dV, kV, doc, pm, an, cdv, ct, osl, rfl, lk, hcd, hD, _⟩, kp⟩ := F
  rcases hD with ⟨_, rfl⟩ | ⟨e, _⟩
  · exact ⟨⟨oc, od, kV, doc, pm, an, cdv, ct, osl, rfl, lk, hcd⟩, kp⟩
  · exact absurd rfl e
def mroE (C : Addr) : List Value → Bool
  | .ref C' :: bm => decide (C' = C) && PySem.HandSPX.refsVE bm
  | _ => false
theorem mroE_ok {C : Addr} {l : List Value} (h : mroE C l = true) : ∃ bm, l = .ref C :: bm ∧ PySem.HandSPX.refsVE bm = true := by
  unfold mroE at h
  split at h
  · obtain ⟨h1, h2⟩ := Bool.and_eq_true_iff.mp h
    have e := of_decide_eq_true h1
    subst e
    exact ⟨_, rfl, h2⟩
  · cases h
def sixE : List (Option Value) → Bool
  | [_, _, _, _, some (.builtin n), _] => decide (n = "ValueError.__new__")
  | _ => false
theorem sixE_ok {l : List (Option Value)} (h : sixE l = true) : ∃ a b c d e, l = [a, b, c, d, some (.builtin "ValueError.__new__"), e] := by
  unfold sixE at h
  split at h
  · have e := of_decide_eq_true h
    subst e
    exact ⟨_, _, _, _, _, rfl⟩
  · cases h
/-- the class at C is an own error class whose maker is ValueError's -/
def ownErr (K : PySem.W.Frag) (C : Addr) : Bool := match K.lookup C with
  | some ⟨.type t, _, .cls cd, sl⟩ => decide (t = "type") && (cd.hasDict && (!cd.hasDel && (mroE C cd.mro && sixE sl.toList)))
  | _ => false
theorem ownErr_ok {C : Addr} (h : ownErr K C = true) : ∃ nm q N bs bm sn sub ab col dd k0 k1 k2 k3 k5, K.lookup C = some (excClassObj nm q C N bs bm true sn sub ab col dd k0 k1 k2 k3 k5 "ValueError.__new__") ∧ PySem.HandSPX.refsVE bm = true := by
  unfold ownErr at h
  split at h
  · rename_i t dd cd sl q
    obtain ⟨h1, h⟩ := Bool.and_eq_true_iff.mp h
    obtain ⟨h2, h⟩ := Bool.and_eq_true_iff.mp h
    obtain ⟨h3, h⟩ := Bool.and_eq_true_iff.mp h
    obtain ⟨h4, h5⟩ := Bool.and_eq_true_iff.mp h
    have e1 := of_decide_eq_true h1
    obtain ⟨bm, e4, e5⟩ := mroE_ok h4
    obtain ⟨a, b, c, d, e, e6⟩ := sixE_ok h5
    obtain ⟨l⟩ := sl
    obtain ⟨c1, c2, c3, c4, c5, c6, c7, c8, c9, c10, c11⟩ := cd
    subst e1
    simp only at h2 h3 e4 e6
    subst h2 e4 e6
    have h3 : c11 = false := by
      cases c11 with
      | true => cases h3
      | false => rfl
    subst h3
    exact ⟨c1, c5, c4, c2, bm, c7, c8, c9, c10, dd, a, b, c, d, e, q, e5⟩
  · cases h
/-- what the law asks of an own error class beyond its facts by name -/
def errB (K : PySem.W.Frag) (C f : Addr) : Bool := ownErr K C && (xfB K C && (decide (PySem.W.subIn K (.ref C) (.type "BaseException") = some true) && (decide (PySem.W.typeIn K (.ref C) = some (.type "type")) && (PySem.W.keepIn K (.ref C) && (decide (PySem.W.typeIn K (.ref f) = some (.type "function")) &&
  decide (PySem.W.findIn K (.ref C) "__setattr__" = some (some (.builtin "object.__setattr__"))))))))
theorem errB_ok {mg : Str → Option Value} {x : Str} {C fI : Addr} {f : Str} (h : errB K C fI = true) (g : mg x = some (.ref C)) (noF : PySem.W.findIn K (.ref C) f = some none) (iC : PySem.W.findIn K (.ref C) "__init__" = some (some (.ref fI))) (te : PySem.W.exmOne K (.ref C) (.ref C) = some true) : ExT K mg x C fI f := by
  obtain ⟨h1, h⟩ := Bool.and_eq_true_iff.mp h
  obtain ⟨h2, h⟩ := Bool.and_eq_true_iff.mp h
  obtain ⟨h3, h⟩ := Bool.and_eq_true_iff.mp h
  obtain ⟨h4, h⟩ := Bool.and_eq_true_iff.mp h
  obtain ⟨h5, h⟩ := Bool.and_eq_true_iff.mp h
  obtain ⟨h6, h7⟩ := Bool.and_eq_true_iff.mp h
  exact ⟨g, ⟨ownErr_ok h1, of_decide_eq_true h7, of_decide_eq_true h3, of_decide_eq_true h4, h5⟩, xfB_ok h2, noF, iC, of_decide_eq_true h6, te⟩
/-- isinstance of the instances of the class at C -/
def insB (K : PySem.W.Frag) (C : Addr) : Bool := decide (PySem.W.findIn K (.ref C) "__class__" = some (some (.builtin "object.__class__"))) && (decide (PySem.W.specialIn K (.builtin "object.__class__") "__get__" = some (some (.builtin "getset_descriptor.__get__"))) &&
  (decide (PySem.W.takesIn K (.builtin "object.__class__") = some true) && decide (PySem.W.mroIn K C (.type "object") = some true)))
theorem insB_ok {C : Addr} (h : insB K C = true) (c : Cls K C) (H : Hp) (x dx : Addr) (fs : List (Str × V)) (e : H x = some (.ins C dx fs)) : TyX K H (.ref x) (.ref C) := by
  obtain ⟨h1, h⟩ := Bool.and_eq_true_iff.mp h
  obtain ⟨h2, h⟩ := Bool.and_eq_true_iff.mp h
  obtain ⟨h3, h4⟩ := Bool.and_eq_true_iff.mp h
  exact .base (.ins e c (of_decide_eq_true h1) (of_decide_eq_true h2) (of_decide_eq_true h3) (of_decide_eq_true h4))
end
end Bk

namespace Bk
open PySem PySem.Spec PyProof.Rows L2
def topS (i : Nat) : Stmt := PySem.Challenge.pw_blockshares_k02_folders_refused.main.body.getD i (.Pass ⟨0, 0, 0, 0⟩)
section
variable {P : Program} {w : World} {K : PySem.W.Frag} {mg : Str → Option Value} {base : Heap}
theorem scIsList : FnScope ["thing"] ["thing"] (defScope (topS 6)) := ⟨rfl, rfl, rfl, by decide +kernel, rfl, by decide +kernel, by decide +kernel⟩
theorem ok_is_list (B : Bi mg) {f : Addr} {fd : FuncData} (F : Fun K "is_list" "is_list" (topS 6) f fd) : FnOk P w K mg base CX0 1 f fd ["thing"] (spIsList K) := by
  refine F.ok scIsList (fun vs H Q E h => ?_) (fun cdv A outer s H vs Q E hr h => ?_)
  · obtain ⟨x, b, rfl, _⟩ := h
    rfl
  · obtain ⟨x, b, rfl, ⟨t, ty, kk⟩, q⟩ := h
    have nd := scIsList.nd
    refine ⟨_, (pss_one (ps_ret (pe_callB (kIsiT K) (by rfl) B.isinstance (by decide +kernel) (pa_cons (pv 0) (pa_cons (pe_tup (pa_cons (pe_bltn (v := .ty "list") (by rfl) B.list (by decide +kernel) rfl) (pa_cons (pe_bltn (v := .ty "tuple") (by rfl) B.tuple (by decide +kernel) rfl) pa_nil))) pa_nil))))), ?_⟩
    refine ⟨_, rfl, by show 2 ≤ sizeLine; decide, fun p np => ?_⟩
    have ty' : TyX K (upd H p (.tup [.ty "list", .ty "tuple"])) x t := TyX.same ty (same_upd np)
    exact ⟨x, p, _, t, _, b, rfl, upd_same, .cons (.ty _) (.cons (.ty _) .nil), ty', kk, q _ (same_upd np)⟩
theorem scIsName : FnScope ["thing", "letter"] ["thing"] (defScope (topS 7)) := ⟨rfl, rfl, rfl, by decide +kernel, rfl, by decide +kernel, by decide +kernel⟩
theorem ok_is_name (B : Bi mg) {f : Addr} {fd : FuncData} {t1 t2 : Tok} (g_LETTERS : mg "LETTERS" = some (.str (Str.ofString "abcdefghijklmnopqrstuvwxyz") t1)) (g_LONGEST_NAME : mg "LONGEST_NAME" = some (.int 8 t2)) (F : Fun K "is_name" "is_name" (topS 7) f fd) : FnOk P w K mg base CX0 1 f fd ["thing"] (spIsName K) := by
  refine F.ok scIsName (fun vs H Q E h => ?_) (fun cdv A outer s H vs Q E hr h => ?_)
  · obtain ⟨x, rfl, _⟩ := h
    rfl
  · obtain ⟨x, rfl, ⟨t, ty, kk, hz⟩, q⟩ := h
    have nd := scIsName.nd
    refine ⟨_, (pss_cons (ps_if (PW.pt (pw_or (pt_not (pt_val (pe_callB (kIsi K) (by rfl) B.isinstance (by decide +kernel) (pa_cons (pv 0) (pa_cons (pe_bltn (v := .ty "str") (by rfl) B.str (by decide +kernel) rfl) pa_nil))))) (pw_or1 (pt_not (pt_chain op_le op_le pe_int (pe_callB (kLen K) (by rfl) B.len PySem.boot_len (pa_cons (pv 0) pa_nil)) (pe_glob (v := .int 8) (by rfl) g_LONGEST_NAME ⟨_, rfl⟩)))))) (pss_one (ps_ret pe_bl)) pss_nil)
      (pss_one (ps_ret (pe_callB (kAll K rfl) (by rfl) B.all (by decide +kernel) (pa_cons (pe_lc (own := [("letter", 1)]) rfl nd (pi_str (pv 0)) (blkOk_by (N := ["thing", "letter"]) (sc := defScope (topS 7)) (by decide +kernel)) (fun _ _ _ _ _ => (pg_name (i := 1) nd rfl (Or.inl rfl))) (fun _ _ _ _ _ => pts_nil) (fun _ _ _ _ _ => (pe_cmpR op_in_sign (pv 1) (pe_glob (v := .str (Str.ofString "abcdefghijklmnopqrstuvwxyz")) (by rfl) g_LETTERS ⟨_, rfl⟩) rfl))) pa_nil))))), ?_⟩
    refine ⟨_, rfl, x, _, t, _, _, rfl, .ty _, ty, kk, _, rfl, ?_⟩
    cases x with
    | str z =>
      refine iteF ?_
      have hz1 : z.length ≤ sizeLine := Evl.sz_of (hz z rfl)
      refine ⟨_, rfl, _, _, rfl, ⟨hz1, rfl⟩, _, _, rfl, rfl, _, rfl, ?_⟩
      refine ite2 (fun h1 => ?_) (fun h1 => ?_)
      · refine ⟨_, _, rfl, rfl, _, rfl, ?_⟩
        refine ite2 (fun h2 => ?_) (fun h2 => ?_)
        · have e : isNameB (.str z) = false := by
            have h2 : ¬ z.length ≤ 8 := by
              intro h3
              have : decide ((z.length : Int) ≤ 8) = true := decide_eq_true (by omega)
              rw [this] at h2
              cases h2
            simp [isNameB, isNameS, h2]
          rw [e] at q
          exact q _ (Same.refl _)
        · have e : isNameB (.str z) = (z.cps.toList.map fun c => decide (c ∈ lettersL)).all id := by
            have h1 := of_decide_eq_true h1
            have h2 : z.length ≤ 8 := by
              by_cases h3 : (z.length : Int) ≤ 8
              · omega
              · rw [decide_eq_false h3] at h2
                exact (h2 rfl).elim
            simp [isNameB, isNameS, h2, show 1 ≤ z.length by omega]
          refine ⟨_, rfl, z, rfl, fun D nD => lc_it walk_str (Upto H D z.cps.toList fun c => V.bl (decide (c ∈ lettersL))) (.zero nD) (fun _ _ _ _ => trivial) ?_ ?_⟩
          · rintro i x H1 H2 hi u ⟨rfl, c, hc, rfl⟩
            have hc' : z.cps.toList[i]? = some c := by rw [← hc]; simp
            refine ⟨rfl, ?_⟩
            refine yes2 ?_
            exact ⟨_, rfl, c, _, rfl, rfl, u.next nD hc' (Same.refl _) (hz z rfl)⟩
          · intro H1 u
            have hD := u.all (by simp)
            rw [e] at q
            exact ⟨D, z.cps.toList.map fun c => decide (c ∈ lettersL), rfl, .of (by rw [List.map_map]; exact hD), q _ u.sm⟩
      · refine ⟨_, rfl, ?_⟩
        refine iteT ?_
        have e : isNameB (.str z) = false := by
          have h1 : ¬ 1 ≤ z.length := by
            intro h3
            exact h1 (decide_eq_true (by omega))
          simp [isNameB, isNameS, h1]
        rw [e] at q
        exact q _ (Same.refl _)
    | _ => exact iteT (iteT (q _ (Same.refl _)))
end
end Bk

namespace Bk
open PySem PySem.Spec PyProof.Rows L2
section
variable {P : Program} {w : World} {K : PySem.W.Frag} {mg : Str → Option Value} {base : Heap}
theorem scStart : FnScope ["_law_script"] ["_law_script"] (defScope (topS 17)) := ⟨rfl, rfl, rfl, by decide +kernel, rfl, by decide +kernel, by decide +kernel⟩
theorem ok_start (B : Bi mg) {f : Addr} {fd : FuncData} (F : Fun K "_law_start" "_law_start" (topS 17) f fd) : FnOk P w K mg base CX0 1 f fd ["_law_script"] (spStart K) := by
  refine F.ok scStart (fun vs H Q E h => ?_) (fun cdv A outer s H vs Q E hr h => ?_)
  · obtain ⟨a, ns, rfl, _⟩ := h
    rfl
  · obtain ⟨a, ns, rfl, hS, q⟩ := h
    refine ⟨_, (pss_one (ps_ret (pe_lst (pa_cons (pe_callTy (kList K) (by rfl) B.list (by decide +kernel) (pa_cons (pv 0) pa_nil)) (pa_cons pe_int (pa_cons pe_int (pa_cons pe_int pa_nil))))))), ?_⟩
    refine ⟨_, rfl, a, _, rfl, .inl hS, fun c nc => ⟨by show 4 ≤ sizeLine; decide, fun st nst => ?_⟩⟩
    have hne : c ≠ st := fun e => by
      rw [← e, upd_same] at nst
      cases nst
    have nst' : H st = none := by rw [upd_ne hne.symm] at nst; exact nst
    refine q st c _ (Same.trans (same_upd nc) (same_upd nst)) nst' nc ⟨hne, ns, 0, 0, 11, ?_, upd_same, by omega, by omega, by omega, by omega, by omega⟩
    rw [upd_ne hne, upd_same]
theorem scDraw : FnScope ["_law_stream", "_law_many", "_law_cell", "_law_digit", "_law_mixed"] ["_law_stream", "_law_many"] (defScope (topS 18)) := ⟨rfl, rfl, rfl, by decide +kernel, rfl, by decide +kernel, by decide +kernel⟩
theorem ok_draw (B : Bi mg) {f : Addr} {fd : FuncData} (F : Fun K "_law_draw" "_law_draw" (topS 18) f fd) : FnOk P w K mg base CX0 1 f fd ["_law_stream", "_law_many"] spDraw := by
  refine F.ok scDraw (fun vs H Q E h => ?_) (fun cdv A outer s H vs Q E hr h => ?_)
  · obtain ⟨st, c, n, k, rfl, _⟩ := h
    rfl
  · obtain ⟨st, c, n, k, rfl, S, hn, hk0, hk1, q⟩ := h
    have hu := hu_of hr
    have nd := scDraw.nd
    refine ⟨_, (Evl.pss_cut (ps_asg (pe_op op_add (pe_ix (kIxL K) (pv 0) pe_int (fun _ _ => rfl)) pe_int) (pg_sub (pv 0) pe_int set_list))
      (Evl.pss_cut (ps_if (PW.pt (pw_and (pt_cmpR op_eq (pe_ix (kIxL K) (pv 0) pe_int (fun _ _ => rfl)) pe_int (nomark _)) (pw_and1 (pt_cmpR (kNeD K hr.units) (pe_ix (kIxL K) (pv 0) pe_int (fun _ _ => rfl)) (pe_lst pa_nil) (nomark _))))) (pss_cons (ps_set (i := 2) nd rfl (Or.inl rfl) (pe_bm PySem.F.plainAttrs_list PySem.F.slot_list_pop PySem.F.type_list_pop mt_popAt (pe_ix (kIxL K) (pv 0) pe_int (fun _ _ => rfl)) (pa_cons pe_int pa_nil)))
      (pss_cons (ps_asg (pe_op op_mod (pe_callTy call_int1 (by rfl) B.int (by decide +kernel) (pa_cons (pe_op op_add (pe_op op_add (pe_op op_mul (pe_ix (kIxL K) (pv 0) pe_int (fun _ _ => rfl)) pe_int) (pv 2)) pe_int) pa_nil)) pe_int) (pg_sub (pv 0) pe_int set_list))
      (pss_one (ps_asg (pe_ifExp (pt_cmpR op_ge (pv 2) (pe_op op_pow pe_int pe_int) (nomark _)) (pv 2) pe_int) (pg_sub (pv 0) pe_int set_list))))) pss_nil)
      (pss_cons (ps_if (pt_cmpR op_gt (pe_ix (kIxL K) (pv 0) pe_int (fun _ _ => rfl)) pe_int (nomark _)) (pss_cons (ps_set (i := 3) nd rfl (Or.inl rfl) (pe_op op_mod (pe_callTy call_int1 (by rfl) B.int (by decide +kernel) (pa_cons (pe_ix (kIxL K) (pv 0) pe_int (fun _ _ => rfl)) pa_nil)) (pv 1)))
      (pss_cons (ps_asg (pe_op op_fdiv (pe_ix (kIxL K) (pv 0) pe_int (fun _ _ => rfl)) (pv 1)) (pg_sub (pv 0) pe_int set_list))
      (pss_one (ps_ret (pv 3))))) pss_nil)
      (pss_cons (ps_set (i := 4) nd rfl (Or.inl rfl) (pe_op op_mod (pe_callTy call_int1 (by rfl) B.int (by decide +kernel) (pa_cons (pe_op op_pow (pe_op op_add (pe_op op_add (pe_ix (kIxL K) (pv 0) pe_int (fun _ _ => rfl)) (pe_op op_mul pe_int (pe_ix (kIxL K) (pv 0) pe_int (fun _ _ => rfl)))) pe_int) pe_int) pa_nil)) pe_int))
      (pss_one (ps_ret (pe_op op_mod (pe_op op_mod (pe_callTy call_int1 (by rfl) B.int (by decide +kernel) (pa_cons (pe_op op_pow (pe_op op_add (pe_op op_add (pe_op op_mul (pv 4) pe_int) (pe_op op_mul pe_int (pe_ix (kIxL K) (pv 0) pe_int (fun _ _ => rfl)))) pe_int) pe_int) pa_nil)) pe_int) (pv 1)))))))), ?_⟩
    obtain ⟨ne, cells, a, b, m, hc, hs, ha, hb0, hb1, hm0, hm1⟩ := S
    refine ⟨fun σ' H1 => σ' = [some (.ref st), some (.int k), none, none, none] ∧ H1 st = some (.lst [.ref c, .int a, .int (b + 1), .int m]) ∧ H1 c = some (.lst (cells.map V.int)) ∧ Kept st c H H1, ?_, ?_⟩
    · refine ⟨_, rfl, st, _, _, _, rfl, rfl, SqL.of hs, atI_nat rfl, _, _, rfl, rfl, _, rfl, st, _, _, 2, rfl, rfl, hs, rfl, rfl, upd_same, by rw [upd_ne ne]; exact hc, fun x o n1 _ e => by rw [upd_ne n1]; exact e⟩
    rintro σ1 H1 ⟨rfl, hs1, hc1, kp1⟩
    refine ⟨fun σ' H2 => ∃ (a' m' : Int) (cells' : List Int) (v2 : Option V), 0 ≤ a' ∧ 0 ≤ m' ∧ m' < 2147483647 ∧ H2 c = some (.lst (cells'.map V.int)) ∧ H2 st = some (.lst [.ref c, .int a', .int (b + 1), .int m']) ∧ Kept st c H H2 ∧ σ' = [some (.ref st), some (.int k), v2, none, none], ?_, ?_⟩
    · refine ⟨_, rfl, st, _, _, _, rfl, rfl, SqL.of hs1, atI_nat rfl, rfl, _, rfl, ?_⟩
      refine ite2 (fun h => ?_) (fun h => ?_)
      · refine ⟨_, rfl, st, _, _, _, rfl, rfl, SqL.of hs1, atI_nat rfl, by show 0 ≤ sizeLine; exact Nat.zero_le _, fun l nl => ?_⟩
        have e1 := same_upd (H := H1) (o := HO.lst []) nl
        refine ⟨.list (cells.map PyData.int), .list [], .lst (SqL.of (e1 _ _ hc1)) (dp_ints cells), .lst (SqL.of upd_same) .nil, shaped_ints cells, rfl, _, rfl, ?_⟩
        rw [eqv_nil]
        have hs2 := e1 _ _ hs1
        have hc2 := e1 _ _ hc1
        have kp2 := kp1.trans (Same.kept e1)
        generalize upd H1 l (.lst []) = H2 at hs2 hc2 kp2 ⊢
        clear e1 nl
        cases cells with
        | nil => exact ⟨a, m, [], none, ha, hm0, hm1, hc2, hs2, kp2, rfl⟩
        | cons x r =>
          refine iteT ?_
          refine ⟨_, rfl, st, _, _, _, rfl, rfl, SqL.of hs2, atI_nat rfl, .inl ⟨rfl, _, SqL.of hc2⟩, c, _, 0, 0, _, rfl, rfl, hc2, by decide, by decide, (ixN_seq (Evl.ixN_nat (j := 0) (by simp))).1, rfl, ?_⟩
          have hc3 : (upd H2 c (HO.lst ((List.map V.int (x :: r)).eraseIdx 0))) c = some (.lst (r.map V.int)) := upd_same
          have hs3 : (upd H2 c (HO.lst ((List.map V.int (x :: r)).eraseIdx 0))) st = some (.lst [.ref c, .int a, .int (b + 1), .int m]) := by rw [upd_ne ne.symm]; exact hs2
          have kp3 : Kept st c H (upd H2 c (HO.lst ((List.map V.int (x :: r)).eraseIdx 0))) := kp2.trans fun y o _ n2 e => by rw [upd_ne n2]; exact e
          generalize upd H2 c (HO.lst ((List.map V.int (x :: r)).eraseIdx 0)) = H3 at hc3 hs3 kp3 ⊢
          have m0 := Int.emod_nonneg (m * 8191 + x + 3) (show (2147483647 : Int) ≠ 0 by omega)
          have m1 := Int.emod_lt_of_pos (m * 8191 + x + 3) (show (0 : Int) < 2147483647 by omega)
          refine ⟨_, rfl, st, _, _, _, rfl, rfl, SqL.of hs3, atI_nat rfl, _, _, rfl, rfl, .inl ⟨by omega, by omega⟩, _, rfl, _, _, rfl, rfl, _, _, rfl, rfl, .inl ⟨_, rfl, ?_⟩⟩
          refine ⟨_, _, rfl, rfl, by omega, ?_⟩
          refine ⟨_, rfl, st, _, _, 3, rfl, rfl, hs3, rfl, ?_⟩
          refine ⟨_, rfl, _, _, rfl, rfl, ⟨by omega, by omega, by omega⟩, _, _, rfl, rfl, _, rfl, ?_⟩
          refine ite2 (fun hx => ?_) (fun hx => ?_)
          · have hx : (10 : Int) ^ (18 : Int).toNat ≤ x := of_decide_eq_true hx
            have hp : (0 : Int) ≤ 10 ^ (18 : Int).toNat := by decide
            refine ⟨_, rfl, _, rfl, st, _, _, 1, rfl, rfl, upd_same, rfl, ?_⟩
            refine ⟨x, _, r, some (.int x), by omega, m0, m1, ?_, upd_same, ?_, rfl⟩
            · rw [upd_ne ne, upd_ne ne]; exact hc3
            · exact kp3.trans fun y o n1 _ e => by rw [upd_ne n1, upd_ne n1]; exact e
          · refine ⟨_, rfl, st, _, _, 1, rfl, rfl, upd_same, rfl, ?_⟩
            refine ⟨0, _, r, some (.int x), by omega, m0, m1, ?_, upd_same, ?_, rfl⟩
            · rw [upd_ne ne, upd_ne ne]; exact hc3
            · exact kp3.trans fun y o n1 _ e => by rw [upd_ne n1, upd_ne n1]; exact e
      · exact ⟨a, m, cells, none, ha, hm0, hm1, hc1, hs1, kp1, rfl⟩
    · rintro σ' H2 ⟨a', m', cells', v2, ha', hm0', hm1', hc2, hs2, kp2, rfl⟩
      refine ⟨_, rfl, st, _, _, _, rfl, rfl, SqL.of hs2, atI_nat rfl, _, _, rfl, rfl, _, rfl, ?_⟩
      refine ite2 (fun h => ?_) (fun h => ?_)
      · have h := of_decide_eq_true h
        refine ⟨_, rfl, st, _, _, _, rfl, rfl, SqL.of hs2, atI_nat rfl, .inl ⟨_, rfl, ?_⟩⟩
        refine ⟨_, rfl, _, _, rfl, rfl, hk0, ?_⟩
        refine ⟨_, rfl, st, _, _, _, rfl, rfl, SqL.of hs2, atI_nat rfl, ?_⟩
        refine ⟨_, rfl, _, _, rfl, rfl, ⟨hk0, by omega⟩, ?_⟩
        refine ⟨_, rfl, st, _, _, 1, rfl, rfl, hs2, rfl, ?_⟩
        refine ⟨_, rfl, ?_⟩
        refine q (a' % k) _ (Int.emod_nonneg _ (by omega)) (Int.emod_lt_of_pos _ hk0) ⟨ne, cells', a' / k, b + 1, m', by rw [upd_ne ne]; exact hc2, upd_same, Int.ediv_nonneg ha' (by omega), by omega, by omega, hm0', hm1'⟩ (kp2.trans fun x o n1 _ e => by rw [upd_ne n1]; exact e)
      · refine ⟨_, rfl, st, _, _, _, rfl, rfl, SqL.of hs2, atI_nat rfl, ?_⟩
        refine ⟨_, rfl, st, _, _, _, rfl, rfl, SqL.of hs2, atI_nat rfl, _, _, rfl, rfl, .inl ⟨by omega, by omega⟩, ?_⟩
        refine ⟨_, _, rfl, rfl, _, _, rfl, rfl, _, _, rfl, rfl, ⟨by omega, by omega, by omega⟩, .inl ⟨_, rfl, ?_⟩⟩
        refine ⟨_, _, rfl, rfl, by omega, ?_⟩
        have d0 := Int.emod_nonneg ((m' + 7919 * (b + 1) + 104729) ^ (5 : Int).toNat) (show (2147483629 : Int) ≠ 0 by omega)
        have d1 := Int.emod_lt_of_pos ((m' + 7919 * (b + 1) + 104729) ^ (5 : Int).toNat) (show (0 : Int) < 2147483629 by omega)
        generalize (m' + 7919 * (b + 1) + 104729) ^ (5 : Int).toNat % 2147483629 = mx at d0 d1 ⊢
        refine ⟨_, rfl, _, _, rfl, rfl, .inl ⟨by omega, by omega⟩, ?_⟩
        refine ⟨_, rfl, st, _, _, _, rfl, rfl, SqL.of hs2, atI_nat rfl, _, _, rfl, rfl, .inl ⟨by omega, by omega⟩, ?_⟩
        refine ⟨_, _, rfl, rfl, _, _, rfl, rfl, _, _, rfl, rfl, ⟨by omega, by omega, by omega⟩, .inl ⟨_, rfl, ?_⟩⟩
        refine ⟨_, _, rfl, rfl, by omega, ?_⟩
        refine ⟨_, rfl, _, _, rfl, rfl, hk0, ?_⟩
        exact q _ _ (Int.emod_nonneg _ (by omega)) (Int.emod_lt_of_pos _ hk0) ⟨ne, cells', a', b + 1, m', hc2, hs2, ha', by omega, by omega, hm0', hm1'⟩ kp2
theorem scPick : FnScope ["_law_stream", "_law_some"] ["_law_stream", "_law_some"] (defScope (topS 19)) := ⟨rfl, rfl, rfl, by decide +kernel, rfl, by decide +kernel, by decide +kernel⟩
theorem pk_len {H : Hp} {st c : Addr} {x : V} {len : Nat} {f : Nat → V} (p : Pk K H st c x len f) : LenV K x H len := by
  cases p with
  | lst h => exact .inl ⟨_, h, rfl⟩
  | tup h => exact .inr ⟨_, h, rfl⟩
  | str hz => exact ⟨hz, rfl⟩
theorem pk_at {H H' : Hp} {st c : Addr} {x : V} {len : Nat} {f : Nat → V} {j : Nat} {Q : VK} (p : Pk K H st c x len f) (k : Kept st c H H') (hj : j < len) (q : Q (f j) H') : rIx K x (.int (j : Int)) H' Q := by
  have sq : ∀ {a : Addr} {u : HO}, Rd H a u → a ≠ st → a ≠ c → Rd H' a u := fun h n1 n2 => h.elim (fun h => .inl (k _ _ n1 n2 h)) fun ⟨o, h⟩ => .inr ⟨o, k _ _ n1 n2 h⟩
  cases p with
  | lst h n1 n2 e => exact .inl ⟨_, _, _, _, rfl, rfl, h.imp (fun h => sq h n1 n2) id, atI_nat (e j hj), q⟩
  | tup h n1 n2 e => exact .inr (.inl ⟨_, _, _, _, rfl, rfl, h.imp (fun h => sq h n1 n2) id, atI_nat (e j hj), q⟩)
  | str hz e =>
    obtain ⟨ch, h1, h2⟩ := e j hj
    rw [h2] at q
    exact .inr (.inr ⟨_, _, ch, rfl, rfl, hz, atI_nat h1, q⟩)
theorem ok_pick (B : Bi mg) {f f1 : Addr} {fd fd1 : FuncData} (c__law_draw : Cal P w K mg base CX0 1 "_law_draw" f1 fd1 ["_law_stream", "_law_many"] spDraw) (F : Fun K "_law_pick" "_law_pick" (topS 19) f fd) : FnOk P w K mg base CX0 2 f fd ["_law_stream", "_law_some"] (spPick K) := by
  refine F.ok scPick (fun vs H Q E h => ?_) (fun cdv A outer s H vs Q E hr h => ?_)
  · obtain ⟨st, c, n, len, x, f, rfl, _⟩ := h
    rfl
  · obtain ⟨st, c, n, len, x, f, rfl, S, hn, h0, h1, pk, q⟩ := h
    have hr__law_draw := hr
    have nd := scPick.nd
    refine ⟨_, (pss_one (ps_ret (pe_ix (kIx K) (pv 1) (pe_call c__law_draw.ok hr__law_draw (by rfl) c__law_draw.g c__law_draw.kp c__law_draw.b .nil pass0 (pa_cons (pv 0) (pa_cons (pe_callB (kLen K) (by rfl) B.len PySem.boot_len (pa_cons (pv 1) pa_nil)) pa_nil))) (fun _ _ => rfl)))), ?_⟩
    refine ⟨_, rfl, _, rfl, _, rfl, _, _, rfl, pk_len pk, st, c, n, _, rfl, S, hn, by omega, by omega, fun d H' d0 d1 S' kp => ?_⟩
    have e : ((d.toNat : Nat) : Int) = d := Int.toNat_of_nonneg d0
    rw [← e]
    exact pk_at pk kp (by omega) (q d.toNat H' (by omega) S' kp)
end
end Bk

namespace Bk
open PySem PySem.Spec PyProof.Rows L2
open TL (tl)
section
variable {P : Program} {w : World} {K : PySem.W.Frag} {mg : Str → Option Value} {base : Heap}
theorem width_at : ∀ j : Nat, j < 6 → ∃ wd : Nat, ([V.int 1, V.int 1, V.int 2, V.int 3, V.int 5, V.int 8] : List V)[j]? = some (V.int (wd : Int)) ∧ 1 ≤ wd ∧ wd ≤ 8
  | 0, _ => ⟨1, rfl, by decide, by decide⟩
  | 1, _ => ⟨1, rfl, by decide, by decide⟩
  | 2, _ => ⟨2, rfl, by decide, by decide⟩
  | 3, _ => ⟨3, rfl, by decide, by decide⟩
  | 4, _ => ⟨5, rfl, by decide, by decide⟩
  | 5, _ => ⟨8, rfl, by decide, by decide⟩
  | n + 6, h => absurd h (by omega)
/-- a text of one sign -/
def sg (c : Nat) : Str := ⟨#[c]⟩
theorem join_sg (cs : List Nat) : (Txt.join (Str.ofString "") (cs.map sg)).cps.toList = cs := by
  show TL.tl (Txt.join (Str.ofString "") (cs.map sg)) = cs
  rw [TL.join_eq, TL.tl_join, List.map_map]
  rw [show TL.tl (Str.ofString "") = [] from rfl]
  have h : ∀ l : List Nat, TL.joinL [] (l.map (TL.tl ∘ sg)) = l := by
    intro l
    induction l with
    | nil => rfl
    | cons a r ih =>
      cases r with
      | nil => rfl
      | cons b r =>
        show [a] ++ ([] ++ TL.joinL [] ((b :: r).map (TL.tl ∘ sg))) = a :: b :: r
        rw [ih]
        rfl
  exact h cs
theorem isName_of {z : Str} (h1 : 1 ≤ z.cps.toList.length) (h2 : z.cps.toList.length ≤ 8) (h : ∀ c ∈ z.cps.toList, c ∈ lettersL) : isNameS z = true := by
  have e : z.length = z.cps.toList.length := by simp [Str.length]
  unfold isNameS
  rw [e, decide_eq_true h1, decide_eq_true h2, List.all_eq_true.mpr fun c hc => decide_eq_true (h c hc)]
  rfl
theorem scName : FnScope ["_law_stream", "_law_width", "_law_k"] ["_law_stream"] (defScope (topS 21)) := ⟨rfl, rfl, rfl, by decide +kernel, rfl, by decide +kernel, by decide +kernel⟩
theorem ok_name (B : Bi mg) {f f1 f2 : Addr} {fd fd1 fd2 : FuncData} (c__law_draw : Cal P w K mg base CX0 1 "_law_draw" f1 fd1 ["_law_stream", "_law_many"] spDraw) (c__law_pick : Cal P w K mg base CX0 2 "_law_pick" f2 fd2 ["_law_stream", "_law_some"] (spPick K))
    (F : Fun K "_law_name" "_law_name" (topS 21) f fd) : FnOk P w K mg base CX0 3 f fd ["_law_stream"] spName := by
  refine F.ok scName (fun vs H Q E h => ?_) (fun cdv A outer s H vs Q E hr h => ?_)
  · obtain ⟨st, c, n, rfl, _⟩ := h
    rfl
  · obtain ⟨st, c, n, rfl, S, hn, q⟩ := h
    have hr__law_pick := hr
    have hr__law_draw : Room 1 _ := hr.mono (by decide)
    have nd := scName.nd
    refine ⟨_, (Evl.pss_cut (ps_set (i := 1) nd rfl (Or.inl rfl) (pe_ix (kIxL K) (pe_lst (pa_cons pe_int (pa_cons pe_int (pa_cons pe_int (pa_cons pe_int (pa_cons pe_int (pa_cons pe_int pa_nil))))))) (pe_call c__law_draw.ok hr__law_draw (by rfl) c__law_draw.g c__law_draw.kp c__law_draw.b .nil pass0 (pa_cons (pv 0) (pa_cons pe_int pa_nil))) (fun _ _ => rfl)))
      (pss_one (ps_ret (pe_join pe_str (pe_lc (own := [("_law_k", 2)]) rfl nd (pi_range1 (by rfl) B.range (pa_cons (pv 1) pa_nil)) (blkOk_by (N := ["_law_stream", "_law_width", "_law_k"]) (sc := defScope (topS 21)) (by decide +kernel)) (fun _ _ _ _ _ => (pg_name (i := 2) nd rfl (Or.inl rfl))) (fun _ _ _ _ _ => pts_nil) (fun _ _ _ _ _ => (pe_call c__law_pick.ok hr__law_pick (by rfl) c__law_pick.g c__law_pick.kp c__law_pick.b .nil pass0 (pa_cons (pv 0) (pa_cons pe_str pa_nil))))))))), ?_⟩
    refine ⟨fun σ' H1 => ∃ wd : Nat, 1 ≤ wd ∧ wd ≤ 8 ∧ σ' = [some (.ref st), some (.int (wd : Int)), none] ∧ Strm H1 st c (n + 1) ∧ Kept st c H H1, ?_, ?_⟩
    · refine ⟨by show 6 ≤ sizeLine; decide, fun l nl => ?_⟩
      have k1 := same_upd (o := HO.lst [V.int 1, V.int 1, V.int 2, V.int 3, V.int 5, V.int 8]) nl
      obtain ⟨n1, n2⟩ := S.notfree nl
      refine ⟨_, rfl, st, c, n, 6, rfl, S.same k1, by omega, by omega, by omega, fun d H1 d0 d1 S1 kp => ?_⟩
      obtain ⟨wd, e1, w1, w8⟩ := width_at d.toNat (by omega)
      refine ⟨l, _, _, _, rfl, rfl, SqL.of (kp l _ n1 n2 upd_same), ?_, wd, w1, w8, rfl, S1, (Same.kept k1).trans kp⟩
      rw [← Int.toNat_of_nonneg d0]
      exact atI_nat e1
    · rintro σ1 H1 ⟨wd, w1, w8, rfl, S1, k1⟩
      refine ⟨⟨_, rfl⟩, _, rfl, (wd : Int), rfl, by omega, by omega, fun D nD => ?_⟩
      obtain ⟨n1, n2⟩ := S1.notfree nD
      have hD0 := k1.free nD n1 n2
      refine lc_it walk_range (fun i H2 => ∃ cs : List Nat, cs.length = i ∧ (∀ x ∈ cs, x ∈ lettersL) ∧ H2 D = some (.lst ((cs.map sg).map V.str)) ∧ Strm H2 st c (n + 1 + i) ∧ Kept st c H H2) ?_ (fun _ _ _ _ => trivial) ?_ ?_
      · exact ⟨[], rfl, (fun x z => nomatch z), upd_same, S1.same (same_upd nD), k1.trans (Same.kept (same_upd nD))⟩
      · rintro i x H2 H3 hi ⟨cs, e1, e2, e3, S2, k2⟩ ⟨rfl, rfl⟩
        have hi : i < wd := by omega
        refine ⟨rfl, yes2 ?_⟩
        refine ⟨_, rfl, st, c, n + 1 + i, 26, _, fun j => V.str (sg (lettersL.getD j 0)), rfl, S2, by omega, by omega, by omega, ?_, fun j H4 hj S4 k4 => ?_⟩
        · refine Pk.str (z := Str.ofString "abcdefghijklmnopqrstuvwxyz") (by decide +kernel) fun j hj => ⟨lettersL.getD j 0, ?_, rfl⟩
          have hj : j < lettersL.length := hj
          show lettersL[j]? = _
          rw [List.getD_eq_getElem?_getD, List.getElem?_eq_getElem hj]
          rfl
        · refine ⟨_, k4 D _ n1 n2 e3, ?_, cs ++ [lettersL.getD j 0], by rw [List.length_append, e1]; rfl, ?_, ?_, ?_, ?_⟩
          · rw [List.length_map, List.length_map]
            exact Evl.sz_lt (by omega)
          · intro x hx
            rcases List.mem_append.mp hx with hx | hx
            · exact e2 x hx
            · rw [List.mem_singleton.mp hx]
              have hj : j < lettersL.length := hj
              rw [List.getD_eq_getElem?_getD, List.getElem?_eq_getElem hj]
              exact List.getElem_mem hj
          · rw [upd_same, List.map_append, List.map_append]
            rfl
          · exact S4.upd n1 n2
          · exact (k2.trans k4).grow hD0
      · rintro H2 ⟨cs, e1, e2, e3, S2, k2⟩
        have e1 : cs.length = wd := by omega
        refine ⟨_, D, cs.map sg, rfl, rfl, .inl (SqL.of e3), ?_, ?_⟩
        · have h1 : ∀ l : List Nat, ((l.map sg).map (·.length)).sum = l.length := by
            intro l
            induction l with
            | nil => rfl
            | cons a r ih =>
              simp only [List.map_cons, List.sum_cons, List.length_cons, ih]
              show 1 + r.length = r.length + 1
              omega
          rw [h1, List.length_map, show (Str.ofString "").length = 0 from rfl]
          omega
        · refine q _ H2 (isName_of ?_ ?_ ?_) (S2.more (by omega)) k2 <;> rw [join_sg]
          · omega
          · omega
          · exact e2
end
end Bk

namespace Bk
open PySem PySem.Spec PyProof.Rows L2
/-- the names that are taken where the drawn one stands already -/
def backNames : List Str := (Str.ofString "abcdefghijklmnop").cps.toList.map fun c => sg c ++ Str.ofString "jq"
theorem back_nodup : backNames.Nodup := by decide +kernel
theorem back_len : backNames.length = 16 := by decide +kernel
theorem back_names : ∀ z ∈ backNames, isNameS z = true := by decide +kernel
theorem back_sizes : ∀ z ∈ backNames, z.length ≤ 100 := by decide +kernel
/-- the first name that is not yet among those found -/
theorem fresh_name (z : Str) (hz : isNameS z = true) (found : List Str) (hf : found.length < 16) : ∃ y r, (z :: backNames).filter (fun x => decide (¬ x ∈ found)) = y :: r ∧ isNameS y = true ∧ y ∉ found := by
  cases e : (z :: backNames).filter (fun x => decide (¬ x ∈ found)) with
  | nil =>
    have h : ∀ x ∈ backNames, x ∈ found := by
      intro x hx
      by_cases h : x ∈ found
      · exact h
      · have : x ∈ (z :: backNames).filter (fun x => decide (¬ x ∈ found)) := List.mem_filter.mpr ⟨List.mem_cons_of_mem _ hx, decide_eq_true h⟩
        rw [e] at this
        cases this
    have := pigeon backNames found back_nodup h
    rw [back_len] at this
    omega
  | cons y r =>
    have hy : y ∈ (z :: backNames).filter (fun x => decide (¬ x ∈ found)) := by rw [e]; exact List.mem_cons_self
    obtain ⟨h1, h2⟩ := List.mem_filter.mp hy
    refine ⟨y, r, rfl, ?_, of_decide_eq_true h2⟩
    rcases List.mem_cons.mp h1 with h | h
    · rw [h]; exact hz
    · exact back_names y h
section
variable {P : Program} {w : World} {K : PySem.W.Frag} {mg : Str → Option Value} {base : Heap}
theorem scNames : FnScope ["_law_stream", "_law_many", "_law_found", "_law_k", "_law_spare", "_law_letter", "_law_x"] ["_law_stream", "_law_many"] (defScope (topS 22)) := ⟨rfl, rfl, rfl, by decide +kernel, rfl, by decide +kernel, by decide +kernel⟩
theorem ok_names (B : Bi mg) {f f1 : Addr} {fd fd1 : FuncData} (c__law_name : Cal P w K mg base CX0 3 "_law_name" f1 fd1 ["_law_stream"] spName)
    (F : Fun K "_law_names" "_law_names" (topS 22) f fd) : FnOk P w K mg base CX0 4 f fd ["_law_stream", "_law_many"] (spNames K) := by
  refine F.ok scNames (fun vs H Q E h => ?_) (fun cdv A outer s H vs Q E hr h => ?_)
  · obtain ⟨st, c, n, many, rfl, _⟩ := h
    rfl
  · obtain ⟨st, c, n, many, rfl, S, hn, hm, q⟩ := h
    have hr__law_name := hr
    have nd := scNames.nd
    refine ⟨_, (pss_cons (ps_set (i := 2) nd rfl (Or.inr rfl) (pe_lst pa_nil))
      (pss_cons (ps_for PassesOwn.never rfl (pi_range1 (by rfl) B.range (pa_cons (pv 1) pa_nil)) (pg_name (i := 3) nd rfl (Or.inl rfl)) (Evl.pss_cut (ps_set (i := 4) nd rfl (Or.inl rfl) (pe_op op_cat (pe_lst (pa_cons (pe_call c__law_name.ok hr__law_name (by rfl) c__law_name.g c__law_name.kp c__law_name.b .nil pass0 (pa_cons (pv 0) pa_nil)) pa_nil)) (pe_lc (own := [("_law_letter", 5)]) rfl nd (pi_str pe_str) (blkOk_by (N := ["_law_stream", "_law_many", "_law_found", "_law_k", "_law_spare", "_law_letter", "_law_x"]) (sc := defScope (topS 22)) (by decide +kernel)) (fun _ _ _ _ _ => (pg_name (i := 5) nd rfl (Or.inl rfl))) (fun _ _ _ _ _ => pts_nil) (fun _ _ _ _ _ => (pe_op op_add_str (pv 5) pe_str)))))
      (pss_one (ps_expr (pe_bm PySem.F.plainAttrs_list PySem.F.slot_list_append PySem.F.type_list_append mt_append (pv 2) (pa_cons (pe_ix (kIxL K) (pe_lc (own := [("_law_x", 6)]) rfl nd (kPiL K (pv 4)) (blkOk_by (N := ["_law_stream", "_law_many", "_law_found", "_law_k", "_law_spare", "_law_letter", "_law_x"]) (sc := defScope (topS 22)) (by decide +kernel)) (fun _ _ _ _ _ => (pg_name (i := 6) nd rfl (Or.inl rfl))) (fun _ _ _ _ _ => (pts_one (pt_cmpR (kNotIn K) (pv 6) (pv 2) rfl))) (fun _ _ _ _ _ => (pv 6))) pe_int (fun _ _ => rfl)) pa_nil))))))
      (pss_one (ps_ret (pv 2))))), ?_⟩
    refine ⟨by show 0 ≤ sizeLine; exact Nat.zero_le _, fun l nl => ?_⟩
    obtain ⟨l1, l2⟩ := S.notfree nl
    refine ⟨_, rfl, (many : Int), rfl, by omega, by omega, ?_⟩
    refine for_it walk_range (fun i σ H1 => ∃ (zs : List Str) (v3 v4 : Option V), σ = [some (.ref st), some (.int (many : Int)), some (.ref l), v3, v4, none, none] ∧ zs.length = i ∧ zs.Nodup ∧ (∀ z ∈ zs, isNameS z = true) ∧
      H1 l = some (.lst (zs.map V.str)) ∧ Strm H1 st c (n + 9 * i) ∧ Kept st c H H1) ?_ (fun _ _ _ _ _ => trivial) ?_ ?_
    · exact ⟨[], none, none, rfl, rfl, List.nodup_nil, (fun _ z => nomatch z), upd_same, S.same (same_upd nl), Same.kept (same_upd nl)⟩
    · rintro i x σ H1 H2 hi ⟨zs, v3, v4, rfl, z1, z2, z3, z4, S1, k1⟩ ⟨rfl, rfl⟩
      have hi : i < many := by omega
      -- the spare ones
      refine ⟨fun σ' H3 => ∃ (p : Addr) (z : Str), isNameS z = true ∧ σ' = [some (.ref st), some (.int (many : Int)), some (.ref l), some (.int (0 + (i : Int))), some (.ref p), none, none] ∧ p ≠ l ∧
        H3 p = some (.lst ((z :: backNames).map V.str)) ∧ H3 l = some (.lst (zs.map V.str)) ∧ Strm H3 st c (n + 9 * i + 9) ∧ Kept st c H H3, ?_, ?_⟩
      · refine ⟨_, rfl, st, c, n + 9 * i, rfl, S1, by omega, fun z H3 hz S3 k3 => ?_⟩
        refine ⟨by show 1 ≤ sizeLine; decide, fun a na => ?_⟩
        have ka := same_upd (o := HO.lst [V.str z]) na
        obtain ⟨a1, a2⟩ := S3.notfree na
        have S4 : Strm (upd H3 a (.lst [V.str z])) st c (n + 9 * i + 9) := S3.same ka
        have zl : (upd H3 a (.lst [V.str z])) l = some (.lst (zs.map V.str)) := ka _ _ (k3 l _ l1 l2 z4)
        refine ⟨_, rfl, fun D nD => lc_it walk_str (Upto (upd H3 a (.lst [V.str z])) D (Str.ofString "abcdefghijklmnop").cps.toList fun ch => V.str (sg ch ++ Str.ofString "jq")) (.zero nD) (fun _ _ _ _ => trivial) ?_ ?_⟩
        · rintro j x H5 H6 hj u ⟨rfl, ch, hc, rfl⟩
          refine ⟨rfl, yes2 ?_⟩
          have hc' : (Str.ofString "abcdefghijklmnop").cps.toList[j]? = some ch := by rw [← hc]; simp
          exact ⟨_, rfl, _, _, rfl, rfl, (by show 3 ≤ sizeLine; decide), u.next nD hc' (Same.refl _) (by decide)⟩
        · intro H5 u
          have eD := u.all (by simp)
          have sm := u.sm
          refine ⟨a, D, [V.str z], backNames.map V.str, rfl, rfl, sm _ _ upd_same, ?_, ?_, fun p np => ?_⟩
          · rw [eD]
            unfold backNames
            rw [List.map_map]
            rfl
          · rw [List.length_map, back_len]
            show 1 + 16 ≤ sizeLine
            decide
          · have sp := same_upd (o := HO.lst ([V.str z] ++ backNames.map V.str)) np
            refine ⟨p, z, hz, rfl, (ne_of_none (sm _ _ zl) np).symm, upd_same, sp _ _ (sm _ _ zl), (S4.same sm).same sp, ((k1.trans k3).trans (Same.kept ka)).trans ((Same.kept sm).trans (Same.kept sp))⟩
      · rintro σ2 H3 ⟨p, z, hz, rfl, npl, ep, el, S3, k3⟩
        obtain ⟨y, r, ey, hy, hny⟩ := fresh_name z hz zs (by omega)
        refine ⟨_, rfl, .inl ⟨rfl, _, SqL.of el⟩, ?_⟩
        refine ⟨_, rfl, p, rfl, ⟨_, SqL.of ep⟩, fun D nD => lc_it (walk_list (xs := (z :: backNames).map V.str)) (UptoF H3 D (z :: backNames) V.str fun x => decide (¬ x ∈ zs)) (.zero nD) (fun j H4 _ u => SqL.of (u.sm _ _ ep)) ?_ ?_⟩
        · rintro j x H4 H5 hj u ⟨rfl, hx⟩
          rw [List.getElem?_map] at hx
          obtain ⟨y0, hy0, rfl⟩ := Option.map_eq_some_iff.mp hx
          refine ⟨rfl, ?_⟩
          refine ⟨_, rfl, _, rfl, l, _, rfl, .inl (SqL.of (u.sm _ _ el)), rfl, flat_strs _, _, rfl, ?_⟩
          rw [inV_strs]
          by_cases hm : y0 ∈ zs
          · rw [decide_eq_true hm]
            refine iteF ?_
            exact u.no hy0 (by simp [hm]) (Same.refl _)
          · rw [decide_eq_false hm]
            refine iteT ?_
            exact ⟨_, rfl, u.yes nD hy0 (by simp [hm]) (Same.refl _) (by rw [List.length_cons, back_len]; decide)⟩
        · intro H4 u
          have eD := u.all (by rw [List.length_map])
          rw [ey] at eD
          have el4 := u.sm _ _ el
          refine ⟨D, _, 0, V.str y, rfl, rfl, SqL.of eD, atI_nat (j := 0) rfl, l, _, _, rfl, rfl, el4, ?_, ?_⟩
          · rw [List.length_map]
            exact Evl.sz_lt (by omega)
          · have S4 := S3.same u.sm
            refine ⟨zs ++ [y], _, _, rfl, by rw [List.length_append, z1]; rfl, ?_, ?_, ?_, ?_, ?_⟩
            · rw [List.nodup_append]
              exact ⟨z2, (by simp), fun a ha b hb e => hny (by rw [List.mem_singleton.mp hb] at e; rw [← e]; exact ha)⟩
            · intro x hx
              rcases List.mem_append.mp hx with hx | hx
              · exact z3 x hx
              · rw [List.mem_singleton.mp hx]; exact hy
            · rw [upd_same, List.map_append]
              rfl
            · exact (S4.upd l1 l2).more (by omega)
            · exact (k3.trans (Same.kept u.sm)).grow nl
    · rintro σ H1 ⟨zs, v3, v4, rfl, z1, z2, z3, z4, S1, k1⟩
      have z1 : zs.length = many := by omega
      exact ⟨_, rfl, q l zs H1 nl z1 z2 z3 (S1.more (by omega)) k1 z4⟩
end
end Bk

namespace Bk
open PySem PySem.Spec PyProof.Rows L2
section
variable {P : Program} {w : World} {K : PySem.W.Frag} {mg : Str → Option Value} {base : Heap}
theorem scFirst : FnScope ["names", "most", "at", "name"] ["names", "most"] (defScope (topS 12)) := ⟨rfl, rfl, rfl, by decide +kernel, rfl, by decide +kernel, by decide +kernel⟩
theorem ok_first (B : Bi mg) {f f1 f2 : Addr} {fd fd1 fd2 : FuncData} (c_is_list : Cal P w K mg base CX0 1 "is_list" f1 fd1 ["thing"] (spIsList K)) (c_is_name : Cal P w K mg base CX0 1 "is_name" f2 fd2 ["thing"] (spIsName K))
    (F : Fun K "first_wrong" "first_wrong" (topS 12) f fd) : FnOk P w K mg base CX0 2 f fd ["names", "most"] (spFirstWrong K) := by
  refine F.ok scFirst (fun vs H Q E h => ?_) (fun cdv A outer s H vs Q E hr h => ?_)
  · obtain ⟨x, o, most, rfl, _⟩ := h
    rfl
  · obtain ⟨x, o, most, rfl, T, q⟩ := h
    have hr_is_list := hr
    have hr_is_name := hr
    have nd := scFirst.nd
    refine ⟨_, (pss_cons (ps_if (PW.pt (pw_or (pt_not (pt_val (pe_call c_is_list.ok hr_is_list (by rfl) c_is_list.g c_is_list.kp c_is_list.b .nil pass0 (pa_cons (pv 0) pa_nil)))) (pw_or1 (pt_cmpR op_eq (pe_callB (kLen K) (by rfl) B.len PySem.boot_len (pa_cons (pv 0) pa_nil)) pe_int (nomark _))))) (pss_one (ps_ret pe_int)) pss_nil)
      (pss_cons (ps_for PassesOwn.never rfl (kPiE K (by rfl) B.enumerate (pa_cons (pv 0) pa_nil)) (kTg K 2 rfl (pgs_cons (pg_name (i := 2) nd rfl (Or.inl rfl)) (pgs_cons (pg_name (i := 3) nd rfl (Or.inl rfl)) pgs_nil))) (pss_one (ps_if (PW.pt (pw_or (pt_cmpR op_eq (pv 2) (pv 1) (nomark _)) (pw_or (pt_not (pt_val (pe_call c_is_name.ok hr_is_name (by rfl) c_is_name.g c_is_name.kp c_is_name.b .nil pass0 (pa_cons (pv 3) pa_nil)))) (pw_or1 (pt_cmpR (kIn K) (pv 3) (pe_slice ((kSlL K).or (kSlT K)) (pv 0) po_none (po_some (pv 2))) rfl))))) (pss_one (ps_ret (pv 2))) pss_nil)))
      (pss_one (ps_ret pe_non)))), ?_⟩
    cases T with
    | no b =>
      refine ⟨_, rfl, _, false, rfl, b, fun H1 e1 => ⟨_, rfl, ?_⟩⟩
      refine iteT ?_
      refine iteT ?_
      exact q H1 e1
    | @seq a xs hS0 b hi hl =>
      have hS : SqL K H a xs ∨ SqT K H a xs := hS0.imp id SqT.of
      clear hS0
      refine ⟨_, rfl, _, true, rfl, b, fun H1 e1 => ⟨_, rfl, ?_⟩⟩
      refine iteF ?_
      have hS1 : SqL K H1 a xs ∨ SqT K H1 a xs := hS.imp (fun z => e1.seq z) fun z => Same.sqt e1 z
      refine ⟨_, rfl, .ref a, xs.length, rfl, hS1.imp (fun z => ⟨xs, z, rfl⟩) (fun z => ⟨xs, z, rfl⟩), rfl, _, rfl, ?_⟩
      cases xs with
      | nil =>
        refine iteT ?_
        exact q H1 e1
      | cons x0 r0 =>
        have hlen : (x0 :: r0).length = r0.length + 1 := rfl
        generalize hxs : x0 :: r0 = xs at hS1 hi hl q hlen ⊢
        have hne : xs ≠ [] := by rw [← hxs]; exact List.cons_ne_nil _ _
        have efw : firstWrong xs most = wrongFrom xs most 0 (xs.drop 0) := by
          unfold firstWrong
          rw [if_neg hne]
          rfl
        have q : ∀ H', Same H H' → Q (optV (wrongFrom xs most 0 (xs.drop 0))) H' := fun H' e => by
          rw [← efw]
          exact q H' e
        have e0 : decide (V.int (xs.length : Int) = V.int 0) = false := decide_eq_false (fun z => by injection z with z; omega)
        rw [e0]
        refine iteF ?_
        refine st_next ?_
        refine st_seq ?_
        refine for_enS (a := a) (xs := xs) rfl hS1 (fun i σ H2 => ∃ v2 v3, σ = [some (.ref a), some (.int (most : Int)), v2, v3] ∧ Same H1 H2 ∧ wrongFrom xs most 0 (xs.drop 0) = wrongFrom xs most i (xs.drop i) ∧ ∀ j x, j < i → xs[j]? = some x → isNameB x = true) ?_ ?_ ?_ ?_
        · exact ⟨none, none, rfl, Same.refl _, rfl, fun j x hj => absurd hj (Nat.not_lt_zero _)⟩
        · rintro i σ H2 ⟨_, _, _, e2, _⟩
          exact e2
        · rintro i y σ H2 H3 hi' ⟨v2, v3, rfl, e2, ew, hn⟩ ⟨T, y1, y2, rfl, nT, rfl, h1, h2⟩
          cases h1
          have h2 : xs[i]? = some y2 := h2
          have hx := List.mem_of_getElem? h2
          have eT := same_upd (o := HO.tup [V.int (i : Nat), y2]) nT
          refine ⟨T, _, rfl, SqT.of upd_same, rfl, _, _, rfl, _, _, rfl, rfl, ?_⟩
          generalize upd H2 T (.tup [.int (i : Nat), y2]) = H3 at eT ⊢
          have e3 : Same H H3 := Same.trans e1 (Same.trans e2 eT)
          have bad : badAt xs most i y2 = true → Q (.int (i : Nat)) H3 := fun hb => by
            have z := q H3 e3
            rw [ew, wrong_step h2, if_pos hb] at z
            exact z
          refine ⟨_, rfl, _, rfl, rfl, _, rfl, ?_⟩
          refine ite2 (fun c1 => ?_) (fun c1 => ?_)
          · refine iteT ?_
            refine ⟨_, rfl, bad ?_⟩
            have c1 := of_decide_eq_true c1
            have : i = most := by injection c1 with c1; omega
            simp [badAt, this]
          · have c1 : ¬ i = most := fun z => c1 (decide_eq_true (by rw [z]))
            refine ⟨_, rfl, y2, rfl, (hi y2 hx).same e3, fun H4 e4 => ⟨_, rfl, ?_⟩⟩
            have bad : badAt xs most i y2 = true → Q (.int (i : Nat)) H4 := fun hb => by
              have z := q H4 (Same.trans e3 e4)
              rw [ew, wrong_step h2, if_pos hb] at z
              exact z
            cases hn2 : isNameB y2 with
            | false =>
              refine iteT ?_
              refine iteT ?_
              exact ⟨_, rfl, bad (by simp [badAt, hn2])⟩
            | true =>
              refine iteF ?_
              have hS4 : SqL K H4 a xs ∨ SqT K H4 a xs := hS1.imp (fun z => Same.seq (Same.trans e2 (Same.trans eT e4)) z) fun z => Same.sqt (Same.trans e2 (Same.trans eT e4)) z
              have ecut : cutV xs none (some (i : Int)) = xs.take i := cut_to xs i (by omega)
              have hlo : HT.sIx xs.length xs.length (some (i : Int)) = i := sIx_nat' _ _ _ (by omega)
              have yes : ∀ H5, Same H4 H5 → inV y2 (xs.take i) = true → Q (.int (i : Nat)) H5 := fun H5 e5 hv => by
                have z := q H5 (Same.trans e3 (Same.trans e4 e5))
                rw [ew, wrong_step h2, if_pos (by simp [badAt, hv])] at z
                exact z
              have no : inV y2 (xs.take i) = false → wrongFrom xs most 0 (xs.drop 0) = wrongFrom xs most (i + 1) (xs.drop (i + 1)) := fun hv => by
                rw [ew, wrong_step h2, if_neg (by simp [badAt, hv, hn2, c1])]
              have hn' : ∀ j x, j < i + 1 → xs[j]? = some x → isNameB x = true := fun j x hj hjx => by
                rcases Nat.lt_succ_iff_lt_or_eq.mp hj with hj | rfl
                · exact hn j x hj hjx
                · rw [h2] at hjx
                  cases hjx
                  exact hn2
              refine ⟨_, rfl, _, rfl, _, rfl, _, rfl, ?_⟩
              rcases hS4 with hS4 | hS4
              · refine .inl ⟨a, xs, rfl, hS4, fun p np => ?_⟩
                rw [ecut]
                have ep := same_upd (o := HO.lst (xs.take i)) np
                refine ⟨p, _, rfl, .inl (SqL.of upd_same), name_flat hn2, all_flat hn, _, rfl, ?_⟩
                cases hv : inV y2 (xs.take i) with
                | true =>
                  refine iteT ?_
                  exact ⟨_, rfl, yes _ ep hv⟩
                | false =>
                  refine iteF ?_
                  exact ⟨_, _, rfl, Same.trans e2 (Same.trans eT (Same.trans e4 ep)), no hv, hn'⟩
              · refine .inr ⟨a, xs, rfl, hS4, fun hw => ?_, fun hw p np => ?_⟩
                · exfalso
                  rw [hlo] at hw
                  omega
                · rw [ecut]
                  have ep := same_upd (o := HO.tup (xs.take i)) np
                  refine ⟨p, _, rfl, .inr (SqT.of upd_same), name_flat hn2, all_flat hn, _, rfl, ?_⟩
                  cases hv : inV y2 (xs.take i) with
                  | true =>
                    refine iteT ?_
                    exact ⟨_, rfl, yes _ ep hv⟩
                  | false =>
                    refine iteF ?_
                    exact ⟨_, _, rfl, Same.trans e2 (Same.trans eT (Same.trans e4 ep)), no hv, hn'⟩
        · rintro σ H2 ⟨v2, v3, rfl, e2, ew, hn⟩
          rw [wrong_end (Nat.le_refl _)] at ew
          rw [ew] at q
          exact q H2 (Same.trans e1 e2)
end
end Bk

namespace Bk
open PySem PySem.Spec PyProof.Rows L2
section
variable {P : Program} {w : World} {K : PySem.W.Frag} {mg : Str → Option Value} {base : Heap}
theorem startK {n k : Nat} {σ : L2.St} {H : Hp} {R : VK} {b : Addr} {row : List Nat} (h3 : σ[3]? = some (some (.int (0 + (k : Int))))) (h4 : σ[4]? = some (some (.ref b))) (hb : SqT K H b (rowV row)) (hrow : RowK n k row) (r : R (.int (sttK k row : Int)) H) :
    tIf (tTest (tOp (rI0 fun i j => V.bl (decide (j < i))) (tVar 3) (tC (V.int 0)))) (tOp (rI0 fun i j => V.int (i + j)) (tOp (rIxT K) (tVar 4) (tUn (rU fun i => V.int (-i)) (tC (V.int 1)))) (tC (V.int 1))) (tC (V.int 0)) σ H R := by
  refine ⟨_, h3, _, _, rfl, rfl, _, rfl, ?_⟩
  unfold sttK at r
  rcases hrow with ⟨rfl, rfl⟩ | ⟨k', rfl, o⟩
  · rw [if_neg (by omega)] at r
    exact iteF r
  · rw [if_pos (by omega)] at r
    rw [show decide ((0 : Int) < 0 + ((k' + 1 : Nat) : Int)) = true from decide_eq_true (by omega)]
    refine iteT ?_
    exact ⟨_, h4, 1, rfl, b, _, _, _, rfl, rfl, hb, at_last o.ne, _, _, rfl, rfl, r⟩
theorem scChoicesOf : FnScope ["things", "many", "rows", "k", "row", "at"] ["things", "many"] (defScope (topS 14)) := ⟨rfl, rfl, rfl, by decide +kernel, rfl, by decide +kernel, by decide +kernel⟩
theorem ok_choices_of (B : Bi mg) {f : Addr} {fd : FuncData} (F : Fun K "choices_of" "choices_of" (topS 14) f fd) : FnOk P w K mg base CX0 1 f fd ["things", "many"] (spChoicesOf K) := by
  refine F.ok scChoicesOf (fun vs H Q E h => ?_) (fun cdv A outer s H vs Q E hr h => ?_)
  · obtain ⟨a, xs, m, rfl, _⟩ := h
    rfl
  · obtain ⟨a, xs, m, rfl, hS, hl, hm, q⟩ := h
    have nd := scChoicesOf.nd
    have hu := hu_of hr
    have hpow : 2 ^ xs.length ≤ 2 ^ 12 := Nat.pow_le_pow_right (by decide) hl
    have hp12 : 2 ^ 12 = 4096 := by decide
    refine ⟨_, (Evl.pss_cut (ps_set (i := 2) nd rfl (Or.inl rfl) (pe_lst (pa_cons (pe_tup pa_nil) pa_nil)))
      (Evl.pss_cut (ps_for PassesOwn.never rfl (pi_range1 (by rfl) B.range (pa_cons (pv 1) pa_nil)) (pg_name (i := 3) nd rfl (Or.inr rfl)) (pss_one (ps_setLc2 (i := 2) (own := [("row", 4), ("at", 5)]) (vs1 := [5]) rfl nd rfl rfl (sw_true rfl rfl rfl (by decide +kernel)) (kPiL K (pv 2)) (blkOk_by (N := ["things", "many", "rows", "k", "row", "at"]) (sc := defScope (topS 14)) (by decide +kernel)) (by decide) (fun _ _ _ _ _ => (pg_name (i := 4) nd rfl (Or.inl rfl))) (fun _ _ _ _ _ => pts_nil) (fun _ _ _ _ _ => (pi_range2 (by rfl) B.range (pa_cons (pe_ifExp (pt_cmpR op_gt (pv 3) pe_int (nomark _)) (pe_op op_add (pe_ix (kIxT K) (pv 4) (pe_un un_neg pe_int) (fun _ _ => rfl)) pe_int) pe_int) (pa_cons (pe_callB (kLen K) (by rfl) B.len PySem.boot_len (pa_cons (pv 0) pa_nil)) pa_nil)))) (fun _ _ _ _ _ => (pg_name (i := 5) nd rfl (Or.inl rfl))) (fun _ _ _ _ _ => pts_nil) (fun _ _ _ _ _ => (pe_op (kCatA K) (pv 4) (pe_tup (pa_cons (pv 5) pa_nil)))))))
      (pss_one (ps_ret (pe_lc (own := [("row", 4)]) rfl nd (kPiL K (pv 2)) (blkOk_by (N := ["things", "many", "rows", "k", "row", "at"]) (sc := defScope (topS 14)) (by decide +kernel)) (fun _ _ _ _ _ => (pg_name (i := 4) nd rfl (Or.inl rfl))) (fun _ _ _ _ _ => pts_nil) (fun _ _ _ _ _ => (kTupleOf K (by rfl) B.tuple (pe_lc (own := [("at", 5)]) rfl nd (kPiT K (pv 4)) (blkOk_by (by with_unfolding_all rfl)) (fun _ _ _ _ _ => (pg_name (i := 5) nd rfl (Or.inl rfl))) (fun _ _ _ _ _ => pts_nil) (fun _ _ _ _ _ => (pe_ix (kIx K) (pv 0) (pv 5) (fun _ _ => rfl))))))))))), ?_⟩
    -- rows = [()]
    refine ⟨fun σ1 H1 => ∃ (d t : Addr), σ1 = [some (.ref a), some (.int (m : Int)), some (.ref d), none, none, none] ∧ Same H H1 ∧ H1 d = some (.lst [.ref t]) ∧ H1 t = some (.tup []), ?_, ?_⟩
    · refine ⟨Nat.zero_le _, fun t nt => ⟨by show 1 ≤ sizeLine; decide, fun d nd0 => ?_⟩⟩
      have et := same_upd (o := HO.tup []) nt
      have ed := same_upd (o := HO.lst [V.ref t]) nd0
      exact ⟨d, t, rfl, Same.trans et ed, upd_same, ed _ _ upd_same⟩
    rintro σ1 H1 ⟨d, t, rfl, e1, hd1, ht1⟩
    -- for k in range(many)
    refine ⟨fun σ2 H2 => ∃ (r : Addr) (v3 v4 v5 : Option V) (us : List V), σ2 = [some (.ref a), some (.int (m : Int)), some (.ref r), v3, v4, v5] ∧ Same H H2 ∧ H2 r = some (.lst us) ∧ Ats H2 rowV us (rowsK xs.length m), ?_, ?_⟩
    · refine ⟨_, rfl, (m : Int), rfl, by omega, by omega, ?_⟩
      refine for_it walk_range (fun k σ' H' => ∃ (r : Addr) (v3 v4 v5 : Option V) (us : List V), σ' = [some (.ref a), some (.int (m : Int)), some (.ref r), v3, v4, v5] ∧ Same H H' ∧ H' r = some (.lst us) ∧ Ats H' rowV us (rowsK xs.length k)) ?_ (fun _ _ _ _ _ => trivial) ?_ ?_
      · exact ⟨d, none, none, none, [.ref t], rfl, e1, hd1, Ats.one ht1⟩
      · rintro k x σ' H0 H2 hk ⟨r, v3, v4, v5, us, rfl, e2, hr2, at2⟩ ⟨rfl, rfl⟩
        have hok := rowsK_ok xs.length k
        refine ⟨_, rfl, r, rfl, ⟨_, SqL.of hr2⟩, fun D nD => ?_⟩
        refine outer_it (walk_list (xs := us)) (fun i H' => ∃ vs2, Same H2 H' ∧ H' D = some (.lst vs2) ∧ Ats H' rowV vs2 (nextK xs.length k ((rowsK xs.length k).take i))) ?_ (fun i H' _ ⟨_, e5, _⟩ => SqL.of (e5 _ _ hr2)) ?_ ?_
        · exact ⟨[], same_upd nD, upd_same, .nil⟩
        · rintro i x H5 H6 hi ⟨vs2, e5, hD, at5⟩ ⟨rfl, hx⟩
          have hir : i < (rowsK xs.length k).length := by rw [← at2.1]; exact hi
          obtain ⟨row, hrow⟩ : ∃ row, (rowsK xs.length k)[i]? = some row := ⟨_, List.getElem?_eq_getElem hir⟩
          obtain ⟨b, rfl, hb⟩ := at2.2 i x row hx hrow
          have o := hok row (List.mem_of_getElem? hrow)
          have hst := sttK_le o
          refine ⟨rfl, yes2 ?_⟩
          refine startK rfl rfl (SqT.of (e5 _ _ hb)) o ?_
          refine ⟨_, rfl, .ref a, xs.length, rfl, hS.imp (fun z => ⟨_, (Same.trans e2 e5).seq z, rfl⟩) (fun z => ⟨_, Same.sqt (Same.trans e2 e5) z, rfl⟩), _, _, rfl, ⟨by omega, by omega, by omega, by omega⟩, ?_⟩
          refine inner_it walk_range (fun j H' => ∃ vs3, Same H2 H' ∧ H' D = some (.lst vs3) ∧ Ats H' rowV vs3 (nextK xs.length k ((rowsK xs.length k).take i) ++ (growK xs.length k row).take j)) ?_ (fun _ _ _ _ => trivial) ?_ ?_
          · exact ⟨vs2, e5, hD, by rw [List.take_zero, List.append_nil]; exact at5⟩
          · rintro j x H7 H8 hj ⟨vs3, e7, hD7, at7⟩ ⟨rfl, rfl⟩
            have hj : j < xs.length - sttK k row := by omega
            refine ⟨rfl, yes2 ?_⟩
            have fin : ∀ (b' : Addr) (H9 : Hp), Same H8 H9 → H9 b' = some (.tup (rowV (row ++ [sttK k row + j]))) → ∃ acc, H9 D = some (.lst acc) ∧ acc.length < sizeLine ∧ ∃ vs3, Same H2 (upd H9 D (.lst (acc ++ [.ref b']))) ∧ (upd H9 D (.lst (acc ++ [.ref b']))) D = some (.lst vs3) ∧
                Ats (upd H9 D (.lst (acc ++ [.ref b']))) rowV vs3 (nextK xs.length k ((rowsK xs.length k).take i) ++ (growK xs.length k row).take (j + 1)) := by
              intro b' H9 e9 hb'
              have hD9 := e9 _ _ hD7
              have lenv : vs3.length ≤ 4096 + 12 := by
                rw [at7.1, List.length_append]
                have h1 := nextK_take_len (n := xs.length) (k := k) i
                have h3 : ((growK xs.length k row).take j).length ≤ 12 := by
                  rw [List.length_take, growK_length]
                  omega
                omega
              refine ⟨vs3, hD9, Evl.sz_lt (by omega), vs3 ++ [.ref b'], Same.grow (Same.trans e7 e9) nD, upd_same, ?_⟩
              refine Ats.updL ?_ hD9
              rw [take_succ (growK_at hj), ← List.append_assoc]
              exact (at7.same e9).append (Ats.one hb')
            refine ⟨_, rfl, _, rfl, by show 1 ≤ sizeLine; decide, fun p np => ?_⟩
            have ep := same_upd (o := HO.tup [V.int ((sttK k row : Int) + (j : Int))]) np
            have ev : rowV (row ++ [sttK k row + j]) = rowV row ++ [V.int ((sttK k row : Int) + (j : Int))] := by
              unfold rowV
              rw [List.map_append]
              show _ ++ [V.int ((sttK k row + j : Nat) : Int)] = _
              rw [show ((sttK k row + j : Nat) : Int) = (sttK k row : Int) + (j : Int) by omega]
            refine ⟨b, p, rowV row, _, rfl, rfl, SqT.of (ep _ _ (e7 _ _ hb)), SqT.of upd_same, ?_, fun z => ?_, fun _ z => ?_, fun _ _ t nt => ?_⟩
            · rw [rowV_len, o.len]
              refine Evl.sz_of ?_
              show k + 1 ≤ 100000
              omega
            · refine fin p _ ep ?_
              rw [upd_same, ev, z]
              rfl
            · cases z
            · refine fin t _ (Same.trans ep (same_upd nt)) ?_
              rw [upd_same, ev]
          · rintro H7 ⟨vs3, e7, hD7, at7⟩
            refine ⟨vs3, e7, hD7, ?_⟩
            have eg : (growK xs.length k row).take ((xs.length : Int) - (sttK k row : Int)).toNat = growK xs.length k row := List.take_of_length_le (by rw [growK_length]; omega)
            rw [eg] at at7
            rw [nextK_snoc hrow]
            exact at7
        · rintro H5 ⟨vs2, e5, hD, at5⟩
          rw [List.take_of_length_le (by rw [← at2.1]; exact Nat.le_refl _)] at at5
          exact ⟨D, _, _, _, vs2, rfl, Same.trans e2 e5, hD, at5⟩
      · rintro σ' H2 ⟨r, v3, v4, v5, us, rfl, e2, hr2, at2⟩
        exact ⟨r, v3, v4, v5, us, rfl, e2, hr2, at2⟩
    rintro σ3 H3 ⟨r, v3, v4, v5, us, rfl, e3, hr3, at3⟩
    -- the things of each row
    have hok := rowsK_ok xs.length m
    have lenus : us.length = (rowsK xs.length m).length := at3.1
    have hlen := rowsK_len xs.length m
    refine ⟨_, rfl, r, rfl, ⟨_, SqL.of hr3⟩, fun D nD => ?_⟩
    refine lc_it (walk_list (xs := us)) (fun i H' => ∃ vs2, Same H3 H' ∧ H' D = some (.lst vs2) ∧ Ats H' (fun l => l) vs2 ((subsOf xs (rowsK xs.length m)).take i)) ?_ (fun i H' _ ⟨_, e5, _⟩ => SqL.of (e5 _ _ hr3)) ?_ ?_
    · exact ⟨[], same_upd nD, upd_same, .nil⟩
    · rintro i x H5 H6 hi ⟨vs2, e5, hD, at5⟩ ⟨rfl, hx⟩
      have hir : i < (rowsK xs.length m).length := by rw [← at3.1]; exact hi
      obtain ⟨row, hrow⟩ : ∃ row, (rowsK xs.length m)[i]? = some row := ⟨_, List.getElem?_eq_getElem hir⟩
      obtain ⟨b, rfl, hb⟩ := at3.2 i x row hx hrow
      have o := hok row (List.mem_of_getElem? hrow)
      refine ⟨rfl, yes2 ?_⟩
      refine ⟨_, rfl, b, rfl, ⟨_, SqT.of (e5 _ _ hb)⟩, fun D2 nD2 => ?_⟩
      refine lc_it (walk_tup (xs := rowV row)) (Upto H6 D2 row fun k => xs.getD k .non) (.zero nD2) (fun j H' _ u => SqT.of (u.sm _ _ (e5 _ _ hb))) ?_ ?_
      · rintro j x H7 H8 hj u ⟨rfl, hx2⟩
        unfold rowV at hx2
        rw [List.getElem?_map] at hx2
        obtain ⟨k, hk, rfl⟩ := Option.map_eq_some_iff.mp hx2
        have hkn : k < xs.length := o.lt k (List.mem_of_getElem? hk)
        have ea : xs[k]? = some (xs.getD k .non) := by rw [List.getD_eq_getElem?_getD, List.getElem?_eq_getElem hkn]; rfl
        have hj12 : j < 12 := by
          have h1 := o.len
          have h2 : j < (rowV row).length := hj
          rw [rowV_len] at h2
          omega
        refine ⟨rfl, yes2 ?_⟩
        have eH := Same.trans e3 (Same.trans e5 u.sm)
        refine ⟨_, rfl, _, rfl, ?_⟩
        rcases hS with z | z
        · exact .inl ⟨a, xs, (k : Int), _, rfl, rfl, eH.seq z, atI_nat ea, u.next nD2 hk (Same.refl _) (by have := o.len; omega)⟩
        · exact .inr (.inl ⟨a, xs, (k : Int), _, rfl, rfl, Same.sqt eH z, atI_nat ea, u.next nD2 hk (Same.refl _) (by have := o.len; omega)⟩)
      · intro H7 u
        have eD2 := u.all (rowV_len row)
        refine .inl ⟨D2, _, rfl, SqL.of eD2, fun p np => ?_⟩
        have ep := same_upd (o := HO.tup (row.map fun k => xs.getD k V.non)) np
        have hD7 := ep _ _ (u.sm _ _ hD)
        have hlot : (subsOf xs (rowsK xs.length m))[i]? = some (row.map fun k => xs.getD k V.non) := by
          unfold subsOf
          rw [List.getElem?_map, hrow]
          rfl
        refine ⟨vs2, hD7, Evl.sz_lt ?_, vs2 ++ [.ref p], Same.grow (Same.trans e5 (Same.trans u.sm ep)) nD, upd_same, ?_⟩
        · rw [at5.1, List.length_take]
          unfold subsOf
          rw [List.length_map]
          omega
        · refine Ats.updL ?_ hD7
          rw [take_succ hlot]
          exact ((at5.same u.sm).same ep).append (Ats.one upd_same)
    · rintro H5 ⟨vs2, e5, hD, at5⟩
      rw [List.take_of_length_le (by unfold subsOf; rw [List.length_map, lenus]; exact Nat.le_refl _)] at at5
      exact q D vs2 H5 (e3.free nD) (Same.trans e3 e5) hD at5
theorem scChoices : FnScope ["things", "many", "choice"] ["things"] (defScope (topS 13)) := ⟨rfl, rfl, rfl, by decide +kernel, rfl, by decide +kernel, by decide +kernel⟩
theorem ok_choices (B : Bi mg) {f f1 : Addr} {fd fd1 : FuncData} (c_choices_of : Cal P w K mg base CX0 1 "choices_of" f1 fd1 ["things", "many"] (spChoicesOf K)) (F : Fun K "choices" "choices" (topS 13) f fd) : FnOk P w K mg base CX0 2 f fd ["things"] (spChoices K) := by
  refine F.ok scChoices (fun vs H Q E h => ?_) (fun cdv A outer s H vs Q E hr h => ?_)
  · obtain ⟨a, xs, rfl, _⟩ := h
    rfl
  · obtain ⟨a, xs, rfl, hS, hl, q⟩ := h
    have nd := scChoices.nd
    have hu := hu_of hr
    have hr_choices_of := hr
    have hpow : 2 ^ xs.length ≤ 2 ^ 12 := Nat.pow_le_pow_right (by decide) hl
    have hp12 : 2 ^ 12 = 4096 := by decide
    have hcl : ∀ i, i ≤ 12 → ((List.range' 1 i).flatMap (rowsK xs.length)).length ≤ 12 * 4096 := fun i hi => by
      have h := flatMap_len (f := rowsK xs.length) (m := 4096) (l := List.range' 1 i) fun x _ => by have := rowsK_len xs.length x; omega
      rw [List.length_range'] at h
      exact Nat.le_trans h (Nat.mul_le_mul_right _ hi)
    refine ⟨_, (pss_one (ps_ret (pe_lc2 (own := [("many", 1), ("choice", 2)]) (vs1 := [2]) rfl nd (pi_range2 (by rfl) B.range (pa_cons pe_int (pa_cons (pe_op op_add (pe_callB (kLen K) (by rfl) B.len PySem.boot_len (pa_cons (pv 0) pa_nil)) pe_int) pa_nil))) (blkOk_by (N := ["things", "many", "choice"]) (sc := defScope (topS 13)) (by decide +kernel)) (by decide) (fun _ _ _ _ _ => (pg_name (i := 1) nd rfl (Or.inl rfl))) (fun _ _ _ _ _ => pts_nil) (fun _ _ _ _ _ => (kPiL K (pe_call c_choices_of.ok hr_choices_of (by rfl) c_choices_of.g c_choices_of.kp c_choices_of.b .nil pass0 (pa_cons (pv 0) (pa_cons (pv 1) pa_nil))))) (fun _ _ _ _ _ => (pg_name (i := 2) nd rfl (Or.inl rfl))) (fun _ _ _ _ _ => pts_nil) (fun _ _ _ _ _ => (pv 2))))), ?_⟩
    refine ⟨.ref a, rfl, .ref a, xs.length, rfl, hS.imp (fun z => ⟨_, z, rfl⟩) (fun z => ⟨_, z, rfl⟩), _, _, rfl, rfl, _, _, rfl, ⟨by omega, by omega, by omega, by omega⟩, fun D nD => ?_⟩
    have en : ((xs.length : Int) + 1 - 1).toNat = xs.length := by omega
    rw [en]
    refine outer_it walk_range (fun i H' => ∃ ws, Same H H' ∧ H' D = some (.lst ws) ∧ Ats H' (fun l => l) ws (subsOf xs ((List.range' 1 i).flatMap (rowsK xs.length)))) ?_ (fun _ _ _ _ => trivial) ?_ ?_
    · exact ⟨[], same_upd nD, upd_same, .nil⟩
    · rintro i x H0 H6 hi ⟨ws, e6, hD, at6⟩ ⟨rfl, rfl⟩
      refine ⟨rfl, yes2 ?_⟩
      refine ⟨_, rfl, _, rfl, a, xs, i + 1, ?_, hS.imp (fun z => e6.seq z) (fun z => Same.sqt e6 z), hl, by omega, fun D2 ws2 H8 nD2 e8 hD2 at8 => ?_⟩
      · show [V.ref a, V.int (1 + (i : Int))] = [V.ref a, V.int ((i + 1 : Nat) : Int)]
        rw [show ((i + 1 : Nat) : Int) = 1 + (i : Int) by omega]
      have hD8 := e8 _ _ hD
      have nDD : D2 ≠ D := (ne_of_none hD nD2).symm
      refine ⟨D2, rfl, ⟨_, SqL.of hD2⟩, ?_⟩
      refine inner_it (walk_list (xs := ws2)) (fun j H' => ∃ vs3, But D H8 H' ∧ H' D = some (.lst vs3) ∧ Ats H' (fun l => l) vs3 (subsOf xs ((List.range' 1 i).flatMap (rowsK xs.length)) ++ (subsOf xs (rowsK xs.length (i + 1))).take j)) ?_ (fun j H' _ ⟨_, bt, _⟩ => SqL.of (bt _ _ nDD hD2)) ?_ ?_
      · exact ⟨ws, fun _ _ _ e => e, hD8, by rw [List.take_zero, List.append_nil]; exact at6.same e8⟩
      · rintro j x H9 H10 hj ⟨vs3, bt, hD9, at9⟩ ⟨rfl, hx⟩
        have hjr : j < (subsOf xs (rowsK xs.length (i + 1))).length := by rw [← at8.1]; exact hj
        obtain ⟨row, hrow⟩ : ∃ row, (subsOf xs (rowsK xs.length (i + 1)))[j]? = some row := ⟨_, List.getElem?_eq_getElem hjr⟩
        obtain ⟨b, rfl, hb⟩ := at8.2 j x row hx hrow
        refine ⟨rfl, yes2 ?_⟩
        have hlen9 : vs3.length < 60000 := by
          rw [at9.1, List.length_append]
          have h1 : (subsOf xs ((List.range' 1 i).flatMap (rowsK xs.length))).length ≤ 12 * 4096 := by
            unfold subsOf
            rw [List.length_map]
            exact hcl i (by omega)
          have h2 : ((subsOf xs (rowsK xs.length (i + 1))).take j).length ≤ 4096 := by
            rw [List.length_take]
            unfold subsOf
            rw [List.length_map]
            have := rowsK_len xs.length (i + 1)
            omega
          omega
        have nbD : b ≠ D := ne_of hb hD8 (fun z => nomatch z)
        refine ⟨_, rfl, vs3, hD9, Evl.sz_lt (by omega), vs3 ++ [.ref b], bt.trans But.upd, upd_same, ?_⟩
        rw [take_succ hrow, ← List.append_assoc]
        exact (at9.append (Ats.one (bt _ _ nbD hb))).updL hD9
      · rintro H9 ⟨vs3, bt, hD9, at9⟩
        rw [List.take_of_length_le (by rw [at8.1]; exact Nat.le_refl _)] at at9
        refine ⟨vs3, fun b u hb => bt _ _ (ne_of_none hb nD) (e8 _ _ (e6 _ _ hb)), hD9, ?_⟩
        have ee : subsOf xs ((List.range' 1 (i + 1)).flatMap (rowsK xs.length)) = subsOf xs ((List.range' 1 i).flatMap (rowsK xs.length)) ++ subsOf xs (rowsK xs.length (i + 1)) := by
          rw [List.range'_concat, List.flatMap_append, List.flatMap_cons, List.flatMap_nil, List.append_nil]
          unfold subsOf
          rw [List.map_append, show 1 + 1 * i = i + 1 by omega]
        rw [ee]
        exact at9
    · rintro H5 ⟨ws, e5, hD, at5⟩
      rw [← lotRows_K] at at5
      exact q D ws H5 nD e5 hD at5
end
end Bk

namespace Bk
open PySem PySem.Spec PyProof.Rows L2
section
variable {P : Program} {w : World} {K : PySem.W.Frag} {mg : Str → Option Value} {base : Heap}
theorem scNeigh : FnScope ["names", "many", "long", "at"] ["names"] (defScope (topS 15)) := ⟨rfl, rfl, rfl, by decide +kernel, rfl, by decide +kernel, by decide +kernel⟩
theorem ok_neigh (B : Bi mg) {f : Addr} {fd : FuncData} (F : Fun K "rows_of_neighbours" "rows_of_neighbours" (topS 15) f fd) : FnOk P w K mg base CX0 1 f fd ["names"] spNeigh := by
  refine F.ok scNeigh (fun vs H Q E h => ?_) (fun cdv A outer s H vs Q E hr h => ?_)
  · obtain ⟨a, zs, rfl, _⟩ := h
    rfl
  · obtain ⟨a, zs, rfl, hS, hl, q⟩ := h
    have nd := scNeigh.nd
    have hu := hu_of hr
    refine ⟨_, (pss_cons (ps_set (i := 1) nd rfl (Or.inr rfl) (pe_callB (kLen K) (by rfl) B.len PySem.boot_len (pa_cons (pv 0) pa_nil)))
      (pss_one (ps_ret (pe_lc2 (own := [("long", 2), ("at", 3)]) (vs1 := [3]) rfl nd (pi_range2 (by rfl) B.range (pa_cons pe_int (pa_cons (pe_op op_add (pv 1) pe_int) pa_nil))) (blkOk_by (N := ["names", "many", "long", "at"]) (sc := defScope (topS 15)) (by decide +kernel)) (by decide) (fun _ _ _ _ _ => (pg_name (i := 2) nd rfl (Or.inl rfl))) (fun _ _ _ _ _ => pts_nil) (fun _ _ _ _ _ => (pi_range1 (by rfl) B.range (pa_cons (pe_op op_sub (pe_op op_add (pv 1) pe_int) (pv 2)) pa_nil))) (fun _ _ _ _ _ => (pg_name (i := 3) nd rfl (Or.inl rfl))) (fun _ _ _ _ _ => pts_nil) (fun _ _ _ _ _ => (pe_slice (kSlT K) (pv 0) (po_some (pv 3)) (po_some (pe_op op_add (pv 3) (pv 2))))))))), ?_⟩
    refine ⟨_, rfl, .ref a, zs.length, rfl, .inr ⟨_, SqT.of hS, by rw [List.length_map]⟩, ?_⟩
    refine ⟨_, rfl, _, _, rfl, rfl, _, _, rfl, ⟨by omega, by omega, by omega, by omega⟩, fun D nD => ?_⟩
    have hcl : ∀ k, ((List.range k).flatMap (longRows zs)).length ≤ k * 100 := fun k => by
      have := flatMap_len (f := longRows zs) (m := 100) (l := List.range k) fun x _ => by rw [longRows_len]; omega
      rw [List.length_range] at this
      exact this
    have en : ((zs.length : Int) + 1 - 1).toNat = zs.length := by omega
    rw [en]
    refine outer_it walk_range (fun i H' => ∃ vs2, Same H H' ∧ H' D = some (.lst vs2) ∧ Ats H' (fun l : List Str => l.map V.str) vs2 ((List.range i).flatMap (longRows zs))) ?_ (fun _ _ _ _ => trivial) ?_ ?_
    · exact ⟨[], same_upd nD, upd_same, .nil⟩
    · rintro i x H5 H6 hi ⟨vs2, e5, hD, at5⟩ ⟨rfl, rfl⟩
      refine ⟨rfl, yes2 ?_⟩
      refine ⟨_, rfl, _, _, rfl, rfl, _, rfl, _, _, rfl, rfl, _, rfl, by omega, by omega, ?_⟩
      have ec : ((zs.length : Int) + 1 - (1 + (i : Int))).toNat = zs.length - i := by omega
      rw [ec]
      refine inner_it walk_range (fun j H' => ∃ vs3, Same H H' ∧ H' D = some (.lst vs3) ∧ Ats H' (fun l : List Str => l.map V.str) vs3 ((List.range i).flatMap (longRows zs) ++ (longRows zs i).take j)) ?_ (fun _ _ _ _ => trivial) ?_ ?_
      · exact ⟨vs2, e5, hD, by rw [List.take_zero, List.append_nil]; exact at5⟩
      · rintro j x H7 H8 hj ⟨vs3, e7, hD7, at7⟩ ⟨rfl, rfl⟩
        refine ⟨rfl, yes2 ?_⟩
        have ecut : cutV (zs.map V.str) (some (0 + (j : Int))) (some (0 + (j : Int) + (1 + (i : Int)))) = ((zs.drop j).take (i + 1)).map V.str := by
          rw [show 0 + (j : Int) = ((j : Nat) : Int) by omega, show (j : Int) + (1 + (i : Int)) = ((j + (i + 1) : Nat) : Int) by omega, cut_mid _ _ _ (by omega) (by rw [List.length_map]; omega), List.map_take, List.map_drop]
          congr 1
          omega
        have hS8 := e7 _ _ hS
        have lenv : vs3.length + 1 ≤ 100000 := by
          rw [at7.1, List.length_append, List.length_take, longRows_len]
          have := hcl i
          omega
        have last : ∀ (b : Addr) (H9 : Hp), Same H8 H9 → H9 b = some (.tup (((zs.drop j).take (i + 1)).map V.str)) → ∃ acc, H9 D = some (.lst acc) ∧ acc.length < sizeLine ∧ ∃ vs3, Same H (upd H9 D (.lst (acc ++ [.ref b]))) ∧ (upd H9 D (.lst (acc ++ [.ref b]))) D = some (.lst vs3) ∧
            Ats (upd H9 D (.lst (acc ++ [.ref b]))) (fun l : List Str => l.map V.str) vs3 ((List.range i).flatMap (longRows zs) ++ (longRows zs i).take (j + 1)) := by
          intro b H9 e9 hb
          have hD9 := e9 _ _ hD7
          refine ⟨vs3, hD9, Evl.sz_lt (by omega), vs3 ++ [.ref b], Same.grow (Same.trans e7 e9) nD, upd_same, ?_⟩
          refine Ats.updL ?_ hD9
          rw [take_succ (longRows_at hj), ← List.append_assoc]
          exact (at7.same e9).append (Ats.one hb)
        refine ⟨_, rfl, _, rfl, _, rfl, _, rfl, _, rfl, _, _, rfl, rfl, _, rfl, a, _, rfl, SqT.of hS8, fun hw => ?_, fun hw p np => ?_⟩
        · refine last a H8 (Same.refl _) ?_
          have e0 : cutV (zs.map V.str) (some (0 + (j : Int))) (some (0 + (j : Int) + (1 + (i : Int)))) = zs.map V.str := by
            unfold cutV
            rw [hw.1, hw.2, List.drop_zero, Nat.sub_zero, List.take_length]
          rw [← ecut, e0]
          exact hS8
        · rw [ecut]
          exact last p _ (same_upd np) upd_same
      · rintro H7 ⟨vs3, e7, hD7, at7⟩
        refine ⟨vs3, e7, hD7, ?_⟩
        have eg : (longRows zs i).take (zs.length - i) = longRows zs i := List.take_of_length_le (by rw [longRows_len]; omega)
        rw [eg] at at7
        rw [List.range_succ, List.flatMap_append, List.flatMap_cons, List.flatMap_nil, List.append_nil]
        exact at7
    · rintro H5 ⟨vs2, e5, hD, at5⟩
      exact q D vs2 H5 nD e5 hD at5
end
end Bk

namespace Bk
open PySem PySem.Spec PyProof.Rows L2
section
variable {P : Program} {w : World} {K : PySem.W.Frag} {mg : Str → Option Value} {base : Heap}
theorem scBF : FnScope ["self", "index"] ["self", "index"] (defScope (inClass (topS 2) 0)) := ⟨rfl, rfl, rfl, by decide +kernel, rfl, by decide +kernel, by decide +kernel⟩
theorem ok_BF {C f : Addr} {fd : FuncData} (T : ExT K mg "BadFolders" C f "index") (F : Fun K "__init__" "BadFolders.__init__" (inClass (topS 2) 0) f fd) : FnOk P w K mg base CX0 1 f fd ["self", "index"] (spExcInit C "index") := by
  refine F.ok scBF (fun vs H Q E h => ?_) (fun cdv A outer s H vs Q E hr h => ?_)
  · obtain ⟨a, v, rfl, _⟩ := h
    rfl
  · obtain ⟨a, v, rfl, ha, q⟩ := h
    refine ⟨_, pss_one (ps_ost (pv 0) (pv 1)), ?_⟩
    exact ⟨_, rfl, _, rfl, a, C, rfl, T.o, T.noF, .inl ⟨ha, fun dx ndx hne => q dx ndx hne⟩⟩
theorem scFol : FnScope ["self", "names", "chain", "wrong", "lots", "at", "lot"] ["self", "names", "chain"] (defScope (inClass (topS 11) 0)) := ⟨rfl, rfl, rfl, by decide +kernel, rfl, by decide +kernel, by decide +kernel⟩
theorem ok_folders (B : Bi mg) {C CB f fB f1 f2 f3 : Addr} {fd fdB fd1 fd2 fd3 : FuncData} {t1 t2 : Tok} {kws : List (Str × V)} (g_MOST_FOLDERS : mg "MOST_FOLDERS" = some (.int 5 t1)) (g_MOST_IN_CHAIN : mg "MOST_IN_CHAIN" = some (.int 12 t2)) (T_BadFolders : ExT K mg "BadFolders" CB fB "index") (T : FolT K mg C f)
    (G_BadFolders : FnOk P w K mg base CX0 1 fB fdB ["self", "index"] (spExcInit CB "index")) (b_BadFolders : Binds K fdB ["self", "index"] [])
    (c_first_wrong : Cal P w K mg base CX0 2 "first_wrong" f1 fd1 ["names", "most"] (spFirstWrong K)) (c_choices : Cal P w K mg base CX0 2 "choices" f2 fd2 ["things"] (spChoices K)) (c_rows_of_neighbours : Cal P w K mg base CX0 1 "rows_of_neighbours" f3 fd3 ["names"] spNeigh)
    (F : FunD K "__init__" "Folders.__init__" (defArgs (inClass (topS 11) 0)) (defBody (inClass (topS 11) 0)) (defScope (inClass (topS 11) 0)) [] kws f fd) : FnOk P w K mg base (L2.CX P w) 3 f fd ["self", "names", "chain"] (spFolders K C CB) := by
  refine F.ok scFol (fun vs H Q E h => ?_) (fun cdv A outer s H vs Q E hr h => ?_)
  · obtain ⟨x, dx, nm, o, ch, rfl, _⟩ := h
    rfl
  · obtain ⟨x, dx, nm, o, ch, rfl, hx, Th, kE, kQ⟩ := h
    have nd := scFol.nd
    have hu := hu_of hr
    have hr_first_wrong := hr
    have hrE := hr
    have hr_choices := hr
    have hr_rows_of_neighbours : Room 1 _ := hr.mono (by decide)
    refine ⟨_, (Evl.pss_cut (ps_set (i := 3) nd rfl (Or.inl rfl) (pe_call c_first_wrong.ok hr_first_wrong (by rfl) c_first_wrong.g c_first_wrong.kp c_first_wrong.b .nil pass0 (pa_cons (pv 1) (pa_cons (pe_ifExp (pt_val (pv 2)) (pe_glob (v := .int 12) (by rfl) g_MOST_IN_CHAIN ⟨_, rfl⟩) (pe_glob (v := .int 5) (by rfl) g_MOST_FOLDERS ⟨_, rfl⟩)) pa_nil))))
      (Evl.pss_cut (ps_if (pt_cmpR op_notN (pv 3) pe_non (nomark _)) (pss_one (ps_raise rfl (takes_of rfl rfl rfl rfl) (pmk_oex T_BadFolders.o T_BadFolders.iC T_BadFolders.tI G_BadFolders hrE b_BadFolders .nil pass0 (by rfl) T_BadFolders.g (pa_cons (pv 3) pa_nil)))) pss_nil)
      (Evl.pss_cut (ps_fld (pv 0) (kTupleOf K (by rfl) B.tuple (pv 1)) rfl)
      (Evl.pss_cut (ps_fld (pv 0) (pv 2) rfl)
      (Evl.pss_cut (ps_set (i := 4) nd rfl (Or.inl rfl) (pe_ifExp (pt_val (pv 2)) (pe_call c_rows_of_neighbours.ok hr_rows_of_neighbours (by rfl) c_rows_of_neighbours.g c_rows_of_neighbours.kp c_rows_of_neighbours.b .nil pass0 (pa_cons (pe_fld (pv 0) rfl) pa_nil)) (pe_call c_choices.ok hr_choices (by rfl) c_choices.g c_choices.kp c_choices.b .nil pass0 (pa_cons (pe_fld (pv 0) rfl) pa_nil))))
      (pss_one (ps_fld (pv 0) (pe_dcT (own := [("at", 5), ("lot", 6)]) hr.units0 rfl nd (kPiE K (by rfl) B.enumerate (pa_cons (pv 4) pa_nil)) (blkOk_by (N := ["self", "names", "chain", "wrong", "lots", "at", "lot"]) (sc := defScope (inClass (topS 11) 0)) (by decide +kernel)) (fun _ _ _ _ _ => (kTg K 2 rfl (pgs_cons (pg_name (i := 5) nd rfl (Or.inl rfl)) (pgs_cons (pg_name (i := 6) nd rfl (Or.inl rfl)) pgs_nil)))) (fun _ _ _ _ _ => (pv 6)) (fun _ _ _ _ _ => (pv 5))) rfl))))))), ?_⟩
    -- wrong = first_wrong(..)
    refine ⟨fun σ1 H1 => σ1 = [some (.ref x), some nm, some (.bl ch), some (optV (wrongOf o (mostFor ch))), none, none, none] ∧ Same H H1, ?_, ?_⟩
    · cases ch with
      | true =>
        refine ⟨_, rfl, _, rfl, _, rfl, ?_⟩
        refine iteT ?_
        exact ⟨nm, o, 12, rfl, Th, fun H1 e1 => ⟨rfl, e1⟩⟩
      | false =>
        refine ⟨_, rfl, _, rfl, _, rfl, ?_⟩
        refine iteF ?_
        exact ⟨nm, o, 5, rfl, Th, fun H1 e1 => ⟨rfl, e1⟩⟩
    rintro σ1 H1 ⟨rfl, e1⟩
    -- if wrong is not None: raise BadFolders(wrong)
    refine ⟨fun σ2 H2 => wrongOf o (mostFor ch) = none ∧ σ2 = [some (.ref x), some nm, some (.bl ch), some .non, none, none, none] ∧ Same H H2, ?_, ?_⟩
    · cases hw : wrongOf o (mostFor ch) with
      | some i =>
        refine ⟨_, rfl, rfl, _, rfl, ?_⟩
        refine iteT ?_
        refine mkO_of (v := .int (i : Int)) (H1 := H1) (fun R r => ⟨_, rfl, r⟩) fun d H' h => kE i d H' hw ⟨e1.free h.1, Same.trans e1 h.2.1, h.2.2⟩
      | none =>
        refine ⟨_, rfl, rfl, _, rfl, ?_⟩
        refine iteF ?_
        exact ⟨rfl, rfl, e1⟩
    rintro σ2 H2 ⟨hw, rfl, e2⟩
    obtain ⟨zs, rfl, zne, znames, zlen, znd⟩ := right_names hw
    obtain ⟨a, rfl, hS⟩ : ∃ a, nm = .ref a ∧ (SqL K H a (zs.map V.str) ∨ H a = some (.tup (zs.map V.str))) := by
      cases Th with
      | seq hS b hi hl => exact ⟨_, rfl, hS⟩
    have hx2 := e2 _ _ hx
    -- self.names = tuple(names)
    refine ⟨fun σ3 H3 => ∃ t, σ3 = [some (.ref x), some (.ref a), some (.bl ch), some .non, none, none, none] ∧ t ≠ x ∧ H3 x = some (.ins C dx [("names", .ref t)]) ∧ H3 t = some (.tup (zs.map V.str)) ∧ But x H H3, ?_, ?_⟩
    · have fin : ∀ (t : Addr) (H3 : Hp), Same H2 H3 → H3 t = some (.tup (zs.map V.str)) → ∃ p C' dx' fs, V.ref x = .ref p ∧ H3 p = some (.ins C' dx' fs) ∧ Cls K C' ∧ NoAttr K C' "names" ∧ fs.length < 1000 ∧
          ∃ t', [some (V.ref x), some (V.ref a), some (.bl ch), some .non, none, none, none] = [some (.ref x), some (.ref a), some (.bl ch), some .non, none, none, none] ∧ t' ≠ x ∧ (upd H3 p (.ins C' dx' (putF "names" (.ref t) fs))) x = some (.ins C dx [("names", .ref t')]) ∧ (upd H3 p (.ins C' dx' (putF "names" (.ref t) fs))) t' = some (.tup (zs.map V.str)) ∧ But x H (upd H3 p (.ins C' dx' (putF "names" (.ref t) fs))) := by
        intro t H3 e3 ht
        have ntx : t ≠ x := ne_of ht (e3 _ _ hx2) (fun z => nomatch z)
        exact ⟨x, C, dx, [], rfl, e3 _ _ hx2, T.cl, T.nN, by decide, t, rfl, ntx, upd_same, by rw [upd_ne ntx]; exact ht, (But.same (Same.trans e2 e3)).trans But.upd⟩
      rcases hS with hS | hS
      · exact ⟨_, rfl, .inl ⟨a, _, rfl, Same.seq e2 hS, fun q nq => ⟨_, rfl, fin q _ (same_upd nq) upd_same⟩⟩⟩
      · exact ⟨_, rfl, .inr ⟨a, _, rfl, SqT.of (e2 _ _ hS), ⟨_, rfl, fin a _ (Same.refl _) (e2 _ _ hS)⟩⟩⟩
    rintro σ3 H3 ⟨t, rfl, ntx, hx3, ht3, b3⟩
    -- self.chain = chain
    refine ⟨fun σ4 H4 => σ4 = [some (.ref x), some (.ref a), some (.bl ch), some .non, none, none, none] ∧ H4 x = some (.ins C dx [("names", .ref t), ("chain", .bl ch)]) ∧ H4 t = some (.tup (zs.map V.str)) ∧ But x H H4, ?_, ?_⟩
    · refine ⟨_, rfl, _, rfl, x, C, dx, _, rfl, hx3, T.cl, T.nC, by show 1 < 1000; decide, rfl, ?_, ?_, b3.trans But.upd⟩
      · rw [upd_same, put2]
      · rw [upd_ne ntx]
        exact ht3
    rintro σ4 H4 ⟨rfl, hx4, ht4, b4⟩
    -- lots = ..
    refine ⟨fun σ5 H5 => ∃ (D : Addr) (ws : List V), σ5 = [some (.ref x), some (.ref a), some (.bl ch), some .non, some (.ref D), none, none] ∧ Same H4 H5 ∧ H5 D = some (.lst ws) ∧ Ats H5 (fun l : List Str => l.map V.str) ws (lotsFor ch zs), ?_, ?_⟩
    · have hn : ∀ R : V → Hp → Prop, R (.ref t) H4 → ∃ p C' dx' fs v, V.ref x = .ref p ∧ H4 p = some (.ins C' dx' fs) ∧ Cls K C' ∧ NoAttr K C' "names" ∧ fs.lookup ("names" : Str) = some v ∧ R v H4 := fun R r => ⟨x, C, dx, _, _, rfl, hx4, T.cl, T.nN, look_n2 _ _, r⟩
      cases ch with
      | true =>
        refine ⟨_, rfl, _, rfl, ?_⟩
        refine iteT ?_
        exact ⟨_, rfl, hn _ ⟨t, zs, rfl, ht4, Nat.le_trans zlen (by decide), fun D ws H5 nD e5 hD at5 => ⟨D, ws, rfl, e5, hD, at5⟩⟩⟩
      | false =>
        refine ⟨_, rfl, _, rfl, ?_⟩
        refine iteF ?_
        exact ⟨_, rfl, hn _ ⟨t, zs.map V.str, rfl, .inr (SqT.of ht4), by rw [List.length_map]; exact Nat.le_trans zlen (by decide), fun D ws H5 nD e5 hD at5 => ⟨D, ws, rfl, e5, hD, lots_of_choices at5⟩⟩⟩
    rintro σ5 H5 ⟨D, ws, rfl, e5, hD5, at5⟩
    -- self.places = {lot: at for at, lot in enumerate(lots)}
    refine dcT_enL rfl (SqL.of hD5) fun D2 nD2 => ⟨fun k H' => Same H5 H' ∧ H' D2 = some (.dT (placesOf ((lotsFor ch zs).take k))), ⟨same_upd nD2, upd_same⟩, fun k H' ⟨e6, _⟩ => SqL.of (e6 _ _ hD5), ?_, ?_⟩
    · rintro k y H6 H7 hk ⟨e6, hd6⟩ ⟨T', y1, y2, rfl, nT, rfl, h1, h2⟩
      cases h1
      have h2 : ws[k]? = some y2 := h2
      obtain ⟨lot, hlot⟩ : ∃ lot, (lotsFor ch zs)[k]? = some lot := ⟨_, List.getElem?_eq_getElem (by rw [← at5.1]; exact hk)⟩
      obtain ⟨b, rfl, hb⟩ := at5.2 k y2 lot h2 hlot
      have eT := same_upd (o := HO.tup [V.int (k : Nat), .ref b]) nT
      refine ⟨T', _, rfl, SqT.of upd_same, rfl, _, _, rfl, _, _, rfl, rfl, ?_⟩
      refine ⟨rfl, _, rfl, _, rfl, placesOf ((lotsFor ch zs).take k), lot.map Sum.inr, b, rfl, ?_, eT _ _ hd6, ?_, Same.grow (Same.trans e6 eT) nD2, ?_⟩
      · rw [List.map_map]
        exact eT _ _ (e6 _ _ hb)
      · refine Nat.lt_of_le_of_lt (places_len _) ?_
        rw [List.length_take]
        have := lots_few zlen
        exact Evl.sz_lt (by omega)
      · rw [upd_same, places_snoc hlot]
    · rintro H6 ⟨e6, hd6⟩
      rw [at5.1, List.take_length] at hd6
      have hx6 := e6 _ _ (e5 _ _ hx4)
      have nD2x : D2 ≠ x := ne_of hd6 hx6 (fun z => nomatch z)
      refine ⟨_, rfl, x, C, dx, _, rfl, hx6, T.cl, T.nP, by show 2 < 1000; decide, kQ zs _ hw rfl znd ⟨dx, t, D2, ?_, ?_, ?_⟩ ?_⟩
      · rw [upd_same, put3]
        rfl
      · rw [upd_ne ntx]
        exact e6 _ _ (e5 _ _ ht4)
      · rw [upd_ne nD2x]
        exact hd6
      · exact (b4.trans (But.same (Same.trans e5 e6))).trans But.upd
end
end Bk

namespace Bk
open PySem PySem.Spec PyProof.Rows L2
section
variable {P : Program} {w : World} {K : PySem.W.Frag} {mg : Str → Option Value} {base : Heap}
theorem scSame : FnScope ["_law_found", "_law_due_here", "_law_x", "_law_y"] ["_law_found", "_law_due_here"] (defScope (topS 20)) := ⟨rfl, rfl, rfl, by decide +kernel, rfl, by decide +kernel, by decide +kernel⟩
theorem same_step (B : Bi mg) {n : Nat} {f : Addr} {fd : FuncData} (F : Fun K "_law_same" "_law_same" (topS 20) f fd) (g : mg "_law_same" = some (.ref f)) (b : Binds K fd ["_law_found", "_law_due_here"] [])
    (ih : FnOk P w K mg base CX0 (n + 1) f fd ["_law_found", "_law_due_here"] (spSame K n)) : FnOk P w K mg base CX0 (n + 2) f fd ["_law_found", "_law_due_here"] (spSame K (n + 1)) := by
  refine F.ok scSame (fun vs H Q E h => ?_) (fun cdv A outer s H vs Q E hr h => ?_)
  · obtain ⟨x, y, d, rfl, _⟩ := h
    rfl
  · obtain ⟨x, y, d, rfl, hx, hy, hd, hw, q⟩ := h
    have nd := scSame.nd
    have hu := hu_of hr
    have hr__law_same := hr
    have c__law_same : Cal P w K mg base CX0 (n + 1) "_law_same" f fd ["_law_found", "_law_due_here"] (spSame K n) := ⟨ih, g, F.kp, b⟩
    refine ⟨_, (pss_cons (ps_if (pt_val (pe_callB (kIsiT K) (by rfl) B.isinstance (by decide +kernel) (pa_cons (pv 1) (pa_cons (pe_tup (pa_cons (pe_bltn (v := .ty "list") (by rfl) B.list (by decide +kernel) rfl) (pa_cons (pe_bltn (v := .ty "tuple") (by rfl) B.tuple (by decide +kernel) rfl) pa_nil))) pa_nil)))) (pss_cons (ps_if (PW.pt (pw_or (pt_cmpR op_ne (pe_callB (kIsi K) (by rfl) B.isinstance (by decide +kernel) (pa_cons (pv 0) (pa_cons (pe_bltn (v := .ty "list") (by rfl) B.list (by decide +kernel) rfl) pa_nil))) (pe_callB (kIsi K) (by rfl) B.isinstance (by decide +kernel) (pa_cons (pv 1) (pa_cons (pe_bltn (v := .ty "list") (by rfl) B.list (by decide +kernel) rfl) pa_nil))) (nomark _)) (pw_or1 (pt_cmpR op_ne (pe_callB (kIsi K) (by rfl) B.isinstance (by decide +kernel) (pa_cons (pv 0) (pa_cons (pe_bltn (v := .ty "tuple") (by rfl) B.tuple (by decide +kernel) rfl) pa_nil))) (pe_callB (kIsi K) (by rfl) B.isinstance (by decide +kernel) (pa_cons (pv 1) (pa_cons (pe_bltn (v := .ty "tuple") (by rfl) B.tuple (by decide +kernel) rfl) pa_nil))) (nomark _))))) (pss_one (ps_ret pe_bl)) pss_nil)
      (pss_one (ps_ret (pe_and (pe_cmpR op_eq (pe_callB (kLen K) (by rfl) B.len PySem.boot_len (pa_cons (pv 0) pa_nil)) (pe_callB (kLen K) (by rfl) B.len PySem.boot_len (pa_cons (pv 1) pa_nil)) (nomark _)) (pe_one (pe_callB (kAll K rfl) (by rfl) B.all (by decide +kernel) (pa_cons (pe_lc (own := [("_law_x", 2), ("_law_y", 3)]) rfl nd (kPiZ K (by rfl) B.zip (pa_cons (pv 0) (pa_cons (pv 1) pa_nil))) (blkOk_by (N := ["_law_found", "_law_due_here", "_law_x", "_law_y"]) (sc := defScope (topS 20)) (by decide +kernel)) (fun _ _ _ _ _ => (kTg K 2 rfl (pgs_cons (pg_name (i := 2) nd rfl (Or.inl rfl)) (pgs_cons (pg_name (i := 3) nd rfl (Or.inl rfl)) pgs_nil)))) (fun _ _ _ _ _ => pts_nil) (fun _ _ _ _ _ => (pe_call c__law_same.ok hr__law_same (by rfl) c__law_same.g c__law_same.kp c__law_same.b .nil pass0 (pa_cons (pv 2) (pa_cons (pv 3) pa_nil))))) pa_nil))))))) pss_nil)
      (pss_cons (ps_if (pt_val (pe_callB (kIsi K) (by rfl) B.isinstance (by decide +kernel) (pa_cons (pv 1) (pa_cons (pe_bltn (v := .ty "int") (by rfl) B.int (by decide +kernel) rfl) pa_nil)))) (pss_one (ps_ret (pe_and (pe_callB (kIsi K) (by rfl) B.isinstance (by decide +kernel) (pa_cons (pv 0) (pa_cons (pe_bltn (v := .ty "int") (by rfl) B.int (by decide +kernel) rfl) pa_nil))) (pe_and (pe_cmpR op_eq (pe_callB (kIsi K) (by rfl) B.isinstance (by decide +kernel) (pa_cons (pv 0) (pa_cons (pe_bltn (v := .ty "bool") (by rfl) B.bool (by decide +kernel) rfl) pa_nil))) (pe_callB (kIsi K) (by rfl) B.isinstance (by decide +kernel) (pa_cons (pv 1) (pa_cons (pe_bltn (v := .ty "bool") (by rfl) B.bool (by decide +kernel) rfl) pa_nil))) (nomark _)) (pe_one (pe_cmpR op_eq (pv 0) (pv 1) (nomark _))))))) pss_nil)
      (pss_one (ps_ret (pe_and (pe_cmpR op_isBl (pe_callB (kIsiT K) (by rfl) B.isinstance (by decide +kernel) (pa_cons (pv 0) (pa_cons (pe_tup (pa_cons (pe_bltn (v := .ty "int") (by rfl) B.int (by decide +kernel) rfl) (pa_cons (pe_bltn (v := .ty "list") (by rfl) B.list (by decide +kernel) rfl) (pa_cons (pe_bltn (v := .ty "tuple") (by rfl) B.tuple (by decide +kernel) rfl) pa_nil)))) pa_nil))) pe_bl (nomark _)) (pe_one (pe_cmpR op_eq (pv 0) (pv 1) (nomark _)))))))), ?_⟩
    have tx := tyx_d hx
    have ty := tyx_d hy
    refine isi2 rfl ty (kit2 (kd_L d) (kd_T d)) fun H1 e1 => ⟨_, rfl, ?_⟩
    cases hs : isL d || isT d with
    | false =>
      refine iteF ?_
      refine isi1 rfl (TyX.same ty e1) (kit_ty (kd_I d)) ⟨_, rfl, ?_⟩
      obtain ⟨exy, hsc⟩ := flat_eq hx hy hs
      have hdec : decide (x = y) = true := decide_eq_true exy
      cases hi : isI d with
      | true =>
        refine iteT ?_
        refine isi1 rfl (TyX.same tx e1) (kit_ty (kd_I d)) ⟨_, rfl, ?_⟩
        rw [hi]
        refine iteT ?_
        refine isi1 rfl (TyX.same tx e1) (kit_ty (kd_B d)) ?_
        refine isi1 rfl (TyX.same ty e1) (kit_ty (kd_B d)) ⟨rfl, _, rfl, ?_⟩
        rw [decide_eq_true rfl]
        refine iteT ?_
        refine ⟨_, rfl, _, rfl, hsc, ?_⟩
        rw [hdec]
        exact q H1 e1
      | false =>
        refine iteF ?_
        have hl : isL d = false := by cases h : isL d <;> simp_all
        have ht : isT d = false := by cases h : isT d <;> simp_all
        refine isi3 rfl (TyX.same tx e1) (kit3 (kd_I d) (kd_L d) (kd_T d)) fun H2 e2 => ?_
        rw [hi, hl, ht]
        refine ⟨false, false, rfl, rfl, _, rfl, ?_⟩
        rw [decide_eq_true rfl]
        refine iteT ?_
        refine ⟨_, rfl, _, rfl, hsc, ?_⟩
        rw [hdec]
        exact q H2 (Same.trans e1 e2)
    | true =>
      refine iteT ?_
      obtain ⟨a, b, xs, ys, ds, rfl, rfl, hS, hxs, hys, hdp, hw1, hw2⟩ : ∃ a b xs ys ds, x = .ref a ∧ y = .ref b ∧ ((SqL K H a xs ∧ SqL K H b ys) ∨ (SqT K H a xs ∧ SqT K H b ys)) ∧ DpAll K H xs ds ∧ DpAll K H ys ds ∧ PyData.depthAll ds + 1 ≤ n ∧ ds.length ≤ 90000 ∧ wideAll ds ≤ 90000 := by
        cases hx with
        | lst h1 h2 =>
          cases hy with
          | lst h3 h4 => exact ⟨_, _, _, _, _, rfl, rfl, .inl ⟨h1, h3⟩, h2, h4, by simpa [PyData.depth] using hd, by simp only [wide] at hw; omega, by simp only [wide] at hw; omega⟩
        | tup h1 h2 =>
          cases hy with
          | tup h3 h4 => exact ⟨_, _, _, _, _, rfl, rfl, .inr ⟨h1, h3⟩, h2, h4, by simpa [PyData.depth] using hd, by simp only [wide] at hw; omega, by simp only [wide] at hw; omega⟩
        | _ => cases hs
      have hlen : xs.length = ys.length := by rw [DpAll.len hxs, DpAll.len hys]
      have hS1 : (SqL K H1 a xs ∧ SqL K H1 b ys) ∨ (SqT K H1 a xs ∧ SqT K H1 b ys) := hS.imp (fun z => ⟨e1.seq z.1, e1.seq z.2⟩) fun z => ⟨Same.sqt e1 z.1, Same.sqt e1 z.2⟩
      have lx : LenV K (.ref a) H1 xs.length := hS1.imp (fun z => ⟨xs, z.1, rfl⟩) fun z => ⟨xs, z.1, rfl⟩
      have ly : LenV K (.ref b) H1 ys.length := hS1.imp (fun z => ⟨ys, z.2, rfl⟩) fun z => ⟨ys, z.2, rfl⟩
      refine isi1 rfl (TyX.same tx e1) (kit_ty (kd_L d)) ?_
      refine isi1 rfl (TyX.same ty e1) (kit_ty (kd_L d)) ⟨rfl, _, rfl, ?_⟩
      rw [decide_eq_true rfl]
      refine iteF ?_
      refine isi1 rfl (TyX.same tx e1) (kit_ty (kd_T d)) ?_
      refine isi1 rfl (TyX.same ty e1) (kit_ty (kd_T d)) ⟨rfl, _, rfl, ?_⟩
      rw [decide_eq_true rfl]
      refine iteF ?_
      refine ⟨_, rfl, _, _, rfl, lx, _, rfl, _, _, rfl, ly, rfl, ?_⟩
      rw [hlen, decide_eq_true rfl]
      refine ⟨_, rfl, ?_⟩
      refine iteT ?_
      obtain ⟨m, rfl⟩ : ∃ m, n = m + 1 := ⟨n - 1, by omega⟩
      refine cb1 ?_
      refine lcZ (a := a) (b := b) (xs := xs) (ys := ys) rfl rfl hS1 hlen fun D nD => ⟨fun k H' => Same H1 H' ∧ H' D = some (.lst (List.replicate k (V.bl true))), ⟨same_upd nD, upd_same⟩, fun k H' z => z.1, ?_, ?_⟩
      · rintro k v H3 H4 hk ⟨e3, hD⟩ ⟨T, v1, v2, rfl, nT, rfl, g1, g2⟩
        have eT := same_upd (o := HO.tup [v1, v2]) nT
        refine ⟨T, _, rfl, SqT.of upd_same, rfl, _, _, rfl, _, _, rfl, rfl, ?_⟩
        refine ⟨rfl, yes2 ?_⟩
        have g1 : xs[k]? = some v1 := g1
        have g2 : ys[k]? = some v2 := g2
        obtain ⟨d1, f1, p1⟩ := DpAll.get hxs g1
        obtain ⟨d2, f2, p2⟩ := DpAll.get hys g2
        rw [f1] at f2
        obtain rfl := Option.some.inj f2
        have e04 := Same.trans e1 (Same.trans e3 eT)
        have hdd := depth_mem (List.mem_of_getElem? f1)
        have hww := wide_mem (List.mem_of_getElem? f1)
        refine ⟨_, rfl, _, rfl, v1, v2, d1, rfl, Dp.sm e04 _ _ p1, Dp.sm e04 _ _ p2, by omega, by omega, fun H5 e5 => ?_⟩
        have e15 := Same.trans e3 (Same.trans eT e5)
        refine ⟨_, e5 _ _ (eT _ _ hD), ?_, Same.grow e15 nD, ?_⟩
        · rw [List.length_replicate]
          have := DpAll.len hxs
          exact Evl.sz_lt (by omega)
        · rw [upd_same, List.replicate_succ']
      · rintro H3 ⟨e3, hD⟩
        refine ⟨D, List.replicate xs.length true, rfl, SqL.of (by rw [List.map_replicate]; exact hD), ?_⟩
        have : (List.replicate xs.length true).all id = true := by
          rw [List.all_eq_true]
          intro z hz
          rw [List.eq_of_mem_replicate hz]
          rfl
        rw [this]
        exact q H3 (Same.trans e1 e3)
theorem ok_same (B : Bi mg) {f : Addr} {fd : FuncData} (F : Fun K "_law_same" "_law_same" (topS 20) f fd) (g : mg "_law_same" = some (.ref f)) (b : Binds K fd ["_law_found", "_law_due_here"] []) : ∀ n, FnOk P w K mg base CX0 (n + 1) f fd ["_law_found", "_law_due_here"] (spSame K n)
  | 0 => ok_never
  | n + 1 => same_step B F g b (ok_same B F g b n)
end
end Bk

namespace Bk
open PySem PySem.Spec PyProof.Rows L2
def spDue (K : PySem.W.Frag) : Sp := fun vs H Q _ => ∃ (x : V) (o : Option (List V)) (ch : Bool), vs = [x, .bl ch] ∧ Thing K H x o ∧ ∀ H', Same H H' → Q (optV (wrongOf o (mostFor ch))) H'
section
variable {P : Program} {w : World} {K : PySem.W.Frag} {mg : Str → Option Value} {base : Heap}
theorem scDue : FnScope ["_law_things", "_law_is_chain", "_law_at", "_law_thing", "_law_letters", "_law_sign"] ["_law_things", "_law_is_chain"] (defScope (topS 23)) := ⟨rfl, rfl, rfl, by decide +kernel, rfl, by decide +kernel, by decide +kernel⟩
theorem ok_due (B : Bi mg) {f : Addr} {fd : FuncData} (F : Fun K "_law_due" "_law_due" (topS 23) f fd) : FnOk P w K mg base CX0 1 f fd ["_law_things", "_law_is_chain"] (spDue K) := by
  refine F.ok scDue (fun vs H Q E h => ?_) (fun cdv A outer s H vs Q E hr h => ?_)
  · obtain ⟨x, o, ch, rfl, _⟩ := h
    rfl
  · obtain ⟨x, o, ch, rfl, T, q⟩ := h
    have nd := scDue.nd
    have hu := hu_of hr
    refine ⟨_, (pss_cons (ps_if (PW.pt (pw_or (pt_not (pt_val (pe_callB (kIsiT K) (by rfl) B.isinstance (by decide +kernel) (pa_cons (pv 0) (pa_cons (pe_tup (pa_cons (pe_bltn (v := .ty "list") (by rfl) B.list (by decide +kernel) rfl) (pa_cons (pe_bltn (v := .ty "tuple") (by rfl) B.tuple (by decide +kernel) rfl) pa_nil))) pa_nil))))) (pw_or1 (pt_cmpR op_eq (pe_callB (kLen K) (by rfl) B.len PySem.boot_len (pa_cons (pv 0) pa_nil)) pe_int (nomark _))))) (pss_one (ps_ret pe_int)) pss_nil)
      (pss_cons (ps_for PassesOwn.never rfl (kPiE K (by rfl) B.enumerate (pa_cons (pv 0) pa_nil)) (kTg K 2 rfl (pgs_cons (pg_name (i := 2) nd rfl (Or.inl rfl)) (pgs_cons (pg_name (i := 3) nd rfl (Or.inl rfl)) pgs_nil))) (Evl.pss_cut (ps_set (i := 4) nd rfl (Or.inl rfl) (pe_ifExp (pt_val (pe_callB (kIsi K) (by rfl) B.isinstance (by decide +kernel) (pa_cons (pv 3) (pa_cons (pe_bltn (v := .ty "str") (by rfl) B.str (by decide +kernel) rfl) pa_nil)))) (pe_lc (own := [("_law_sign", 5)]) rfl nd (pi_str (pv 3)) (blkOk_by (N := ["_law_things", "_law_is_chain", "_law_at", "_law_thing", "_law_letters", "_law_sign"]) (sc := defScope (topS 23)) (by decide +kernel)) (fun _ _ _ _ _ => (pg_name (i := 5) nd rfl (Or.inl rfl))) (fun _ _ _ _ _ => (pts_one (pt_chain op_le_str op_le_str pe_str (pv 5) pe_str))) (fun _ _ _ _ _ => (pv 5))) (pe_lst pa_nil)))
      (Evl.pss_cut (ps_if (PW.pt (pw_or (pt_not (pt_val (pe_callB (kIsi K) (by rfl) B.isinstance (by decide +kernel) (pa_cons (pv 3) (pa_cons (pe_bltn (v := .ty "str") (by rfl) B.str (by decide +kernel) rfl) pa_nil))))) (pw_or (pt_not (pt_chain op_lt op_lt pe_int (pe_callB (kLen K) (by rfl) B.len PySem.boot_len (pa_cons (pv 4) pa_nil)) pe_int)) (pw_or1 (pt_cmpR op_ne (pe_callB (kLen K) (by rfl) B.len PySem.boot_len (pa_cons (pv 4) pa_nil)) (pe_callB (kLen K) (by rfl) B.len PySem.boot_len (pa_cons (pv 3) pa_nil)) (nomark _)))))) (pss_one (ps_ret (pv 2))) pss_nil)
      (pss_one (ps_if (PW.pt (pw_or (pt_cmpR (kIn K) (pv 3) (pe_slice (kSlL K) (pe_callTy (kList K) (by rfl) B.list (by decide +kernel) (pa_cons (pv 0) pa_nil)) po_none (po_some (pv 2))) rfl) (pw_or1 (pt_cmpR op_eq (pv 2) (pe_ifExp (pt_val (pv 1)) pe_int pe_int) (nomark _))))) (pss_one (ps_ret (pv 2))) pss_nil)))))
      (pss_one (ps_ret pe_non)))), ?_⟩
    cases T with
    | no b =>
      obtain ⟨t, tx, kk⟩ := b
      refine isi2 rfl tx kk fun H1 e1 => ⟨_, rfl, ?_⟩
      refine iteT ?_
      refine iteT ?_
      exact q H1 e1
    | @seq a xs hS0 b hi hl =>
      have hS : SqL K H a xs ∨ SqT K H a xs := hS0.imp id SqT.of
      clear hS0
      obtain ⟨t, tx, kk⟩ := b
      refine isi2 rfl tx kk fun H1 e1 => ⟨_, rfl, ?_⟩
      refine iteF ?_
      have hS1 : SqL K H1 a xs ∨ SqT K H1 a xs := hS.imp (fun z => e1.seq z) fun z => Same.sqt e1 z
      refine ⟨_, rfl, .ref a, xs.length, rfl, hS1.imp (fun z => ⟨xs, z, rfl⟩) (fun z => ⟨xs, z, rfl⟩), rfl, _, rfl, ?_⟩
      cases xs with
      | nil =>
        refine iteT ?_
        exact q H1 e1
      | cons x0 r0 =>
        have hlen : (x0 :: r0).length = r0.length + 1 := rfl
        generalize hxs : x0 :: r0 = xs at hS1 hi hl q hlen ⊢
        have hne : xs ≠ [] := by rw [← hxs]; exact List.cons_ne_nil _ _
        have efw : firstWrong xs (mostFor ch) = wrongFrom xs (mostFor ch) 0 (xs.drop 0) := by
          unfold firstWrong
          rw [if_neg hne]
          rfl
        have q : ∀ H', Same H H' → Q (optV (wrongFrom xs (mostFor ch) 0 (xs.drop 0))) H' := fun H' e => by
          rw [← efw]
          exact q H' e
        have e0 : decide (V.int (xs.length : Int) = V.int 0) = false := decide_eq_false (fun z => by injection z with z; omega)
        rw [e0]
        refine iteF ?_
        refine st_next ?_
        refine st_seq ?_
        refine for_enS (a := a) (xs := xs) rfl hS1 (fun i σ H2 => ∃ v2 v3 v4, σ = [some (.ref a), some (.bl ch), v2, v3, v4, none] ∧ Same H1 H2 ∧ wrongFrom xs (mostFor ch) 0 (xs.drop 0) = wrongFrom xs (mostFor ch) i (xs.drop i) ∧ ∀ j x, j < i → xs[j]? = some x → isNameB x = true) ?_ ?_ ?_ ?_
        · exact ⟨none, none, none, rfl, Same.refl _, rfl, fun j x hj => absurd hj (Nat.not_lt_zero _)⟩
        · rintro i σ H2 ⟨_, _, _, _, e2, _⟩
          exact e2
        · rintro i y σ H2 H3 hi' ⟨v2, v3, v4, rfl, e2, ew, hn⟩ ⟨T, y1, y2, rfl, nT, rfl, h1, h2⟩
          cases h1
          have h2 : xs[i]? = some y2 := h2
          have hx := List.mem_of_getElem? h2
          have eT := same_upd (o := HO.tup [V.int (i : Nat), y2]) nT
          refine ⟨T, _, rfl, SqT.of upd_same, rfl, _, _, rfl, _, _, rfl, rfl, ?_⟩
          generalize upd H2 T (.tup [.int (i : Nat), y2]) = H3 at eT ⊢
          have e3 : Same H H3 := Same.trans e1 (Same.trans e2 eT)
          have e13 : Same H1 H3 := Same.trans e2 eT
          have bad : badAt xs (mostFor ch) i y2 = true → ∀ H4, Same H3 H4 → Q (.int (i : Nat)) H4 := fun hb H4 e4 => by
            have z := q H4 (Same.trans e3 e4)
            rw [ew, wrong_step h2, if_pos hb] at z
            exact z
          obtain ⟨t2, ty2, kk2, hz2⟩ := (hi y2 hx).same e3
          -- the letters
          refine ⟨fun σ' H4 => ∃ (L : Addr) (ls : List V), σ' = [some (.ref a), some (.bl ch), some (.int (i : Nat)), some y2, some (.ref L), none] ∧ Same H3 H4 ∧ H4 L = some (.lst ls) ∧ ∀ z, y2 = .str z → ls.length = (z.cps.toList.filter fun c => decide (c ∈ lettersL)).length, ?_, ?_⟩
          · refine isi1 rfl ty2 kk2 ⟨_, rfl, ?_⟩
            cases y2 with
            | str z =>
              refine iteT ?_
              refine ⟨_, rfl, z, rfl, fun D nD => ?_⟩
              refine lc_it walk_str (UptoF H3 D z.cps.toList (fun c => V.str (sg c)) fun c => decide (c ∈ lettersL)) (.zero nD) (fun _ _ _ _ => trivial) ?_ ?_
              · rintro j x H5 H6 hj u ⟨rfl, c, hc, rfl⟩
                have hc' : z.cps.toList[j]? = some c := by rw [← hc]; simp
                refine ⟨rfl, ?_⟩
                refine ⟨_, rfl, _, _, rfl, rfl, _, rfl, ?_⟩
                have e1 : (!decide ((⟨#[c]⟩ : Str).cps.toList < (Str.ofString "a").cps.toList)) = decide (97 ≤ c) := by
                  rw [show (Str.ofString "a").cps.toList = [97] from rfl, show (⟨#[c]⟩ : Str).cps.toList = [c] from rfl, lt_one]
                  by_cases h : c < 97
                  · rw [decide_eq_true h, decide_eq_false (by omega)]
                    rfl
                  · rw [decide_eq_false h, decide_eq_true (by omega)]
                    rfl
                have e2 : (!decide ((Str.ofString "z").cps.toList < (⟨#[c]⟩ : Str).cps.toList)) = decide (c ≤ 122) := by
                  rw [show (Str.ofString "z").cps.toList = [122] from rfl, show (⟨#[c]⟩ : Str).cps.toList = [c] from rfl, lt_one]
                  by_cases h : 122 < c
                  · rw [decide_eq_true h, decide_eq_false (by omega)]
                    rfl
                  · rw [decide_eq_false h, decide_eq_true (by omega)]
                    rfl
                rw [e1]
                by_cases h1 : 97 ≤ c
                · rw [decide_eq_true h1]
                  refine iteT ?_
                  refine ⟨_, _, rfl, rfl, _, rfl, ?_⟩
                  rw [e2]
                  by_cases h2 : c ≤ 122
                  · rw [decide_eq_true h2]
                    refine iteT ?_
                    exact ⟨_, rfl, u.yes nD hc' (decide_eq_true ((letters_mem c).mpr ⟨h1, h2⟩)) (Same.refl _) (hz2 z rfl)⟩
                  · rw [decide_eq_false h2]
                    refine iteF ?_
                    exact u.no hc' (decide_eq_false fun m => h2 ((letters_mem c).mp m).2) (Same.refl _)
                · rw [decide_eq_false h1]
                  refine iteF ?_
                  refine ⟨_, rfl, ?_⟩
                  refine iteF ?_
                  exact u.no hc' (decide_eq_false fun m => h1 ((letters_mem c).mp m).1) (Same.refl _)
              · intro H5 u
                have eD := u.all (by simp)
                exact ⟨D, _, rfl, u.sm, eD, fun z' e => by cases e; rw [List.length_map]⟩
            | _ =>
              refine iteF ?_
              exact ⟨by show 0 ≤ sizeLine; exact Nat.zero_le _, fun p np => ⟨p, [], rfl, same_upd np, upd_same, fun z e => by cases e⟩⟩
          rintro σ' H4 ⟨L, ls, rfl, e4, hL, hls⟩
          -- no name
          refine ⟨fun σ' H5 => isNameB y2 = true ∧ σ' = [some (.ref a), some (.bl ch), some (.int (i : Nat)), some y2, some (.ref L), none] ∧ Same H3 H5, ?_, ?_⟩
          · refine isi1 rfl (TyX.same ty2 e4) kk2 ⟨_, rfl, ?_⟩
            cases y2 with
            | str z =>
              refine iteF ?_
              have hn := name_by_letters (hls z rfl)
              have lL : LenV K (.ref L) H4 ls.length := .inl ⟨ls, SqL.of hL, rfl⟩
              have lz : LenV K (.str z) H4 z.length := ⟨Evl.sz_of (hz2 z rfl), rfl⟩
              refine ⟨_, rfl, _, _, rfl, lL, _, _, rfl, rfl, _, rfl, ?_⟩
              have ret : isNameS z = false → Q (.int (i : Nat)) H4 := fun h => bad (by simp [badAt, isNameB, h]) H4 e4
              refine ite2 (fun c1 => ?_) (fun c1 => ?_)
              · have c1 := of_decide_eq_true c1
                refine ⟨_, _, rfl, rfl, _, rfl, ?_⟩
                refine ite2 (fun c2 => ?_) (fun c2 => ?_)
                · refine iteT ?_
                  refine ⟨_, rfl, ret ?_⟩
                  have c2 : ¬ ls.length < 9 := fun q => by
                    rw [decide_eq_true (show (ls.length : Int) < 9 by omega)] at c2
                    cases c2
                  rw [hn, decide_eq_false c2, Bool.and_false, Bool.false_and]
                · have c2 : ls.length < 9 := by
                    rcases Nat.lt_or_ge ls.length 9 with h | h
                    · exact h
                    · rw [decide_eq_false (show ¬ (ls.length : Int) < 9 by omega)] at c2
                      exact (c2 rfl).elim
                  refine ⟨_, rfl, _, _, rfl, lL, _, rfl, _, _, rfl, lz, rfl, _, rfl, ?_⟩
                  by_cases c3 : ls.length = z.length
                  · have : (!decide (V.int (ls.length : Int) = V.int (z.length : Int))) = false := by rw [c3, decide_eq_true rfl]; rfl
                    rw [this]
                    refine iteF ?_
                    refine ⟨?_, rfl, e4⟩
                    show isNameS z = true
                    rw [hn, decide_eq_true (show 0 < ls.length by omega), decide_eq_true c2, decide_eq_true c3]
                    rfl
                  · have : (!decide (V.int (ls.length : Int) = V.int (z.length : Int))) = true := by rw [decide_eq_false (fun q => c3 (by injection q with q; omega))]; rfl
                    rw [this]
                    refine iteT ?_
                    refine ⟨_, rfl, ret ?_⟩
                    rw [hn, decide_eq_false c3, Bool.and_false]
              · refine ⟨_, rfl, ?_⟩
                refine iteT ?_
                refine iteT ?_
                refine ⟨_, rfl, ret ?_⟩
                have c1 : ¬ 0 < ls.length := fun q => c1 (decide_eq_true (by omega))
                rw [hn, decide_eq_false c1, Bool.false_and, Bool.false_and]
            | _ =>
              refine iteT ?_
              refine iteT ?_
              exact ⟨_, rfl, bad (by simp [badAt, isNameB]) H4 e4⟩
          rintro σ' H5 ⟨hn2, rfl, e5⟩
          have hS5 : SqL K H5 a xs ∨ SqT K H5 a xs := hS1.imp (fun z => Same.seq (Same.trans e13 e5) z) fun z => Same.sqt (Same.trans e13 e5) z
          have hn' : ∀ j x, j < i + 1 → xs[j]? = some x → isNameB x = true := fun j x hj hjx => by
            rcases Nat.lt_succ_iff_lt_or_eq.mp hj with hj | rfl
            · exact hn j x hj hjx
            · rw [h2] at hjx
              cases hjx
              exact hn2
          refine ⟨_, rfl, _, rfl, a, xs, rfl, hS5, fun p np => ⟨_, rfl, _, rfl, p, xs, rfl, SqL.of upd_same, fun p2 np2 => ?_⟩⟩
          rw [cut_to xs i (by omega)]
          have ep := same_upd (o := HO.lst xs) np
          have ep2 := same_upd (o := HO.lst (xs.take i)) np2
          have e6 := Same.trans e5 (Same.trans ep ep2)
          refine ⟨p2, _, rfl, .inl (SqL.of upd_same), name_flat hn2, all_flat hn, _, rfl, ?_⟩
          cases hv : inV y2 (xs.take i) with
          | true =>
            refine iteT ?_
            refine iteT ?_
            exact ⟨_, rfl, bad (by simp [badAt, hv]) _ e6⟩
          | false =>
            refine iteF ?_
            refine ⟨_, rfl, _, rfl, ?_⟩
            have fin : ∀ (H7 : Hp), Same H3 H7 → (if decide (V.int (i : Nat) = V.int (mostFor ch : Nat)) = true then (∃ v, [some (V.ref a), some (.bl ch), some (.int (i : Nat)), some y2, some (.ref L), none][2]? = some (some v) ∧ Q v H7) else
                (∃ v2 v3 v4, [some (V.ref a), some (.bl ch), some (.int (i : Nat)), some y2, some (.ref L), none] = [some (.ref a), some (.bl ch), v2, v3, v4, none] ∧ Same H1 H7 ∧ wrongFrom xs (mostFor ch) 0 (xs.drop 0) = wrongFrom xs (mostFor ch) (i + 1) (xs.drop (i + 1)) ∧ ∀ j x, j < i + 1 → xs[j]? = some x → isNameB x = true)) := by
              intro H7 e7
              by_cases hm : i = mostFor ch
              · rw [if_pos (decide_eq_true (by rw [hm]))]
                exact ⟨_, rfl, bad (by simp [badAt, hm]) H7 e7⟩
              · rw [if_neg (fun z => hm (by have := of_decide_eq_true z; injection this with this; omega))]
                refine ⟨_, _, _, rfl, Same.trans e13 e7, ?_, hn'⟩
                rw [ew, wrong_step h2, if_neg (by simp [badAt, hm, hv, hn2])]
            cases ch with
            | true =>
              refine ⟨_, rfl, ?_⟩
              refine iteT ?_
              exact ⟨rfl, _, rfl, fin _ e6⟩
            | false =>
              refine ⟨_, rfl, ?_⟩
              refine iteF ?_
              exact ⟨rfl, _, rfl, fin _ e6⟩
        · rintro σ H2 ⟨v2, v3, v4, rfl, e2, ew, hn⟩
          rw [wrong_end (Nat.le_refl _)] at ew
          rw [ew] at q
          exact q H2 (Same.trans e1 e2)
end
end Bk

namespace Bk
open PySem PySem.Spec PyProof.Rows L2
def spTried (K : PySem.W.Frag) : Sp := fun vs H Q _ => ∃ (x : V) (o : Option (List V)) (ch : Bool), vs = [x, .bl ch] ∧ Thing K H x o ∧
  (∀ i p H', wrongOf o (mostFor ch) = some i → H p = none → Same H H' → H' p = some (.tup [.str (Str.ofString "bad"), .int (i : Int)]) → Q (.ref p) H') ∧
  (∀ (zs : List Str) p t H', wrongOf o (mostFor ch) = none → o = some (zs.map V.str) → zs.Nodup → H p = none → Same H H' → H' p = some (.tup [.str (Str.ofString "made"), .ref t]) → H' t = some (.tup (zs.map V.str)) → Q (.ref p) H')
section
variable {P : Program} {w : World} {K : PySem.W.Frag} {mg : Str → Option Value} {base : Heap}
theorem scTried : FnScope ["_law_things", "_law_is_chain", "_law_found", "e"] ["_law_things", "_law_is_chain"] (defScope (topS 24)) := ⟨rfl, rfl, rfl, by decide +kernel, rfl, by decide +kernel, by decide +kernel⟩
theorem ok_tried (B : Bi mg) {C CB fF fB f : Addr} {fdF fd : FuncData} {gk : List Value → List Value → List Value} (T : FolT K mg C fF) (TB : ExT K mg "BadFolders" CB fB "index") (GF : FnOk P w K mg base (L2.CX P w) 3 fF fdF ["self", "names", "chain"] (spFolders K C CB))
    (bF : KBn K fdF ["self", "names", "chain"] 2 ["chain"] gk (fun vs zs => vs ++ zs)) (F : Fun K "_law_tried" "_law_tried" (topS 24) f fd) : FnOk P w K mg base CX0 5 f fd ["_law_things", "_law_is_chain"] (spTried K) := by
  refine F.ok scTried (fun vs H Q E h => ?_) (fun cdv A outer s H vs Q E hr h => ?_)
  · obtain ⟨x, o, ch, rfl, _⟩ := h
    rfl
  · obtain ⟨x, o, ch, rfl, Th, qb, qm⟩ := h
    have nd := scTried.nd
    have hu := hu_of hr
    refine ⟨_, pss_cons (ps_set (i := 2) nd rfl (Or.inl rfl) (pe_tup (pa_cons pe_str pa_nil)))
      (Evl.pss_cut (ps_try_as (i := 3) (tb := fun W => tAsg (tTup (tCons (tC (.str (Str.ofString "made"))) (tCons (tFld K (tMakeKS C 1 1 (spFolders K C CB) (fun vs zs => vs ++ zs) (WE W) (tCons (tVar 0) tNil) (tCons (tVar 1) tNil)) "names") tNil))) (gName 2))
        (ts := fun a cls d => tAsg (tTup (tCons (tC (.str (Str.ofString "bad"))) (tCons (tXf a cls d CB "index" (tVar 3)) tNil))) (gName 2)) (Wout := fun _ _ _ _ => False) rfl rfl nd rfl rfl ⟨rfl, by decide, Or.inl TB.g⟩ takes0
          (fun W pn xe tk _ => pss_one (ps_set (i := 2) nd rfl (Or.inl rfl) (by exact (pe_tup (pa_cons pe_str (pa_cons (kFld K (pe_makeKS T.make GF hr (by rfl) T.g bF (fun σ => passAt tk σ) (pa_cons (pv 0) pa_nil) (pk_cons (pv 1) pk_nil))) pa_nil))))))
          (fun a oe cls d pn hz hf => pss_one (ps_set (i := 2) nd rfl (Or.inl rfl) (by exact (pe_tup (pa_cons pe_str (pa_cons (pe_xf TB.xf TB.noF hz hf (pv 3)) pa_nil)))))))
      (pss_one (ps_ret (pv 2)))), ?_⟩
    refine ⟨by show 1 ≤ sizeLine; rw [sizeLine_eq]; omega, fun p0 np0 => ?_⟩
    have e0 := same_upd (o := HO.tup [.str (Str.ofString "odd")]) np0
    generalize upd H p0 (HO.tup [.str (Str.ofString "odd")]) = H0 at e0 ⊢
    refine ⟨fun σ' H' => ∃ p v4, σ' = [some x, some (.bl ch), some (.ref p), v4] ∧ Q (.ref p) H', ?_, ?_⟩
    · refine ⟨_, rfl, _, rfl, rfl, rfl, fun y dx ny ndx hne => ?_⟩
      have T0 := Th.same e0
      have e1 := Same.grow (o := HO.ins C dx []) (Same.grow (o := HO.own y) (Same.refl H0) ndx) ny
      refine ⟨y, dx, x, o, ch, rfl, upd_same, T0.same e1, ?_, ?_⟩
      · rintro i d H' hw ⟨nd1, e2, hd⟩
        refine ⟨true, TB.te, fun _ a na => ⟨_, rfl, rfl, rfl, d, _, _, rfl, hd, rfl, ?_⟩, fun z => by cases z⟩
        refine ⟨by show 2 ≤ sizeLine; rw [sizeLine_eq]; omega, fun p np => ⟨p, _, rfl, qb i p _ hw ?_ ?_ upd_same⟩⟩
        · exact ((Same.trans e0 (Same.trans e1 e2)).free np)
        · exact Same.grow (Same.trans e0 (Same.trans e1 e2)) ((Same.trans e0 (Same.trans e1 e2)).free np)
      · rintro zs H' hw rfl hn ⟨dx', t, pd, hy, ht, hp⟩ hb
        have e2 : Same H0 H' := fun b u e => by
          have nb : b ≠ y := ne_of_none e ny
          refine hb b u nb ?_
          exact e1 _ _ e
        have e3 := Same.trans e0 e2
        refine ⟨rfl, y, C, dx', _, _, rfl, hy, T.cl, T.nN, look_names _ _ _, ?_⟩
        refine ⟨by show 2 ≤ sizeLine; rw [sizeLine_eq]; omega, fun p np => ⟨p, _, rfl, qm zs p t _ hw rfl hn (e3.free np) (Same.grow e3 (e3.free np)) upd_same ?_⟩⟩
        rw [upd_ne (ne_of_none ht np)]
        exact ht
    · rintro σ' H' ⟨p, v4, rfl, q⟩
      exact ⟨_, rfl, q⟩
end
end Bk

namespace Bk
open PySem PySem.Spec PyProof.Rows L2
theorem str_inj : ∀ {a b : List Str}, a.map V.str = b.map V.str → a = b
  | [], [], _ => rfl
  | [], _ :: _, h => nomatch h
  | _ :: _, [], h => nomatch h
  | x :: r, y :: t, h => by
    injection h with h1 h2
    injection h1 with h1
    rw [h1, str_inj h2]
def spLaw (K : PySem.W.Frag) : Sp := fun vs H Q _ => ∃ (a : Addr) (ns : List Int), vs = [.ref a] ∧ SqL K H a (ns.map V.int) ∧ ∀ H', Q (.bl true) H'
section
variable {P : Program} {w : World} {K : PySem.W.Frag} {mg : Str → Option Value} {base : Heap}
theorem scLaw : FnScope ["_law_script", "_law_stream", "_law_odd", "_law_turn", "_law_is_chain", "_law_names_here", "_law_things", "_law_handed", "_law_due_here", "_law_wished"] ["_law_script"] (defScope (topS 25)) := ⟨rfl, rfl, rfl, by decide +kernel, rfl, by decide +kernel, by decide +kernel⟩
theorem ok_law (B : Bi mg) {C CB fF f f1 f2 f3 f4 f5 f6 f7 : Addr} {fdF fd fd1 fd2 fd3 fd4 fd5 fd6 fd7 : FuncData} {ds : List Value} (T : FolT K mg C fF) (GF : FnOk P w K mg base (L2.CX P w) 3 fF fdF ["self", "names", "chain"] (spFolders K C CB))
    (bF : Binds K fdF ["self", "names", "chain"] ds) (dF : Vals [V.bl false] ds) (kF : PySem.W.kitAny K (.ref C) [.type "list", .type "tuple"] = some false) (tF : ∀ (H : Hp) (x dx : Addr) (fs : List (Str × V)), H x = some (.ins C dx fs) → TyX K H (.ref x) (.ref C))
    (c__law_start : Cal P w K mg base CX0 1 "_law_start" f1 fd1 ["_law_script"] (spStart K)) (c__law_draw : Cal P w K mg base CX0 1 "_law_draw" f2 fd2 ["_law_stream", "_law_many"] spDraw) (c__law_pick : Cal P w K mg base CX0 2 "_law_pick" f3 fd3 ["_law_stream", "_law_some"] (spPick K))
    (c__law_names : Cal P w K mg base CX0 4 "_law_names" f4 fd4 ["_law_stream", "_law_many"] (spNames K)) (c__law_due : Cal P w K mg base CX0 1 "_law_due" f5 fd5 ["_law_things", "_law_is_chain"] (spDue K)) (c__law_tried : Cal P w K mg base CX0 5 "_law_tried" f6 fd6 ["_law_things", "_law_is_chain"] (spTried K))
    (c__law_same : Cal P w K mg base CX0 5 "_law_same" f7 fd7 ["_law_found", "_law_due_here"] (spSame K 4))
    (F : Fun K "law" "law" (topS 25) f fd) : FnOk P w K mg base CX0 6 f fd ["_law_script"] (spLaw K) := by
  refine F.ok scLaw (fun vs H Q E h => ?_) (fun cdv A outer s H vs Q E hr h => ?_)
  · obtain ⟨a, ns, rfl, _⟩ := h
    rfl
  · obtain ⟨a, ns, rfl, hS, q⟩ := h
    have nd := scLaw.nd
    have hu := hu_of hr
    have hr__law_tried := hr
    have hr__law_same := hr
    have hr__law_names : Room 4 _ := hr.mono (by decide)
    have hrF := hr__law_names
    have hr__law_pick : Room 2 _ := hr.mono (by decide)
    have hr__law_start : Room 1 _ := hr.mono (by decide)
    have hr__law_draw := hr__law_start
    have hr__law_due := hr__law_start
    refine ⟨_, (pss_cons (ps_set (i := 1) nd rfl (Or.inl rfl) (pe_call c__law_start.ok hr__law_start (by rfl) c__law_start.g c__law_start.kp c__law_start.b .nil pass0 (pa_cons (pv 0) pa_nil)))
      (Evl.pss_cut (ps_set (i := 2) nd rfl (Or.inl rfl) (pe_lst (pa_cons pe_non (pa_cons pe_int (pa_cons pe_str (pa_cons pe_str (pa_cons pe_str (pa_cons pe_str (pa_cons pe_str (pa_cons (pe_lst (pa_cons pe_str pa_nil)) (pa_cons (pe_tup (pa_cons pe_str pa_nil)) (pa_cons pe_dnewK (pa_cons pe_bl (pa_cons pe_str (pa_cons pe_str (pa_cons pe_str pa_nil))))))))))))))))
      (pss_cons (ps_for PassesOwn.never rfl (pi_range1 (by rfl) B.range (pa_cons pe_int pa_nil)) (pg_name (i := 3) nd rfl (Or.inl rfl)) (Evl.pss_cut (ps_set (i := 4) nd rfl (Or.inl rfl) (pe_cmpR op_eq (pe_call c__law_draw.ok hr__law_draw (by rfl) c__law_draw.g c__law_draw.kp c__law_draw.b .nil pass0 (pa_cons (pv 1) (pa_cons pe_int pa_nil))) pe_int (nomark _)))
      (Evl.pss_cut (ps_set (i := 5) nd rfl (Or.inl rfl) (pe_op op_cat (pe_call c__law_names.ok hr__law_names (by rfl) c__law_names.g c__law_names.kp c__law_names.b .nil pass0 (pa_cons (pv 1) (pa_cons pe_int pa_nil))) (pe_lst (pa_cons pe_str pa_nil))))
      (Evl.pss_cut (ps_set (i := 6) nd rfl (Or.inl rfl) (pe_slice (kSlL K) (pv 5) po_none (po_some (pe_op op_add pe_int (pe_call c__law_draw.ok hr__law_draw (by rfl) c__law_draw.g c__law_draw.kp c__law_draw.b .nil pass0 (pa_cons (pv 1) (pa_cons pe_int pa_nil)))))))
      (Evl.pss_cut (ps_if (pt_cmpR op_gt (pe_call c__law_draw.ok hr__law_draw (by rfl) c__law_draw.g c__law_draw.kp c__law_draw.b .nil pass0 (pa_cons (pv 1) (pa_cons pe_int pa_nil))) pe_int (nomark _)) (pss_one (ps_asg (pe_call c__law_pick.ok hr__law_pick (by rfl) c__law_pick.g c__law_pick.kp c__law_pick.b .nil pass0 (pa_cons (pv 1) (pa_cons (pe_op op_cat (pv 2) (pv 6)) pa_nil))) (pg_sub (pv 6) (pe_call c__law_draw.ok hr__law_draw (by rfl) c__law_draw.g c__law_draw.kp c__law_draw.b .nil pass0 (pa_cons (pv 1) (pa_cons (pe_callB (kLen K) (by rfl) B.len PySem.boot_len (pa_cons (pv 6) pa_nil)) pa_nil))) set_list))) pss_nil)
      (Evl.pss_cut (ps_set (i := 7) nd rfl (Or.inl rfl) (pe_call c__law_pick.ok hr__law_pick (by rfl) c__law_pick.g c__law_pick.kp c__law_pick.b .nil pass0 (pa_cons (pv 1) (pa_cons (pe_lst (pa_cons (pv 6) (pa_cons (kTupleOf K (by rfl) B.tuple (pv 6)) pa_nil))) pa_nil))))
      (Evl.pss_cut (ps_if (pt_cmpR op_eq (pe_call c__law_draw.ok hr__law_draw (by rfl) c__law_draw.g c__law_draw.kp c__law_draw.b .nil pass0 (pa_cons (pv 1) (pa_cons pe_int pa_nil))) pe_int (nomark _)) (pss_one (ps_set (i := 7) nd rfl (Or.inl rfl) (pe_call c__law_pick.ok hr__law_pick (by rfl) c__law_pick.g c__law_pick.kp c__law_pick.b .nil pass0 (pa_cons (pv 1) (pa_cons (pe_lst (pa_cons (pe_lst pa_nil) (pa_cons (pe_tup pa_nil) (pa_cons pe_non (pa_cons pe_int (pa_cons pe_str (pa_cons pe_dnewK (pa_cons (pe_disp (pps_cons pe_str pe_int pps_nil) (by rfl) (by rfl) (fun z => by cases z) (by decide)) (pa_cons pe_bl (pa_cons (pe_make T.make GF hrF (by rfl) T.g bF dF passL (pa_cons (pe_lst (pa_cons pe_str pa_nil)) pa_nil)) pa_nil)))))))))) pa_nil))))) pss_nil)
      (Evl.pss_cut (ps_set (i := 8) nd rfl (Or.inl rfl) (pe_call c__law_due.ok hr__law_due (by rfl) c__law_due.g c__law_due.kp c__law_due.b .nil pass0 (pa_cons (pv 7) (pa_cons (pv 4) pa_nil))))
      (Evl.pss_cut (ps_set (i := 9) nd rfl (Or.inl rfl) (pe_ifExp (pt_cmpR op_isN (pv 8) pe_non (nomark _)) (pe_tup (pa_cons pe_str (pa_cons (kTupleOf K (by rfl) B.tuple (pv 7)) pa_nil))) (pe_tup (pa_cons pe_str (pa_cons (pv 8) pa_nil)))))
      (pss_one (ps_if (pt_not (pt_val (pe_call c__law_same.ok hr__law_same (by rfl) c__law_same.g c__law_same.kp c__law_same.b .nil pass0 (pa_cons (pe_call c__law_tried.ok hr__law_tried (by rfl) c__law_tried.g c__law_tried.kp c__law_tried.b .nil pass0 (pa_cons (pv 7) (pa_cons (pv 4) pa_nil))) (pa_cons (pv 9) pa_nil))))) (pss_one (ps_ret pe_bl)) pss_nil)))))))))))
      (pss_one (ps_ret pe_bl))))), ?_⟩
    -- the stream
    refine ⟨_, rfl, a, ns, rfl, hS, fun st c H1 e1 nst nc S1 => ?_⟩
    -- the odd things
    refine ⟨fun σ H2 => ∃ od, σ = [some (.ref a), some (.ref st), some (.ref od), none, none, none, none, none, none, none] ∧ Ground K H2 st c od 0, ?_, ?_⟩
    · refine ⟨by show 1 ≤ sizeLine; rw [sizeLine_eq]; omega, fun p1 np1 => ⟨by show 1 ≤ sizeLine; rw [sizeLine_eq]; omega, fun p2 np2 => fun p3 np3 => ⟨by show 14 ≤ sizeLine; rw [sizeLine_eq]; omega, fun od nod => ?_⟩⟩⟩
      obtain ⟨a1, b1⟩ := S1.notfree np1
      have k1 := same_upd (o := HO.lst [.str (Str.ofString "a")]) np1
      have h1 : upd H1 p1 (.lst [.str (Str.ofString "a")]) p1 = some (.lst [.str (Str.ofString "a")]) := upd_same
      generalize upd H1 p1 (.lst [.str (Str.ofString "a")]) = G1 at k1 h1 np2 np3 nod ⊢
      have S2 := S1.same k1
      obtain ⟨a2, b2⟩ := S2.notfree np2
      have k2 := same_upd (o := HO.tup [.str (Str.ofString "a")]) np2
      have h2 : upd G1 p2 (.tup [.str (Str.ofString "a")]) p2 = some (.tup [.str (Str.ofString "a")]) := upd_same
      generalize upd G1 p2 (.tup [.str (Str.ofString "a")]) = G2 at k2 h2 np3 nod ⊢
      have S3 := S2.same k2
      obtain ⟨a3, b3⟩ := S3.notfree np3
      have k3 := same_upd (o := HO.dK []) np3
      have h3 : upd G2 p3 (.dK []) p3 = some (.dK []) := upd_same
      generalize upd G2 p3 (.dK []) = G3 at k3 h3 nod ⊢
      have S4 := S3.same k3
      obtain ⟨a4, b4⟩ := S4.notfree nod
      have k4 := same_upd (o := HO.lst [.non, .int 5, .str (Str.ofString ""), .str (Str.ofString "A"), .str (Str.ofString "abcdefghi"), .str (Str.ofString "a b"), .str (Str.ofString "a1"), .ref p1, .ref p2, .ref p3, .bl true, .str (Str.ofString "-"), .str (Str.ofString "aB"), .str (Str.ofString "ab\n")]) nod
      have sm : ∀ {z : String}, (Str.ofString z).length ≤ 100000 → ∀ {H : Hp}, Far K H st c (.str (Str.ofString z)) := fun h => Far.str h
      refine ⟨od, rfl, S4.same k4, a4, b4, _, upd_same, rfl, ?_⟩
      refine fcons ⟨itm_kit (k := "NoneType") (.base .non) (by decide +kernel) rfl, Off.flat rfl⟩ (fcons ⟨itm_kit (k := "int") (.base (.int 5)) (by decide +kernel) rfl, Off.flat rfl⟩ (fcons (sm (by decide +kernel)) (fcons (sm (by decide +kernel)) (fcons (sm (by decide +kernel)) (fcons (sm (by decide +kernel)) (fcons (sm (by decide +kernel))
        (fcons ⟨itm_kit (k := "list") (.base (.lst (k4 _ _ (k3 _ _ (k2 _ _ h1))))) (by decide +kernel) rfl, Off.ref a1 b1⟩ (fcons ⟨itm_kit (k := "tuple") (.base (.tup (k4 _ _ (k3 _ _ h2)))) (by decide +kernel) rfl, Off.ref a2 b2⟩ (fcons ⟨itm_kit (k := "dict") (.base (.dK (k4 _ _ h3))) (by decide +kernel) rfl, Off.ref a3 b3⟩
        (fcons ⟨itm_kit (k := "bool") (.base (.bl true)) (by decide +kernel) rfl, Off.flat rfl⟩ (fcons (sm (by decide +kernel)) (fcons (sm (by decide +kernel)) (fcons (sm (by decide +kernel)) (fun y m => nomatch m))))))))))))))
    rintro σ2 H2 ⟨od, rfl, Gr⟩
    -- the turns
    refine ⟨8, rfl, by decide, by decide, ?_⟩
    refine for_it walk_range (fun i σ H1 => ∃ v3 v4 v5 v6 v7 v8 v9, σ = [some (.ref a), some (.ref st), some (.ref od), v3, v4, v5, v6, v7, v8, v9] ∧ Ground K H1 st c od (300 * i)) ?_ (fun _ _ _ _ _ => trivial) ?_ ?_
    · exact ⟨none, none, none, none, none, none, none, rfl, Gr⟩
    · rintro i x σ H0 H1 hi ⟨v3, v4, v5, v6, v7, v8, v9, rfl, G⟩ ⟨rfl, rfl⟩
      have hi : i < 8 := by simpa using hi
      have S := G.S
      -- is_chain
      refine ⟨fun σ H2 => ∃ ch : Bool, σ = [some (.ref a), some (.ref st), some (.ref od), some (.int (0 + (i : Int))), some (.bl ch), v5, v6, v7, v8, v9] ∧ Strm H2 st c (300 * i + 1) ∧ Kept st c H1 H2, ?_, ?_⟩
      · exact ⟨_, rfl, st, c, 300 * i, 2, rfl, S, by omega, by decide, by decide, fun d H2 _ _ S2 k2 => ⟨rfl, _, rfl, S2, k2⟩⟩
      rintro σ H2 ⟨ch, rfl, S2, k2⟩
      -- the names
      refine ⟨fun σ H3 => ∃ (p : Addr) (ys : List V), σ = [some (.ref a), some (.ref st), some (.ref od), some (.int (0 + (i : Int))), some (.bl ch), some (.ref p), v6, v7, v8, v9] ∧ H3 p = some (.lst ys) ∧ p ≠ st ∧ p ≠ c ∧ ys.length = 14 ∧ (∀ (H : Hp), ∀ y ∈ ys, Far K H st c y) ∧ Strm H3 st c (300 * i + 201) ∧ Kept st c H1 H3, ?_, ?_⟩
      · refine ⟨_, rfl, st, c, 300 * i + 1, 13, rfl, S2, by omega, by decide, fun l zs H3 nl hl _ hz S3 k3 hL => ?_⟩
        refine ⟨by show 1 ≤ sizeLine; rw [sizeLine_eq]; omega, fun p1 np1 => ?_⟩
        have e1 := same_upd (o := HO.lst [.str (Str.ofString "zz")]) np1
        refine ⟨l, p1, _, _, rfl, rfl, e1 _ _ hL, upd_same, ?_, fun p np => ?_⟩
        · rw [List.length_map, hl]
          show 13 + 1 ≤ sizeLine
          rw [sizeLine_eq]
          omega
        · have e2 := same_upd (o := HO.lst (zs.map V.str ++ [.str (Str.ofString "zz")])) np
          obtain ⟨pn1, pn2⟩ := (S3.same e1).notfree np
          refine ⟨p, _, rfl, upd_same, pn1, pn2, ?_, fun H y m => ?_, (S3.same e1).same e2, ((k2.trans k3).trans (Same.kept e1)).trans (Same.kept e2)⟩
          · rw [List.length_append, List.length_map, hl]
            rfl
          · rcases List.mem_append.mp m with m | m
            · obtain ⟨z, mz, rfl⟩ := List.mem_map.mp m
              have hz := hz z mz
              unfold isNameS at hz
              simp only [Bool.and_eq_true, decide_eq_true_eq] at hz
              exact Far.str (by omega)
            · rw [List.mem_singleton.mp m]
              exact Far.str (by decide +kernel)
      rintro σ H3 ⟨p, ns0, rfl, hp, pn1, pn2, hl0, far0, S3, k3⟩
      -- some of them
      refine ⟨fun σ H4 => ∃ (tl : Addr) (ys : List V), σ = [some (.ref a), some (.ref st), some (.ref od), some (.int (0 + (i : Int))), some (.bl ch), some (.ref p), some (.ref tl), v7, v8, v9] ∧ H4 tl = some (.lst ys) ∧ tl ≠ st ∧ tl ≠ c ∧ tl ≠ od ∧ H1 tl = none ∧ 0 < ys.length ∧ ys.length ≤ 14 ∧ (∀ (H : Hp), ∀ y ∈ ys, Far K H st c y) ∧ Strm H4 st c (300 * i + 202) ∧ Kept st c H1 H4, ?_, ?_⟩
      · refine ⟨_, rfl, ?_⟩
        refine ⟨_, rfl, st, c, 300 * i + 201, 14, rfl, S3, by omega, by decide, by decide, fun d H4 d0 d14 S4 k4 => ?_⟩
        obtain ⟨m, rfl⟩ : ∃ m : Nat, d = (m : Int) := ⟨d.toNat, by omega⟩
        refine ⟨1, (m : Int), rfl, rfl, _, rfl, p, ns0, rfl, SqL.of (k4 _ _ pn1 pn2 hp), fun tl ntl => ?_⟩
        obtain ⟨t1, t2⟩ := S4.notfree ntl
        have e5 := same_upd (o := HO.lst (cutV ns0 none (some (1 + (m : Int))))) ntl
        have ec : cutV ns0 none (some (1 + (m : Int))) = ns0.take (1 + m) := by
          have := cut_to ns0 (1 + m) (by omega)
          rw [← this]
          congr 2
        obtain ⟨xs0, ho, _, _⟩ := G.odd
        have k14 := k3.trans k4
        refine ⟨tl, _, rfl, upd_same, t1, t2, (ne_of_none (k14 _ _ G.n1 G.n2 ho) ntl).symm, k14.free ntl t1 t2, ?_, ?_, ?_, S4.same e5, k14.trans (Same.kept e5)⟩
        · rw [ec, List.length_take]
          omega
        · rw [ec, List.length_take]
          omega
        · rw [ec]
          exact fun H y m => far0 H y (List.mem_of_mem_take m)
      rintro σ H4 ⟨tl, ys0, rfl, htl, tn1, tn2, tn3, ntl, lo0, hi0, far1, S4, k4⟩
      -- one of them odd
      refine ⟨fun σ H5 => ∃ (ys : List V), σ = [some (.ref a), some (.ref st), some (.ref od), some (.int (0 + (i : Int))), some (.bl ch), some (.ref p), some (.ref tl), v7, v8, v9] ∧ H5 tl = some (.lst ys) ∧ ys.length ≤ 14 ∧ (∀ y ∈ ys, Far K H5 st c y) ∧ Strm H5 st c (300 * i + 205) ∧ Kept st c H1 H5, ?_, ?_⟩
      · refine ⟨_, rfl, st, c, 300 * i + 202, 3, rfl, S4, by omega, by decide, by decide, fun d H5 d0 d3 S5 k5 => ?_⟩
        have htl5 := k5 _ _ tn1 tn2 htl
        have k15 := k4.trans k5
        refine ⟨_, _, rfl, rfl, _, rfl, ?_⟩
        refine ite2 (fun _ => ?_) (fun _ => ?_)
        · obtain ⟨xs0, ho1, lx, fx⟩ := G.odd
          have ho := k15 _ _ G.n1 G.n2 ho1
          refine ⟨_, rfl, _, rfl, _, rfl, od, tl, xs0, ys0, rfl, rfl, ho, htl5, ?_, fun q nq => ?_⟩
          · rw [lx, sizeLine_eq]
            omega
          have eq := same_upd (o := HO.lst (xs0 ++ ys0)) nq
          obtain ⟨q1, q2⟩ := S5.notfree nq
          refine ⟨st, c, 300 * i + 203, _, .ref q, _, rfl, S5.same eq, by omega, ?_, ?_, pk_lst (SqL.of upd_same) q1 q2, fun j H6 hj S6 k6 => ?_⟩
          · rw [List.length_append]
            omega
          · rw [List.length_append]
            omega
          have k16 := (k15.trans (Same.kept eq)).trans k6
          have htl6 := k6 _ _ tn1 tn2 (eq _ _ htl5)
          refine ⟨_, rfl, _, rfl, _, rfl, .ref tl, ys0.length, rfl, .inl ⟨ys0, SqL.of htl6, rfl⟩, ?_⟩
          refine ⟨st, c, 300 * i + 204, (ys0.length : Int), rfl, S6, by omega, by omega, by omega, fun d H7 e0 e1 S7 k7 => ?_⟩
          obtain ⟨m, rfl⟩ : ∃ m : Nat, d = (m : Int) := ⟨d.toNat, by omega⟩
          have hm : m < ys0.length := by omega
          have htl7 := k7 _ _ tn1 tn2 htl6
          have ix : ixN ys0.length (m : Int) = some m := by
            unfold ixN
            rw [if_pos (by omega), if_pos (by omega)]
            rfl
          have k18 : ∀ o, Kept st c H1 (upd H7 tl o) := fun o => Kept.grow (k16.trans k7) ntl
          refine ⟨tl, ys0, _, m, rfl, rfl, htl7, ix, ys0.set m ((xs0 ++ ys0).getD j .non), rfl, upd_same, ?_, fun y my => ?_, S7.upd tn1 tn2, k18 _⟩
          · rw [List.length_set]
            exact hi0
          · rcases List.mem_or_eq_of_mem_set my with my | rfl
            · exact far1 _ y my
            · rcases List.mem_append.mp (getD_mem hj) with mj | mj
              · exact (fx _ mj).kept (k18 _)
              · exact far1 _ _ mj
        · exact ⟨ys0, rfl, htl5, hi0, fun y m => far1 _ y m, S5.more (by omega), k15⟩
      rintro σ H5 ⟨ys, rfl, htl, hi1, far2, S5, k5⟩
      -- handed as a list or as a tuple
      refine ⟨fun σ H6 => ∃ hd, σ = [some (.ref a), some (.ref st), some (.ref od), some (.int (0 + (i : Int))), some (.bl ch), some (.ref p), some (.ref tl), some hd, v8, v9] ∧ ThF K H6 st c hd (some ys) ∧ Strm H6 st c (300 * i + 206) ∧ Kept st c H1 H6, ?_, ?_⟩
      · refine ⟨_, rfl, _, rfl, _, rfl, .inl ⟨tl, ys, rfl, SqL.of htl, fun t nt => ?_⟩⟩
        obtain ⟨t1, t2⟩ := S5.notfree nt
        have e6 := same_upd (o := HO.tup ys) nt
        have ht : upd H5 t (.tup ys) t = some (.tup ys) := upd_same
        generalize upd H5 t (.tup ys) = G5 at e6 ht ⊢
        refine ⟨by show 2 ≤ sizeLine; rw [sizeLine_eq]; omega, fun q nq => ?_⟩
        have S6 := S5.same e6
        obtain ⟨q1, q2⟩ := S6.notfree nq
        have e7 := same_upd (o := HO.lst [V.ref tl, .ref t]) nq
        refine ⟨st, c, 300 * i + 205, _, .ref q, _, rfl, S6.same e7, by omega, by show 0 < 2; decide, by show 2 < 1000000; decide, pk_lst (SqL.of upd_same) q1 q2, fun j H6 hj S7 k7 => ?_⟩
        have k17 : Kept st c H5 H6 := (Same.kept (Same.trans e6 e7)).trans k7
        have T1 : ThF K H6 st c (.ref tl) (some ys) := thf_lst (k17 _ _ tn1 tn2 htl) tn1 tn2 (by omega) fun y my => (far2 y my).kept k17
        have T2 : ThF K H6 st c (.ref t) (some ys) := thf_tup (k7 _ _ t1 t2 (e7 _ _ ht)) t1 t2 (by omega) fun y my => (far2 y my).kept k17
        refine ⟨_, rfl, ?_, S7, k5.trans k17⟩
        match j, hj with
        | 0, _ => exact T1
        | 1, _ => exact T2
      rintro σ H6 ⟨hd0, rfl, Th0, S6, k6⟩
      -- or something that is no list of names
      refine ⟨fun σ H7 => ∃ hd o, σ = [some (.ref a), some (.ref st), some (.ref od), some (.int (0 + (i : Int))), some (.bl ch), some (.ref p), some (.ref tl), some hd, v8, v9] ∧ ThF K H7 st c hd o ∧ Strm H7 st c (300 * i + 208) ∧ Kept st c H1 H7, ?_, ?_⟩
      · refine ⟨_, rfl, st, c, 300 * i + 206, 8, rfl, S6, by omega, by decide, by decide, fun d H7 d0 d8 S7 k7 => ?_⟩
        refine ⟨rfl, _, rfl, ?_⟩
        have k17 := k6.trans k7
        refine ite2 (fun _ => ?_) (fun _ => ?_)
        · refine ⟨_, rfl, by show 0 ≤ sizeLine; exact Nat.zero_le _, fun p1 np1 => ⟨by show 0 ≤ sizeLine; exact Nat.zero_le _, fun p2 np2 => fun p3 np3 => fun p4 np4 => ⟨upd_same, [(Sum.inr (Str.ofString "a"), .int 1)], rfl, by decide, ?_⟩⟩⟩
          obtain ⟨a1, b1⟩ := S7.notfree np1
          have g1 := same_upd (o := HO.lst []) np1
          have h1 : upd H7 p1 (.lst []) p1 = some (.lst []) := upd_same
          generalize upd H7 p1 (.lst []) = G1 at g1 h1 np2 np3 np4 ⊢
          have R1 := S7.same g1
          obtain ⟨a2, b2⟩ := R1.notfree np2
          have g2 := same_upd (o := HO.tup []) np2
          have h2 : upd G1 p2 (.tup []) p2 = some (.tup []) := upd_same
          generalize upd G1 p2 (.tup []) = G2 at g2 h2 np3 np4 ⊢
          have R2 := R1.same g2
          obtain ⟨a3, b3⟩ := R2.notfree np3
          have g3 := same_upd (o := HO.dK []) np3
          have h3 : upd G2 p3 (.dK []) p3 = some (.dK []) := upd_same
          generalize upd G2 p3 (.dK []) = G3 at g3 h3 np4 ⊢
          have R3 := R2.same g3
          obtain ⟨a4, b4⟩ := R3.notfree np4
          have g4 := Same.grow (o := HO.dK (mergeK [] [(Sum.inr (Str.ofString "a"), .int 1)])) (same_upd (o := HO.dK []) np4) np4
          have h4 : upd (upd G3 p4 (.dK [])) p4 (.dK (mergeK [] [(Sum.inr (Str.ofString "a"), .int 1)])) p4 = some (.dK (mergeK [] [(Sum.inr (Str.ofString "a"), .int 1)])) := upd_same
          generalize upd (upd G3 p4 (.dK [])) p4 (.dK (mergeK [] [(Sum.inr (Str.ofString "a"), .int 1)])) = G4 at g4 h4 ⊢
          have R4 := R3.same g4
          refine ⟨by show 1 ≤ sizeLine; rw [sizeLine_eq]; omega, fun p5 np5 => fun xF dxF nx ndx hne => ?_⟩
          obtain ⟨a5, b5⟩ := R4.notfree np5
          have g5 := same_upd (o := HO.lst [.str (Str.ofString "a")]) np5
          have h5 : upd G4 p5 (.lst [.str (Str.ofString "a")]) p5 = some (.lst [.str (Str.ofString "a")]) := upd_same
          generalize upd G4 p5 (.lst [.str (Str.ofString "a")]) = G5 at g5 h5 nx ndx ⊢
          have R5 := R4.same g5
          obtain ⟨a6, b6⟩ := R5.notfree nx
          have g6 := Same.grow (o := HO.ins C dxF []) (same_upd (o := HO.own xF) ndx) nx
          have hw0 : wrongOf (some [V.str (Str.ofString "a")]) (mostFor false) = none := by decide +kernel
          have T5 : ThF K G5 st c (.ref p5) (some [.str (Str.ofString "a")]) := thf_lst h5 a5 b5 (by decide) (fcons (Far.str (by decide +kernel)) (fun y m => nomatch m))
          refine ⟨xF, dxF, .ref p5, some [.str (Str.ofString "a")], false, rfl, upd_same, T5.1.same g6, fun j d H' hw => ?_, fun zs H8 _ _ _ FA but => ⟨rfl, ?_⟩⟩
          · rw [hw0] at hw
            cases hw
          obtain ⟨dx', t, pd, hx8, _, _⟩ := FA
          have g7 : Same G5 H8 := fun b u e => but b u (ne_of_none e nx) (g6 _ _ e)
          have R8 := R5.same g7
          refine ⟨by show 9 ≤ sizeLine; rw [sizeLine_eq]; omega, fun q nq => ?_⟩
          obtain ⟨q1, q2⟩ := R8.notfree nq
          have g8 := same_upd (o := HO.lst [.ref p1, .ref p2, .non, .int 5, .str (Str.ofString "abc"), .ref p3, .ref p4, .bl true, .ref xF]) nq
          have all : ∀ y ∈ [V.ref p1, .ref p2, .non, .int 5, .str (Str.ofString "abc"), .ref p3, .ref p4, .bl true, .ref xF], ∃ o, ThF K (upd H8 q (.lst [.ref p1, .ref p2, .non, .int 5, .str (Str.ofString "abc"), .ref p3, .ref p4, .bl true, .ref xF])) st c y o := by
            have m4 := g8 _ _ (g7 _ _ (g5 _ _ h4))
            have m3 := g8 _ _ (g7 _ _ (g5 _ _ (g4 _ _ h3)))
            have m2 := g8 _ _ (g7 _ _ (g5 _ _ (g4 _ _ (g3 _ _ h2))))
            have m1 := g8 _ _ (g7 _ _ (g5 _ _ (g4 _ _ (g3 _ _ (g2 _ _ h1)))))
            have m8 := g8 _ _ hx8
            exact fcons ⟨_, thf_lst m1 a1 b1 (by decide) (fun y m => nomatch m)⟩ (fcons ⟨_, thf_tup m2 a2 b2 (by decide) (fun y m => nomatch m)⟩ (fcons ⟨_, thf_no (k := "NoneType") (.base .non) (by decide +kernel) (by decide +kernel) (Off.flat rfl)⟩
              (fcons ⟨_, thf_no (k := "int") (.base (.int 5)) (by decide +kernel) (by decide +kernel) (Off.flat rfl)⟩ (fcons ⟨_, thf_no (k := "str") (.base (.str _)) (by decide +kernel) (by decide +kernel) (Off.flat rfl)⟩
              (fcons ⟨_, thf_no (k := "dict") (.base (.dK m3)) (by decide +kernel) (by decide +kernel) (Off.ref a3 b3)⟩ (fcons ⟨_, thf_no (k := "dict") (.base (.dK m4)) (by decide +kernel) (by decide +kernel) (Off.ref a4 b4)⟩
              (fcons ⟨_, thf_no (k := "bool") (.base (.bl true)) (by decide +kernel) (by decide +kernel) (Off.flat rfl)⟩ (fcons ⟨none, .no ⟨_, tF _ _ _ _ m8, kF⟩, Off.ref a6 b6, fun _ e => by cases e⟩ (fun y m => nomatch m)))))))))
          refine ⟨st, c, 300 * i + 207, _, .ref q, _, rfl, R8.same g8, by omega, by show 0 < 9; decide, by show 9 < 1000000; decide, pk_lst (SqL.of upd_same) q1 q2, fun j H9 hj S9 k9 => ?_⟩
          obtain ⟨o, To⟩ := all _ (getD_mem hj)
          have gall : Same H7 (upd H8 q (.lst [.ref p1, .ref p2, .non, .int 5, .str (Str.ofString "abc"), .ref p3, .ref p4, .bl true, .ref xF])) := Same.trans g1 (Same.trans g2 (Same.trans g3 (Same.trans g4 (Same.trans g5 (Same.trans g7 g8)))))
          exact ⟨_, o, rfl, To.kept k9, S9, (k17.trans (Same.kept gall)).trans k9⟩
        · exact ⟨_, _, rfl, Th0.kept k7, S7.more (by omega), k17⟩
      rintro σ H7 ⟨hd, o, rfl, ⟨Th, _, _⟩, S7, k7⟩
      -- what is due
      refine ⟨fun σ H8 => σ = [some (.ref a), some (.ref st), some (.ref od), some (.int (0 + (i : Int))), some (.bl ch), some (.ref p), some (.ref tl), some hd, some (optV (wrongOf o (mostFor ch))), v9] ∧ Same H7 H8, ?_, ?_⟩
      · exact ⟨_, rfl, _, rfl, hd, o, ch, rfl, Th, fun H8 e8 => ⟨rfl, e8⟩⟩
      rintro σ H8 ⟨rfl, e8⟩
      -- what is wished
      refine ⟨fun σ H9 => ∃ wv d, σ = [some (.ref a), some (.ref st), some (.ref od), some (.int (0 + (i : Int))), some (.bl ch), some (.ref p), some (.ref tl), some hd, some (optV (wrongOf o (mostFor ch))), some wv] ∧ Same H7 H9 ∧ Dp K H9 wv d ∧
        ((∃ j, wrongOf o (mostFor ch) = some j ∧ d = dBad j) ∨ ∃ zs, wrongOf o (mostFor ch) = none ∧ o = some (zs.map V.str) ∧ zs.length ≤ 100 ∧ d = dMade zs), ?_, ?_⟩
      · cases hw : wrongOf o (mostFor ch) with
        | some j =>
          refine ⟨_, rfl, rfl, _, rfl, ?_⟩
          refine iteF ?_
          refine ⟨_, rfl, by show 2 ≤ sizeLine; rw [sizeLine_eq]; omega, fun r nr => ?_⟩
          exact ⟨_, _, rfl, Same.grow e8 (e8.free nr), dp_bad upd_same, .inl ⟨j, rfl, rfl⟩⟩
        | none =>
          obtain ⟨zs, rfl, zne, znames, zlen, znd⟩ := right_names hw
          have zl : zs.length ≤ 100 := by
            cases ch with
            | true => exact Nat.le_trans zlen (by decide)
            | false => exact Nat.le_trans zlen (by decide)
          obtain ⟨b, rfl, hS7⟩ : ∃ b, hd = .ref b ∧ (SqL K H7 b (zs.map V.str) ∨ H7 b = some (.tup (zs.map V.str))) := by
            cases Th with
            | seq hS b hi hl => exact ⟨_, rfl, hS⟩
          refine ⟨_, rfl, rfl, _, rfl, ?_⟩
          refine iteT ?_
          rcases hS7 with hL | hT
          · refine ⟨_, rfl, .inl ⟨b, _, rfl, Same.seq e8 hL, fun t nt => ?_⟩⟩
            have e9 := same_upd (o := HO.tup (zs.map V.str)) nt
            have ht : upd H8 t (.tup (zs.map V.str)) t = some (.tup (zs.map V.str)) := upd_same
            generalize upd H8 t (.tup (zs.map V.str)) = G8 at e9 ht ⊢
            refine ⟨by show 2 ≤ sizeLine; rw [sizeLine_eq]; omega, fun r nr => ?_⟩
            have er := same_upd (o := HO.tup [V.str (Str.ofString "made"), .ref t]) nr
            exact ⟨_, _, rfl, Same.trans e8 (Same.trans e9 er), dp_made upd_same (SqT.of (er _ _ ht)), .inr ⟨zs, rfl, rfl, zl, rfl⟩⟩
          · refine ⟨_, rfl, .inr ⟨b, _, rfl, SqT.of (e8 _ _ hT), ?_⟩⟩
            refine ⟨by show 2 ≤ sizeLine; rw [sizeLine_eq]; omega, fun r nr => ?_⟩
            have er := same_upd (o := HO.tup [V.str (Str.ofString "made"), .ref b]) nr
            exact ⟨_, _, rfl, Same.trans e8 er, dp_made upd_same (SqT.of (er _ _ (e8 _ _ hT))), .inr ⟨zs, rfl, rfl, zl, rfl⟩⟩
      rintro σ H9 ⟨wv, d, rfl, e9, dw, hd9⟩
      have done : ∀ Ha Hb, Same H9 Ha → Same Ha Hb → ∃ v3 v4 v5 v6 v7 v8 v9, [some (.ref a), some (.ref st), some (.ref od), some (.int (0 + (i : Int))), some (.bl ch), some (.ref p), some (.ref tl), some hd, some (optV (wrongOf o (mostFor ch))), some wv] = [some (V.ref a), some (.ref st), some (.ref od), v3, v4, v5, v6, v7, v8, v9] ∧ Ground K Hb st c od (300 * (i + 1)) := fun Ha Hb ea eb => by
        have e := Same.trans e9 (Same.trans ea eb)
        exact ⟨_, _, _, _, _, _, _, rfl, G.kept ((S7.same e).more (by omega)) (k7.trans (Same.kept e))⟩
      refine ⟨_, rfl, _, rfl, hd, o, ch, rfl, Th.same e9, fun j r Ha hw nr ea hr' => ?_, fun zs r t Ha hw ho _ nr ea hr' ht => ?_⟩
      · obtain rfl : d = dBad j := by
          rcases hd9 with ⟨j', hw', rfl⟩ | ⟨zs, hw', _⟩
          · rw [hw] at hw'
            cases hw'
            rfl
          · rw [hw] at hw'
            cases hw'
        refine ⟨_, rfl, .ref r, wv, dBad j, rfl, dp_bad hr', Dp.sm ea _ _ dw, bad_depth _, bad_wide _, fun Hb eb => ⟨true, rfl, ?_⟩⟩
        refine iteF ?_
        exact done Ha Hb ea eb
      · obtain ⟨rfl, zl⟩ : d = dMade zs ∧ zs.length ≤ 100 := by
          rcases hd9 with ⟨j', hw', _⟩ | ⟨zs', hw', ho', zl, rfl⟩
          · rw [hw] at hw'
            cases hw'
          · rw [ho] at ho'
            have e : zs.map V.str = zs'.map V.str := Option.some.inj ho'
            have e2 : zs = zs' := str_inj e
            subst e2
            exact ⟨rfl, zl⟩
        refine ⟨_, rfl, .ref r, wv, dMade zs, rfl, dp_made hr' (SqT.of ht), Dp.sm ea _ _ dw, made_depth _, made_wide zl, fun Hb eb => ⟨true, rfl, ?_⟩⟩
        refine iteF ?_
        exact done Ha Hb ea eb
    · rintro σ H1 ⟨v3, v4, v5, v6, v7, v8, v9, rfl, G⟩
      exact q _
end
end Bk

set_option maxHeartbeats 0
namespace Bk
open PySem PySem.Spec PyProof.Rows L2
def gd (x : Str) (st : Stmt) : He.DefD := ⟨(x, none), x, x, defArgs st, defBody st, defScope st, [], []⟩
def md (c m q : Str) (st : Stmt) (kws : List (Str × He.Dv)) : He.DefD := ⟨(c, some m), m, q, defArgs st, defBody st, defScope st, [], kws⟩
def fnL : List He.DefD := [gd "is_list" (topS 6), gd "is_name" (topS 7), gd "first_wrong" (topS 12), gd "choices" (topS 13), gd "choices_of" (topS 14), gd "rows_of_neighbours" (topS 15), gd "_law_start" (topS 17), gd "_law_draw" (topS 18), gd "_law_pick" (topS 19), gd "_law_same" (topS 20), gd "_law_name" (topS 21), gd "_law_names" (topS 22), gd "_law_due" (topS 23), gd "_law_tried" (topS 24), gd "law" (topS 25), md "BadFolders" "__init__" "BadFolders.__init__" (inClass (topS 2) 0) [], md "Folders" "__init__" "Folders.__init__" (inClass (topS 11) 0) [("chain", .bl false)], md "Folders" "__len__" "Folders.__len__" (inClass (topS 11) 1) [], md "Folders" "__contains__" "Folders.__contains__" (inClass (topS 11) 2) [], md "Folders" "__eq__" "Folders.__eq__" (inClass (topS 11) 3) [], md "Folders" "lots" "Folders.lots" (inClass (topS 11) 4) []]
def faL : List He.Fa := [.glo "is_list", .glo "is_name", .glo "first_wrong", .glo "choices", .glo "choices_of", .glo "rows_of_neighbours", .glo "_law_start", .glo "_law_draw", .glo "_law_pick", .glo "_law_same", .glo "_law_name", .glo "_law_names", .glo "_law_due", .glo "_law_tried", .glo "law", .glo "BadFolders", .glo "Folders", .str "LETTERS" "abcdefghijklmnopqrstuvwxyz", .int "LONGEST_NAME" 8, .int "MOST_FOLDERS" 5, .int "MOST_IN_CHAIN" 12, .meth "BadFolders" "__init__", .noat "BadFolders" "index", .exm "BadFolders" "BadFolders" true, .cls "Folders", .noat "Folders" "names", .noat "Folders" "chain", .noat "Folders" "places", .mkr "Folders", .meth "Folders" "__len__", .meth "Folders" "__contains__", .meth "Folders" "__eq__", .meth "Folders" "lots", .free "len", .free "list", .free "tuple", .free "isinstance", .free "all", .free "any", .free "zip", .free "enumerate", .free "range", .free "int", .free "str", .free "bool", .free "dict", .free "abs"]

def exL (K : PySem.W.Frag) : Bool := errB K (He.ga K "BadFolders") (He.ma K (He.ga K "BadFolders") "__init__") && (insB K (He.ga K "Folders") && (decide (PySem.W.kitAny K (.ref (He.ga K "Folders")) [.type "list", .type "tuple"] = some false)))
abbrev RowL : PySem.W.OpenRow := PySem.W.OpenLaw.row PySem.Challenge.rw_blockshares_k02_folders_refused
abbrev hkL : PySem.W.Hook := He.hookX 4 faL fnL [] [] exL
def obL (s : PySem.W.SharedT) : He.AlX := He.obsX 4 faL fnL [] [] exL (HandSHeadRun.getT s)
theorem obL_eq (s : PySem.W.SharedT) : obL s = hkL.obs s.abs := He.obsX_eq (HandSHeadRun.getT_eq s)
theorem runL (w : World) : HandSHeadRun.RunEq RowL (PySem.W.view RowL.prog [25]) hkL obL 3000 ["__name__", "ShareError", "BadFolders", "LETTERS", "LONGEST_NAME", "is_list", "is_name", "MOST_FOLDERS", "MOST_IN_CHAIN", "Folders", "first_wrong", "choices", "choices_of", "rows_of_neighbours", "_law_start", "_law_draw", "_law_pick", "_law_same", "_law_name", "_law_names", "_law_due", "_law_tried"] w := by
  intro os
  kernel_rfl
end Bk

namespace Bk
open PySem PySem.Spec PyProof.Rows L2
theorem factsL {P : Program} {w w' : World} {K : PySem.W.Frag} {h h' : Heap} {mg : Str → Option Value} {f : Addr} (X : K.In h) (G : h.Ns mainGlobals mg) (hfa : mg ("law" : Str) = some (.ref f)) (cx : He.SaysX faL fnL [] [] exL w' h' K) :
    ∃ fd : FuncData, (∀ (s : Shared) (v : Value), BindsTo s fd ⟨[v], []⟩ [("_law_script", v)]) ∧ ∀ base : Heap, K.In base → base.Ns mainGlobals mg → FnOk P w K mg base CX0 6 f fd ["_law_script"] (spLaw K) := by
  have c := He.SaysT.d cx.t
  have mm := cx.more
  unfold exL at mm
  obtain ⟨xe_BadFolders, mm⟩ := Bool.and_eq_true_iff.mp mm
  obtain ⟨xi_Folders, mm⟩ := Bool.and_eq_true_iff.mp mm
  have x_tl := mm
  have glo : ∀ (i : Nat) (x : Str), faL[i]? = some (.glo x) → mg x = some (.ref (He.ga K x)) := fun i x e => He.glo_ok X G (c.fact i e)
  have fr : ∀ (i : Nat) (x : Str), faL[i]? = some (.free x) → mg x = none := fun i x e => He.free_ok X G (c.fact i e)
  have B : Bi mg := ⟨fr 33 _ rfl, fr 34 _ rfl, fr 35 _ rfl, fr 36 _ rfl, fr 37 _ rfl, fr 38 _ rfl, fr 39 _ rfl, fr 40 _ rfl, fr 41 _ rfl, fr 42 _ rfl, fr 43 _ rfl, fr 44 _ rfl, fr 45 _ rfl, fr 46 _ rfl⟩
  obtain ⟨fd_is_list, D_is_list⟩ := c.def_ 0 (d := gd "is_list" (topS 6)) rfl
  have E_is_list : Fun K "is_list" "is_list" (topS 6) _ fd_is_list := fun_of D_is_list
  obtain ⟨fd_is_name, D_is_name⟩ := c.def_ 1 (d := gd "is_name" (topS 7)) rfl
  have E_is_name : Fun K "is_name" "is_name" (topS 7) _ fd_is_name := fun_of D_is_name
  obtain ⟨fd_first_wrong, D_first_wrong⟩ := c.def_ 2 (d := gd "first_wrong" (topS 12)) rfl
  have E_first_wrong : Fun K "first_wrong" "first_wrong" (topS 12) _ fd_first_wrong := fun_of D_first_wrong
  obtain ⟨fd_choices, D_choices⟩ := c.def_ 3 (d := gd "choices" (topS 13)) rfl
  have E_choices : Fun K "choices" "choices" (topS 13) _ fd_choices := fun_of D_choices
  obtain ⟨fd_choices_of, D_choices_of⟩ := c.def_ 4 (d := gd "choices_of" (topS 14)) rfl
  have E_choices_of : Fun K "choices_of" "choices_of" (topS 14) _ fd_choices_of := fun_of D_choices_of
  obtain ⟨fd_rows_of_neighbours, D_rows_of_neighbours⟩ := c.def_ 5 (d := gd "rows_of_neighbours" (topS 15)) rfl
  have E_rows_of_neighbours : Fun K "rows_of_neighbours" "rows_of_neighbours" (topS 15) _ fd_rows_of_neighbours := fun_of D_rows_of_neighbours
  obtain ⟨fd__law_start, D__law_start⟩ := c.def_ 6 (d := gd "_law_start" (topS 17)) rfl
  have E__law_start : Fun K "_law_start" "_law_start" (topS 17) _ fd__law_start := fun_of D__law_start
  obtain ⟨fd__law_draw, D__law_draw⟩ := c.def_ 7 (d := gd "_law_draw" (topS 18)) rfl
  have E__law_draw : Fun K "_law_draw" "_law_draw" (topS 18) _ fd__law_draw := fun_of D__law_draw
  obtain ⟨fd__law_pick, D__law_pick⟩ := c.def_ 8 (d := gd "_law_pick" (topS 19)) rfl
  have E__law_pick : Fun K "_law_pick" "_law_pick" (topS 19) _ fd__law_pick := fun_of D__law_pick
  obtain ⟨fd__law_same, D__law_same⟩ := c.def_ 9 (d := gd "_law_same" (topS 20)) rfl
  have E__law_same : Fun K "_law_same" "_law_same" (topS 20) _ fd__law_same := fun_of D__law_same
  obtain ⟨fd__law_name, D__law_name⟩ := c.def_ 10 (d := gd "_law_name" (topS 21)) rfl
  have E__law_name : Fun K "_law_name" "_law_name" (topS 21) _ fd__law_name := fun_of D__law_name
  obtain ⟨fd__law_names, D__law_names⟩ := c.def_ 11 (d := gd "_law_names" (topS 22)) rfl
  have E__law_names : Fun K "_law_names" "_law_names" (topS 22) _ fd__law_names := fun_of D__law_names
  obtain ⟨fd__law_due, D__law_due⟩ := c.def_ 12 (d := gd "_law_due" (topS 23)) rfl
  have E__law_due : Fun K "_law_due" "_law_due" (topS 23) _ fd__law_due := fun_of D__law_due
  obtain ⟨fd__law_tried, D__law_tried⟩ := c.def_ 13 (d := gd "_law_tried" (topS 24)) rfl
  have E__law_tried : Fun K "_law_tried" "_law_tried" (topS 24) _ fd__law_tried := fun_of D__law_tried
  obtain ⟨fd_law, D_law⟩ := c.def_ 14 (d := gd "law" (topS 25)) rfl
  have E_law : Fun K "law" "law" (topS 25) _ fd_law := fun_of D_law
  obtain ⟨fd_BadFolders_init, D_BadFolders_init⟩ := c.def_ 15 (d := md "BadFolders" "__init__" "BadFolders.__init__" (inClass (topS 2) 0) []) rfl
  have E_BadFolders_init : Fun K "__init__" "BadFolders.__init__" (inClass (topS 2) 0) _ fd_BadFolders_init := fun_of D_BadFolders_init
  obtain ⟨fd_Folders_init, D_Folders_init⟩ := c.def_ 16 (d := md "Folders" "__init__" "Folders.__init__" (inClass (topS 11) 0) [("chain", .bl false)]) rfl
  have F_Folders_init : FunD K "__init__" "Folders.__init__" (defArgs (inClass (topS 11) 0)) (defBody (inClass (topS 11) 0)) (defScope (inClass (topS 11) 0)) [] [("chain", .bl false)] _ fd_Folders_init := D_Folders_init
  obtain ⟨fd_Folders_len, D_Folders_len⟩ := c.def_ 17 (d := md "Folders" "__len__" "Folders.__len__" (inClass (topS 11) 1) []) rfl
  have E_Folders_len : Fun K "__len__" "Folders.__len__" (inClass (topS 11) 1) _ fd_Folders_len := fun_of D_Folders_len
  obtain ⟨fd_Folders_contains, D_Folders_contains⟩ := c.def_ 18 (d := md "Folders" "__contains__" "Folders.__contains__" (inClass (topS 11) 2) []) rfl
  have E_Folders_contains : Fun K "__contains__" "Folders.__contains__" (inClass (topS 11) 2) _ fd_Folders_contains := fun_of D_Folders_contains
  obtain ⟨fd_Folders_eq, D_Folders_eq⟩ := c.def_ 19 (d := md "Folders" "__eq__" "Folders.__eq__" (inClass (topS 11) 3) []) rfl
  have E_Folders_eq : Fun K "__eq__" "Folders.__eq__" (inClass (topS 11) 3) _ fd_Folders_eq := fun_of D_Folders_eq
  obtain ⟨fd_Folders_lots, D_Folders_lots⟩ := c.def_ 20 (d := md "Folders" "lots" "Folders.lots" (inClass (topS 11) 4) []) rfl
  have E_Folders_lots : Fun K "lots" "Folders.lots" (inClass (topS 11) 4) _ fd_Folders_lots := fun_of D_Folders_lots
  have g_is_list := glo 0 "is_list" rfl
  have g_is_name := glo 1 "is_name" rfl
  have g_first_wrong := glo 2 "first_wrong" rfl
  have g_choices := glo 3 "choices" rfl
  have g_choices_of := glo 4 "choices_of" rfl
  have g_rows_of_neighbours := glo 5 "rows_of_neighbours" rfl
  have g__law_start := glo 6 "_law_start" rfl
  have g__law_draw := glo 7 "_law_draw" rfl
  have g__law_pick := glo 8 "_law_pick" rfl
  have g__law_same := glo 9 "_law_same" rfl
  have g__law_name := glo 10 "_law_name" rfl
  have g__law_names := glo 11 "_law_names" rfl
  have g__law_due := glo 12 "_law_due" rfl
  have g__law_tried := glo 13 "_law_tried" rfl
  have g_law := glo 14 "law" rfl
  have g_BadFolders := glo 15 "BadFolders" rfl
  have g_Folders := glo 16 "Folders" rfl
  have e := hfa.symm.trans g_law
  cases e
  obtain ⟨t_LETTERS, k_LETTERS⟩ := He.str_ok X G (c.fact 17 (f := .str "LETTERS" "abcdefghijklmnopqrstuvwxyz") rfl)
  obtain ⟨t_LONGEST_NAME, k_LONGEST_NAME⟩ := He.int_ok X G (c.fact 18 (f := .int "LONGEST_NAME" 8) rfl)
  obtain ⟨t_MOST_FOLDERS, k_MOST_FOLDERS⟩ := He.int_ok X G (c.fact 19 (f := .int "MOST_FOLDERS" 5) rfl)
  obtain ⟨t_MOST_IN_CHAIN, k_MOST_IN_CHAIN⟩ := He.int_ok X G (c.fact 20 (f := .int "MOST_IN_CHAIN" 12) rfl)
  have M_BadFolders := He.meth_ok (c.fact 21 (f := .meth "BadFolders" "__init__") rfl)
  have T_BadFolders : ExT K mg "BadFolders" _ _ "index" := errB_ok xe_BadFolders g_BadFolders (He.noat_ok (c.fact 22 (f := .noat "BadFolders" "index") rfl)) M_BadFolders.at_ (He.exm_ok (c.fact 23 (f := .exm "BadFolders" "BadFolders" true) rfl))
  have cl_Folders := He.cls_ok (c.fact 24 (f := .cls "Folders") rfl)
  have a_Folders_names := He.noat_ok (c.fact 25 (f := .noat "Folders" "names") rfl)
  have a_Folders_chain := He.noat_ok (c.fact 26 (f := .noat "Folders" "chain") rfl)
  have a_Folders_places := He.noat_ok (c.fact 27 (f := .noat "Folders" "places") rfl)
  have r_Folders := He.mkr_ok (c.fact 28 (f := .mkr "Folders") rfl)
  have m_Folders_len := He.meth_ok (c.fact 29 (f := .meth "Folders" "__len__") rfl)
  have m_Folders_contains := He.meth_ok (c.fact 30 (f := .meth "Folders" "__contains__") rfl)
  have m_Folders_eq := He.meth_ok (c.fact 31 (f := .meth "Folders" "__eq__") rfl)
  have m_Folders_lots := He.meth_ok (c.fact 32 (f := .meth "Folders" "lots") rfl)
  have T : FolT K mg _ _ := ⟨g_Folders, cl_Folders, a_Folders_names, a_Folders_chain, a_Folders_places, r_Folders⟩
  obtain ⟨ds, dF, bF⟩ := FunD.binds0 (ps := ["self", "names", "chain"]) F_Folders_init 2 (fun z => by cases z) rfl fun D doc pm an cdv ct us ks hl hk => match us, hl, ks, hk with
    | [_, _], _, [_], _ => ⟨_, _, _, _, _, _, rfl, rfl, rfl⟩
  obtain ⟨mv, bK⟩ := FunD.kbinds0 (ps := ["self", "names", "chain"]) F_Folders_init 2 ["chain"] [] (fun us mz ws => us ++ ws) (fun z => by cases z) (fun _ m => nomatch m) (fun r1 _ r3 => r1.append r3) fun D doc pm an cdv ct us mv ws l1 l2 l3 => match us, l1, mv, l2, ws, l3 with
    | [_, _], _, [], _, [_], _ => rfl
  have bl : ∀ (s : Shared) (v : Value), BindsTo s fd_law ⟨[v], []⟩ [("_law_script", v)] := fun s v => FunD.bindsA (ps := ["_law_script"]) D_law (fun _ _ _ _ _ _ us hl => match us, hl with | [_], _ => rfl) s [v] rfl
  refine ⟨fd_law, bl, fun base _ _ => ?_⟩
  have c_is_list : Cal P w K mg base CX0 1 "is_list" _ fd_is_list ["thing"] (spIsList K) := ⟨ok_is_list B E_is_list, g_is_list, E_is_list.kp, E_is_list.binds (fun _ _ _ _ _ _ us hl => match us, hl with | [_], _ => rfl)⟩
  have c_is_name : Cal P w K mg base CX0 1 "is_name" _ fd_is_name ["thing"] (spIsName K) := ⟨ok_is_name B k_LETTERS k_LONGEST_NAME E_is_name, g_is_name, E_is_name.kp, E_is_name.binds (fun _ _ _ _ _ _ us hl => match us, hl with | [_], _ => rfl)⟩
  have c_first_wrong : Cal P w K mg base CX0 2 "first_wrong" _ fd_first_wrong ["names", "most"] (spFirstWrong K) := ⟨ok_first B c_is_list c_is_name E_first_wrong, g_first_wrong, E_first_wrong.kp, E_first_wrong.binds (fun _ _ _ _ _ _ us hl => match us, hl with | [_, _], _ => rfl)⟩
  have c_choices_of : Cal P w K mg base CX0 1 "choices_of" _ fd_choices_of ["things", "many"] (spChoicesOf K) := ⟨ok_choices_of B E_choices_of, g_choices_of, E_choices_of.kp, E_choices_of.binds (fun _ _ _ _ _ _ us hl => match us, hl with | [_, _], _ => rfl)⟩
  have c_choices : Cal P w K mg base CX0 2 "choices" _ fd_choices ["things"] (spChoices K) := ⟨ok_choices B c_choices_of E_choices, g_choices, E_choices.kp, E_choices.binds (fun _ _ _ _ _ _ us hl => match us, hl with | [_], _ => rfl)⟩
  have c_rows_of_neighbours : Cal P w K mg base CX0 1 "rows_of_neighbours" _ fd_rows_of_neighbours ["names"] spNeigh := ⟨ok_neigh B E_rows_of_neighbours, g_rows_of_neighbours, E_rows_of_neighbours.kp, E_rows_of_neighbours.binds (fun _ _ _ _ _ _ us hl => match us, hl with | [_], _ => rfl)⟩
  have c__law_start : Cal P w K mg base CX0 1 "_law_start" _ fd__law_start ["_law_script"] (spStart K) := ⟨ok_start B E__law_start, g__law_start, E__law_start.kp, E__law_start.binds (fun _ _ _ _ _ _ us hl => match us, hl with | [_], _ => rfl)⟩
  have c__law_draw : Cal P w K mg base CX0 1 "_law_draw" _ fd__law_draw ["_law_stream", "_law_many"] spDraw := ⟨ok_draw B E__law_draw, g__law_draw, E__law_draw.kp, E__law_draw.binds (fun _ _ _ _ _ _ us hl => match us, hl with | [_, _], _ => rfl)⟩
  have c__law_pick : Cal P w K mg base CX0 2 "_law_pick" _ fd__law_pick ["_law_stream", "_law_some"] (spPick K) := ⟨ok_pick B c__law_draw E__law_pick, g__law_pick, E__law_pick.kp, E__law_pick.binds (fun _ _ _ _ _ _ us hl => match us, hl with | [_, _], _ => rfl)⟩
  have b_same : Binds K fd__law_same ["_law_found", "_law_due_here"] [] := E__law_same.binds (fun _ _ _ _ _ _ us hl => match us, hl with | [_, _], _ => rfl)
  have c__law_same : Cal P w K mg base CX0 5 "_law_same" _ fd__law_same ["_law_found", "_law_due_here"] (spSame K 4) := ⟨ok_same B E__law_same g__law_same b_same 4, g__law_same, E__law_same.kp, b_same⟩
  have c__law_name : Cal P w K mg base CX0 3 "_law_name" _ fd__law_name ["_law_stream"] spName := ⟨ok_name B c__law_draw c__law_pick E__law_name, g__law_name, E__law_name.kp, E__law_name.binds (fun _ _ _ _ _ _ us hl => match us, hl with | [_], _ => rfl)⟩
  have c__law_names : Cal P w K mg base CX0 4 "_law_names" _ fd__law_names ["_law_stream", "_law_many"] (spNames K) := ⟨ok_names B c__law_name E__law_names, g__law_names, E__law_names.kp, E__law_names.binds (fun _ _ _ _ _ _ us hl => match us, hl with | [_, _], _ => rfl)⟩
  have c__law_due : Cal P w K mg base CX0 1 "_law_due" _ fd__law_due ["_law_things", "_law_is_chain"] (spDue K) := ⟨ok_due B E__law_due, g__law_due, E__law_due.kp, E__law_due.binds (fun _ _ _ _ _ _ us hl => match us, hl with | [_, _], _ => rfl)⟩
  have GF := ok_folders (P := P) (w := w) (base := base) B k_MOST_FOLDERS k_MOST_IN_CHAIN T_BadFolders T (ok_BF T_BadFolders E_BadFolders_init) (E_BadFolders_init.binds (fun _ _ _ _ _ _ us hl => match us, hl with | [_, _], _ => rfl)) c_first_wrong c_choices c_rows_of_neighbours F_Folders_init
  have c__law_tried : Cal P w K mg base CX0 5 "_law_tried" _ fd__law_tried ["_law_things", "_law_is_chain"] (spTried K) := ⟨ok_tried B T T_BadFolders GF bK E__law_tried, g__law_tried, E__law_tried.kp, E__law_tried.binds (fun _ _ _ _ _ _ us hl => match us, hl with | [_, _], _ => rfl)⟩
  exact ok_law B T GF bF dF (of_decide_eq_true x_tl) (insB_ok xi_Folders cl_Folders) c__law_start c__law_draw c__law_pick c__law_names c__law_due c__law_tried c__law_same E_law
end Bk
open PySem PySem.W PySem.Calls PyProof.Rows
theorem PySem.Challenge.cw_blockshares_k02_folders_refused_holds : PySem.Challenge.rw_blockshares_k02_folders_refused.Holds := by
  w_on; o_law
  refine HandSHeadRun.head_any (r := Bk.RowL) (q := view Bk.RowL.prog [25]) (H := Bk.hkL) (ob := Bk.obL) (M := 3000) (d := HandSHeadRun.topDef Bk.RowL.prog 25) (kwd := []) Bk.obL_eq
    (by kernel_rfl) (fun s => by kernel_rfl) Bk.runL (by kernel_rfl) (by kernel_rfl) (by kernel_rfl) (by rfl) (by first | assumption | decide +kernel) (by decide +kernel) ⟨rfl, rfl, rfl, rfl, rfl, by decide +kernel⟩ ?hw ?hc
  case hw => w_witness2
  case hc =>
    refine L2.walk_ofE (l := PySem.Challenge.rw_blockshares_k02_folders_refused) (n := 63) (k := 6) (x := "_law_script") (CX := L2.CX0) rfl (by decide) (by kernel_rfl) ⟨rfl, by decide, by decide⟩ ?F (fun _ _ _ _ z => z)
    intro w mg fa h Y G hmg0
    obtain ⟨K, KX, c⟩ := Y
    have hmg : mg ("law" : PySem.Str) = some (.ref fa) := by
      have e : (HandSHeadRun.topDef Bk.RowL.prog 25).name = ("law" : PySem.Str) := by kernel_rfl
      rw [← e]
      exact hmg0
    obtain ⟨fd, hb, hF⟩ := Bk.factsL (P := (PySem.Challenge.rw_blockshares_k02_folders_refused).prog) (w := w) KX G hmg c
    exact ⟨K, fd, Bk.spLaw K, KX, hb, fun H a ns hl _ hS => ⟨a, ns, rfl, hS, fun _ => rfl⟩, hF⟩
