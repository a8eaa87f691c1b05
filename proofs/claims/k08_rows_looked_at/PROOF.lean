import PyProof.Rows.All
import Wide.All
import OpenK.AllK
import Wide.FinOn
import HandS.ForMost
import HandS.SortKw
import HandS.Sort
import KE.DataMinMax
import HandS.TupSets
import HandS.SetBool
import HandS.AnyAll
import HandS.Lambda
import HandS.SetFor
import HandS.IsInst
import HandS.Style
import PySem.Challenge.RW_pairhues_k08_rows_looked_at
import KE.KEqDeep
import HandS.EndTab
import KE.KNest
set_option Elab.async false
set_option linter.all false
set_option maxRecDepth 100000
set_option maxHeartbeats 2000000
namespace Own
open PySem PySem.Spec PyProof.Rows L2
theorem nlt {b n : Nat} (e : b = n) (h : b < n) : False := by omega
theorem up1 {b n : Nat} (e : b = n) : b < n + 1 := by omega
theorem up2 {b c n : Nat} (e : b = c) (h : c < n) : b < n + 1 := by omega
/-! the view d.values() as a value; the greatest of such a view, with default= -/
abbrev vwObj (a : Addr) : Obj := { cls := .type "dict_values", data := .fields #[.ref a] }
def VwO (v a : Addr) : HO := .ext fun h => h.get? v = some (vwObj a)
theorem vw_ok {P : Program} {w : World} {H : Hp} {h : Heap} {v a : Addr} (e : h.get? v = some (vwObj a)) : ObjOk P w H h v (VwO v a) :=
  ⟨e, ⟨_, e⟩, fun _ _ p k => k _ p⟩
section
variable {X : Cx}
def rVals : V → List V → Hp → VK → Prop := fun x xs H Q =>
  ∃ (a : Addr) (kvs : List (Key × V)), x = .ref a ∧ xs = [] ∧ H a = some (.dK kvs) ∧ ∀ v, H v = none → Q (.ref v) (upd H v (VwO v a))
theorem mt_vals : MtR X "dict.values" rVals := by
  intro pins s σ H x xs v us Q I rx rxs h
  obtain ⟨a, kvs, rfl, rfl, ha, q⟩ := h
  cases rx
  cases rxs
  obtain ⟨_, hsys, vs, rel, dof⟩ := dk_of I.hok ha
  obtain ⟨ep, dat⟩ := dof.dictAt
  obtain ⟨ob, es, ho, ex, _⟩ := id dat
  refine call_meetsIn F.slot_dict_values ⟨ob, ho, ex.1⟩ F.entry_dict_values (F.args_dict_values_1 _)
    (meets_dict_values (mixKind X.prog X.w) a hsys) ⟨⟨vs, dof⟩, ?_⟩
  refine ⟨.ref s.heap.objs.size, _, I.laid (t' := s.toks) (o := VwO s.heap.objs.size a)
    (fun b u e => Heap.get?_push_of_some _ e) (Nat.le_refl _) (vw_ok (Heap.get?_push_size _ rfl)), rfl, q _ (I.hok.fresh (Nat.le_refl _))⟩
def rMaxD : List V → List V → Hp → VK → Prop := fun xs zs H Q => ∃ (v a : Addr) (kvs : List (Key × V)) (is : List Int) (d : Int),
  xs = [.ref v] ∧ zs = [.int d] ∧ H v = some (VwO v a) ∧ H a = some (.dK kvs) ∧ kvs.map (·.2) = is.map V.int ∧
  (is = [] → Q (.int d) H) ∧ ∀ m, m ∈ is → (∀ j ∈ is, j ≤ m) → Q (.int m) H
theorem cr_maxD (hc : X.calm = true) : CallRK X (.builtin "max") ["default"] rMaxD := by
  intro pins s σ H xs zs us ws Q I r r2 h
  obtain ⟨v, a, kvs, is, d, rfl, rfl, hv, ha, he, q0, q1⟩ := h
  obtain ⟨u, rfl, ru⟩ := vals1 r
  obtain ⟨u2, rfl, ru2⟩ := vals1 r2
  cases ru
  obtain ⟨t, rfl⟩ := ru2
  show wpAny _ _ (call (.builtin "max") [.ref v] [(Str.ofString "default", .int d t)]) _ _ s
  have hview : s.heap.get? v = some (vwObj a) := (I.hok v _ hv).1
  obtain ⟨_, hsys, vs, rel, dof⟩ := dk_of I.hok ha
  obtain ⟨ep, dat⟩ := dof.dictAt
  obtain ⟨ob, es, ho, ex, _⟩ := id dat
  have alt : a < s.heap.objs.size := Heap.lt_size ho
  have hne : a ≠ s.heap.objs.size := Nat.ne_of_lt alt
  have lens : vs.length = is.length := by
    have e1 := congrArg List.length he
    simp only [List.length_map] at e1
    rw [← e1, KV.length rel]
  have hval : ∀ (i : Nat) (x : Value), (∃ k, vs[i]? = some (k, x)) → ∃ t, x = Value.int (is.getD i 0) t := by
    intro i x ⟨k, hk⟩
    obtain ⟨y, h1, h2⟩ := KV.at' rel hk
    have e1 : (is.map V.int)[i]? = some y := by rw [← he, List.getElem?_map, h1]; rfl
    rw [List.getElem?_map] at e1
    obtain ⟨j, hj, rfl⟩ := Option.map_eq_some_iff.mp e1
    obtain ⟨t, rfl⟩ := h2
    exact ⟨t, by rw [List.getD_eq_getElem?_getD, hj]; rfl⟩
  refine call_max_walkD (wpAny_pyIter_values (v := v) (d := a) ⟨_, hview, rfl, rfl⟩ dat ?_)
  have gone : ∀ s' : Shared, Moved [s.heap.objs.size] (fun a b => b = a) { s with heap := s.heap.push { cls := .type "dict_valueiterator", data := .fields #[.ref a, .int 0 0, .int vs.length 0, .int ep 0] } } s' →
      Inv X pins σ H s' := by
    intro s' mv
    have k : ∀ b o, s.heap.get? b = some o → s'.heap.get? b = some o := fun b o e => by
      refine mv.heap b o ?_ (Heap.get?_push_of_some _ e)
      intro hm
      have e2 : b = s.heap.objs.size := List.mem_singleton.mp hm
      exact nlt e2 (Heap.lt_size e)
    have J := I.kept (t' := s'.toks) k
    have eg : s'.gens = s.gens := mv.gens
    have ed : s'.drawn = s.drawn := mv.drawn
    have eo : s'.os = s.os := mv.os
    have es : ({ s with heap := s'.heap, toks := s'.toks } : Shared) = s' := by
      cases s'
      cases s
      simp only at eg ed eo
      subst eg ed eo
      rfl
    rw [es] at J
    exact J
  refine ⟨s.heap.objs.size, _, _, _, vs.length, _, _, s.heap, fun i j => decide (is.getD i 0 > is.getD j 0), rfl,
    (Walks.dictValues (knd := mixKind X.prog X.w) (A := X.A.in1) (I.ok.hd hc) s.heap.objs.size a hne vs ep).toS,
    ⟨⟨_, Heap.get?_push_size _ rfl, rfl, rfl⟩, dat.keep fun b u e => Heap.get?_push_of_some _ e⟩, fun b hb => ?_, fun b o e hm => ?_, fun b o e => Heap.get?_push_of_some _ e, fun h0 s' mv => ?_, fun hn => ⟨?_, fun x s' hP mv => ?_⟩⟩
  · show b < (s.heap.push _).objs.size
    rw [Heap.size_push]
    rcases List.mem_cons.mp hb with e | hb
    · exact up1 e
    · exact up2 (List.mem_singleton.mp hb) alt
  · exact nlt (List.mem_singleton.mp hm) (Heap.lt_size e)
  · have e0 : is = [] := List.length_eq_zero_iff.mp (by omega)
    exact ⟨.int d, H, gone s' mv, ⟨t, rfl⟩, q0 e0⟩
  · intro i j vi vj s2 Q2 E2 _ hi hj hq
    exact CmpOf.ints_gt (fun i => is.getD i 0) hval i j vi vj s2 Q2 E2 hi hj hq
  · obtain ⟨t2, rfl⟩ := hval _ x hP
    obtain ⟨b1, b2⟩ := argBest_gt (fun i => is.getD i 0) (vs.length - 1)
    refine ⟨.int _, H, gone s' mv, ⟨t2, rfl⟩, q1 _ ?_ fun j hj => ?_⟩
    · have hb : argBest (fun i j => decide (is.getD i 0 > is.getD j 0)) (vs.length - 1) < is.length := by omega
      rw [List.getD_eq_getElem?_getD, List.getElem?_eq_getElem hb]
      exact List.getElem_mem hb
    · obtain ⟨i, hi, e⟩ := List.mem_iff_getElem.mp hj
      have e2 : is.getD i 0 = j := by rw [List.getD_eq_getElem?_getD, List.getElem?_eq_getElem hi, ← e]; rfl
      rw [← e2]
      exact b2 i (by omega)
end
end Own

set_option Elab.async false
set_option linter.all false
set_option maxRecDepth 100000
set_option maxHeartbeats 2000000
namespace Own
open PySem PySem.Spec PyProof.Rows L2
/-! a set comprehension whose members are tuples of ints -/
section
variable {X : Cx} {pins : List (Addr × Obj)} {σ : L2.St} {H : Hp} {s : Shared}
theorem tup_add {E : Value → Shared → Prop} {D b : Addr} {k : List Int} {L : List (Addr × List Int)} {Q : Value → Shared → Prop} (I : Inv X pins σ H s)
    (hD : H D = some (SetTO X.prog X.w D L)) (hb : SqT X.K H b (k.map V.int)) (hL : ∀ p ∈ L, SqT X.K H p.1 (p.2.map V.int))
    (few : L.length + 1 < 64) (hu : X.A.units + 1 < cLine)
    (h : ∀ s' L', (k ∈ L.map (·.2) → L' = L) → (k ∉ L.map (·.2) → L'.Perm ((b, k) :: L)) →
      Inv X pins σ (upd H D (SetTO X.prog X.w D L')) s' → Q .none s') :
    wpAny (model X.prog X.w) X.A (call (.builtin "set.add") [.ref D, .ref b]) Q E s := by
  have R0 : SetT0 X.prog X.w s.heap D L := (I.hok D _ hD).1
  obtain ⟨es, ep, t, R⟩ := R0.full fun p hp => I.isT (hL p hp)
  obtain ⟨o, ho, hex, hd⟩ := R.ob
  have hx := I.isT hb
  refine wpAny_call_entry F.slot_set_add ⟨o, ho, hex.1⟩ F.entry_set_add ?_ (F.args_set_add_2 _ _)
  unfold Builtin.«set.add» Builtin.Frozenset.oneOther
  simp only [List.isEmpty_nil, bind_assoc]
  unfold Builtin.Frozenset.addrOf setAdd
  refine wpAny_bind (wpAny_pure ?_)
  try dsimp only
  refine wpAny_bind (wpAny_pure ?_)
  try dsimp only
  refine wpAny_bind (wpAny_holding (wpAny_bind (wpAny_pyHash_tuple (by show X.A.units + 1 < cLine; exact hu) hx ?_)))
  refine add_at (s := { s with toks := s.toks + (k.length + 1) }) R hx (by show X.A.units + 1 < cLine; exact hu) few fun bb h' L' es' ep' t' sb R' c1 c2 => ?_
  show wpAny _ _ (ret Value.none) _ _ _
  refine wpAny_pure ⟨_, rfl, h _ L' c1 c2 (I.write (e := D) (t' := s.toks + (k.length + 1)) (by rw [hD]; trivial) (.inl rfl)
    (fun c u hc hu => (sb.2 c hc).trans hu) ?_ (setTO_new R'.t0))⟩
  obtain ⟨o', ho', _⟩ := R'.ob
  exact ⟨o', ho'⟩
end

/-! the comprehension, for any sort of set: fr D is what is tracked at first, AD what adding asks -/
section
variable {X : Cx}
abbrev newSetObj (w : World) : Obj :=
  { cls := .type "set", dict := none, data := .set #[] 0 (.fresh 0 0 (!w.params.followText "set-order")) }
structure SetSort (X : Cx) (fr : Addr → HO) (AD : Addr → V → Hp → (Hp → Prop) → Prop) : Prop where
  new : ∀ (H : Hp) (h : Heap) (D : Addr), h.get? D = some (newSetObj X.w) → ObjOk X.prog X.w H h D (fr D)
  add : ∀ (s0 : Shared) (H0 : Hp) (sc : Scope) (en : Env) (fp : List Addr) (pins : List (Addr × Obj)) (σ : L2.St) (H : Hp) (s : Shared)
    (E : Value → Shared → Prop) (D : Addr) (y : V) (u : Value) (Nx : Hp → Prop) (Q : Value → Shared → Prop),
    Inv (X.blk s0 H0 sc en fp) pins σ H s → RelV y u → AD D y H Nx →
    (∀ s' H', Inv (X.blk s0 H0 sc en fp) pins σ H' s' → Nx H' → Q .none s') →
    wpAny (model X.prog X.w) X.A (call (.builtin "set.add") [.ref D, u]) Q E s
def tScA (fr : Addr → HO) (AD : Addr → V → Hp → (Hp → Prop) → Prop) (wi : TI) (g : TG) (tt : TT) (te : TE) (vs : List Nat) : TE :=
  fun σ H Q => wi σ H fun J H1 => ∀ D, H1 D = none → ∃ W : Nat → Nat → Hp → Prop, (∃ m, W 0 m (upd H1 D (fr D))) ∧
    ∀ i m H, W i m H → (J.stop i H ∧ Q (.ref D) H) ∨ (J.go i H ∧ ∃ Nx : Hp → Prop,
      (∀ H', Nx H' → ∃ m', m' < m ∧ W (i + 1) m' H') ∧
      ∀ x H', J.yld i H x H' → g x (wipe σ vs) H' fun σ2 H2 => wipe σ2 vs = wipe σ vs ∧ tt σ2 H2 fun b H3 =>
        if b = true then te σ2 H3 fun y H4 => AD D y H4 Nx else Nx H3)
set_option maxHeartbeats 8000000 in
theorem pe_scA {fr : Addr → HO} {AD : Addr → V → Hp → (Hp → Prop) → Prop} {elt tg iter : Expr} {ifs : List Expr} {scope : Scope}
    {own : List (PySem.Str × Nat)} {pos : Pos} {wi : TI} {g : TG} {tt : TT} {te : TE} (SS : SetSort X fr AD)
    (hc : X.calm = true) (hN : X.N.Nodup) (hi : PI X tg iter wi) (ok : BlkOk X.N X.env.scope scope own)
    (hg : ∀ (s : Shared) (H : Hp) (C : Addr) (cl : List (PySem.Str × Addr)) (fp : List Addr),
      PG (X.blk s H scope (compEnvC scope cl C X.env) fp) tg g)
    (ht : ∀ (s : Shared) (H : Hp) (C : Addr) (cl : List (PySem.Str × Addr)) (fp : List Addr),
      PTs (X.blk s H scope (compEnvC scope cl C X.env) fp) ifs tt)
    (he : ∀ (s : Shared) (H : Hp) (C : Addr) (cl : List (PySem.Str × Addr)) (fp : List Addr),
      PE (X.blk s H scope (compEnvC scope cl C X.env) fp) elt te)
    (hs : ∀ x, foldedSetIterable iter X.env x = pure x := by intro _; rfl) :
    PE X (.SetComp elt [⟨tg, iter, ifs, 0⟩] scope pos) (tScA fr AD wi g tt te (own.map (·.2))) := by
  refine ⟨fun pins z σ H Q I h => ?_⟩
  rw [PpSet.eval_SetComp]
  have fv : ∀ y ∈ scope.names, y.2 = .free → ∃ c, X.env.cells.lookup y.1 = some c := by
    intro y hy e
    exact (ok.free y hy e).elim (fun k => I.ok.has _ (.inl k)) (fun k => I.ok.has _ (.inr k))
  refine wpAny_comprehension_free (use := none) rfl hs (closure_ok fv) ok.kind
    (fun y hy e => by rw [ok.uniq y hy, e]) (thn (hi.run pins z σ H _ I h) fun _ z1 hx => thn hx fun _ z2 h2 => ?_)
  obtain ⟨it, fp, tn, J, H2, rfl, I2, T, t2, f2, q⟩ := h2
  refine PpSet.newSet_ok (newEnv_comp ?_)
  -- the new set, tracked
  obtain ⟨D, hD⟩ : ∃ D, D = z2.heap.objs.size := ⟨_, rfl⟩
  rw [← hD]
  have Dn : H2 D = none := I2.hok.fresh (Nat.le_of_eq hD.symm)
  obtain ⟨W, ⟨m0, w0⟩, turn⟩ := q D Dn
  obtain ⟨z3, e3⟩ : ∃ z3 : Shared, z3 = { z2 with heap := z2.heap.push (newSetObj X.w) } := ⟨_, rfl⟩
  have k3 : ∀ b o, z2.heap.get? b = some o → z3.heap.get? b = some o := fun b o e => by
    rw [e3]
    exact Heap.get?_push_of_some _ e
  have at3 : z3.heap.get? D = some (newSetObj X.w) := by
    rw [e3, hD]
    exact Heap.get?_push_size _ rfl
  have size3 : z3.heap.objs.size = z2.heap.objs.size + 1 := by
    rw [e3]
    exact Heap.size_push _ _
  obtain ⟨H3, eH3⟩ : ∃ H3 : Hp, H3 = upd H2 D (fr D) := ⟨_, rfl⟩
  have I3 : Inv X pins σ H3 z3 := by
    have I3' := I2.laid (a := D) (o := fr D) (h' := z3.heap) (t' := z2.toks) k3 (Nat.le_of_eq hD.symm) (SS.new _ _ _ at3)
    rw [← eH3] at I3'
    rw [e3] at I3' ⊢
    exact I3'
  have okf : ∀ b ∈ fp, FpOk X pins H3 b ∧ b < z3.heap.objs.size := by
    intro b hb
    obtain ⟨o, eo, _⟩ := T.obj _ _ t2 b hb
    have lt := Heap.lt_size eo
    have ne : b ≠ D := by
      rw [hD]
      exact Nat.ne_of_lt lt
    refine ⟨⟨?_, (f2 b hb).2⟩, ?_⟩
    · rw [eH3, upd_ne ne]
      exact (f2 b hb).1
    · rw [size3]
      exact Nat.lt_succ_of_lt lt
  have t3 : tn 0 z3.heap := T.keep _ _ _ t2 fun b _ o e => k3 b o e
  rw [← eH3] at w0
  have I4 := block_start I3 ok hN okf
  obtain ⟨cl, ecl⟩ : ∃ cl, cl = cellsFrom (z3.heap.objs.size + 1) scope.names (cloFrom X.env.cells scope.names []) := ⟨_, rfl⟩
  have PGb := hg z3 H3 z3.heap.objs.size cl fp
  have PTb := ht z3 H3 z3.heap.objs.size cl fp
  have PEb := he z3 H3 z3.heap.objs.size cl fp
  rw [← ecl] at I4
  obtain ⟨ce, ece⟩ : ∃ ce, ce = compEnvC scope cl z3.heap.objs.size X.env := ⟨_, rfl⟩
  have locE : ce.locals = z3.heap.objs.size := by
    rw [ece]
    rfl
  rw [← ece] at I4 PGb PTb PEb
  obtain ⟨z4, e4⟩ : ∃ z4 : Shared, z4 = { z3 with heap := pushCells (z3.heap.push { cls := .type "dict", data := .dict #[] }) scope.names } := ⟨_, rfl⟩
  rw [← e4] at I4
  have t4 : tn 0 z4.heap := T.keep _ _ _ t3 fun b _ o e => by
    rw [e4]
    exact pushCells_keeps _ _ _ _ (Heap.get?_push_of_some _ e)
  have n3 : ∀ b ∈ fp, H3 b = none := fun b hb => (okf b hb).1.1
  have stat : ∀ {τ : L2.St} {G : Hp} {y : Shared}, Inv (X.blk z3 H3 scope ce fp) [] τ G y → (∀ b ∈ fp, G b = none) →
      ∀ b ∈ fp, FpOk (X.blk z3 H3 scope ce fp) [] G b := by
    intro τ G y J' hn b hb
    refine ⟨hn b hb, (J'.ok.exf b hb).1, J'.ok.exfs b hb, .inl hb, fun x c e => (J'.ok.exf b hb).2 x c e, fun p hp => ?_⟩
    cases (show p ∈ ([] : List (Addr × Obj)) ++ [] from hp)
  have goal2 : codeAny (model X.prog X.w) X.A (.compLoop (.SetComp elt [⟨tg, iter, ifs, 0⟩] scope pos) 0 (.ref it) (.ref D) ce)
      (compPost (model X.prog X.w) X.A X.xe none (EP X pins σ Q) (.ref D) z3.heap.objs.size) z4 := by
    refine PpSet.compLoopS_any (fun n y => ∃ i G, Inv (X.blk z3 H3 scope ce fp) [] (wipe σ (own.map (·.2))) G y ∧
      tn i y.heap ∧ (∀ b ∈ fp, G b = none) ∧ W i n G) ?_ m0 ⟨0, H3, I4, t4, n3, w0⟩
    rintro n z5 ⟨i, H5, I5, t5, n5, w5⟩
    rcases turn i n H5 w5 with ⟨stp, fin⟩ | ⟨go, Nx, hNx, stepT⟩
    · refine thnF (T.done (X.blk z3 H3 scope ce fp) rfl rfl rfl hc i [] z5 _ H5 (fun _ _ => False) I5 (stat I5 n5) t5 stp) ?_
      rintro r z6 ⟨rfl, I6⟩
      have back : Inv X pins σ H5 z6 := I3.call' (ch := fp) I6.os I6.base I6.hok I6.bare fun b hb =>
        let w := (okf b hb).1.2
        ⟨w.2.2.1, w.1, w.2.2.2.1, w.2.2.2.2⟩
      have nC : H5 z3.heap.objs.size = none := by
        rw [← locE]
        exact I6.free
      obtain ⟨m, hm, _⟩ := I6.loc
      have hm' : z6.heap.Ns z3.heap.objs.size m := by
        rw [← locE]
        exact hm
      obtain ⟨f0, f1, f2', f3, f4, f5⟩ := I3.fpOk (Nat.le_refl _) nC
      exact ⟨m, hm', fun hp sb => ⟨.ref D, H5, back.turned (t' := z6.toks) (fun b o hb e => (sb.2 b hb).trans e) f0 f1 f3 f4 f5, rfl, fin⟩⟩
    · refine thnF (T.item (X.blk z3 H3 scope ce fp) rfl rfl rfl hc i [] z5 _ H5 (fun _ _ => False) I5 (stat I5 n5) t5 go) ?_
      rintro r z6 ⟨u, rfl, h6⟩
      refine thnF h6 fun _ z7 ⟨x, H7, I7, r7, y7, t7, n7⟩ => ?_
      refine thnF (PGb.run _ z7 _ H7 x u _ (I7.pinned (stat I7 n7) (T.obj _ _ t7)) r7 (stepT x H7 y7)) ?_
      rintro _ z8 ⟨τ, H8, I8, wp8, q8⟩
      refine thnF (PTb.run _ z8 τ H8 _ I8 q8) fun b z9 ⟨H9, I9, q9⟩ => ?_
      have onward : ∀ {y : Shared} {G : Hp}, Inv (X.blk z3 H3 scope ce fp) ([] ++ pinsAt fp z7.heap) τ G y → Nx G →
          ∃ m, m < n ∧ ∃ i G, Inv (X.blk z3 H3 scope ce fp) [] (wipe σ (own.map (·.2))) G y ∧ tn i y.heap ∧
            (∀ b ∈ fp, G b = none) ∧ W i m G := by
        intro y G J' nx
        obtain ⟨m', hm, w'⟩ := hNx G nx
        have held : ∀ b ∈ fp, ∀ o, z7.heap.get? b = some o → y.heap.get? b = some o ∧ G b = none := fun b hb o e =>
          have w := J'.pin (b, o) (List.mem_append_right _ (List.mem_append_right _ (mem_pinsAt hb e)))
          ⟨w.1, w.2.1⟩
        refine ⟨m', hm, i + 1, G, (J'.unpinned (pins := [])).weak (by rw [← wp8, wipe_length]) (fun j v e => ?_),
          T.keep _ _ _ t7 fun b hb o e => (held b hb o e).1, fun b hb => ?_, w'⟩
        · rw [← wp8] at e
          exact (wipe_some e).1
        · obtain ⟨o, e, _⟩ := T.obj _ _ t7 b hb
          exact (held b hb o e).2
      cases b with
      | false =>
        simp only [Bool.false_eq_true, if_false] at q9 ⊢
        exact onward I9 q9
      | true =>
        simp only [if_true] at q9 ⊢
        refine thnF (PEb.run _ z9 τ H9 _ I9 q9) ?_
        rintro v z10 ⟨yv, H10, I10, r10, ad⟩
        exact SS.add _ _ _ _ _ _ _ _ _ _ _ _ _ _ _ I10 r10 ad fun _ _ J' nx => onward J' nx
  have all := PpSet.codeAny_compStart_set goal2 (T.self X.A 0 _ _ _ t4 goal2)
  rw [ece, ecl, e4, e3] at all
  exact all
end

/-! tuples of ints as the members -/
section
variable {X : Cx}
def adT (K : PySem.W.Frag) (P : Program) (w : World) : Addr → V → Hp → (Hp → Prop) → Prop := fun D y H Nx =>
  ∃ (b : Addr) (k : List Int) (L : List (Addr × List Int)), y = .ref b ∧ SqT K H b (k.map V.int) ∧ H D = some (SetTO P w D L) ∧
    (∀ p ∈ L, SqT K H p.1 (p.2.map V.int)) ∧ L.length + 1 < 64 ∧
    ∀ L', (k ∈ L.map (·.2) → L' = L) → (k ∉ L.map (·.2) → L'.Perm ((b, k) :: L)) → Nx (upd H D (SetTO P w D L'))
theorem sort_tup (hu : X.A.units + 1 < cLine) : SetSort X (fun D => SetTO X.prog X.w D []) (adT X.K X.prog X.w) where
  new := fun H h D e => setTO_new (setTR_fresh e).t0
  add := by
    intro s0 H0 sc en fp pins σ H s E D y u Nx Q I r ad h
    obtain ⟨b, k, L, rfl, hb, hD, hL, few, nx⟩ := ad
    cases r
    exact tup_add (X := X.blk s0 H0 sc en fp) I hD hb hL few hu fun s' L' c1 c2 J => h s' _ J (nx L' c1 c2)
def rLenT (K : PySem.W.Frag) (P : Program) (w : World) : List V → Hp → VK → Prop := fun xs H Q =>
  ∃ (D : Addr) (L : List (Addr × List Int)), xs = [.ref D] ∧ H D = some (SetTO P w D L) ∧ (∀ p ∈ L, SqT K H p.1 (p.2.map V.int)) ∧ Q (.int L.length) H
theorem call_lenT : CallR X (.builtin "len") (rLenT X.K X.prog X.w) := by
  intro pins s σ H xs us Q I r h
  obtain ⟨D, L, rfl, hD, hL, q⟩ := h
  rw [Vals.ref1 r]
  have R0 : SetT0 X.prog X.w s.heap D L := (I.hok D _ hD).1
  obtain ⟨es, ep, t, R⟩ := R0.full fun p hp => I.isT (hL p hp)
  obtain ⟨o, ho, hex, hd⟩ := R.ob
  have hz := R.size
  have hf := R.few
  refine Calls.call_function_entry kind_len plain_len entry_len (args_len1 _) (wpAny_len_body_set ho hex hd R.fits (by omega) ?_)
  rw [hz]
  exact ⟨.int (L.length : Nat), H, I.tok _, ⟨_, rfl⟩, q⟩
/-- the reading over a list that stands still: ks, the keys met, each with what it is the tuple of -/
theorem scT_list {K : PySem.W.Frag} {P : Program} {w : World} {a : Addr} {xs : List V} {g : TG} {tt : TT} {te : TE} {vs : List Nat} {σ : L2.St}
    {H1 : Hp} {D : Addr} {Qd : Hp → Prop} {AD : Addr → V → Hp → (Hp → Prop) → Prop} {fr : Addr → HO} (Pv : Nat → Hp → Prop) (h0 : Pv 0 (upd H1 D (fr D)))
    (hl : ∀ i H, i ≤ xs.length → Pv i H → SqL K H a xs)
    (hs : ∀ i x H, xs[i]? = some x → Pv i H → g x (wipe σ vs) H fun σ2 H2 => wipe σ2 vs = wipe σ vs ∧ tt σ2 H2 fun b H3 =>
      if b = true then te σ2 H3 fun y H4 => AD D y H4 (Pv (i + 1)) else Pv (i + 1) H3)
    (hd : ∀ H, Pv xs.length H → Qd H) :
    ∃ W : Nat → Nat → Hp → Prop, (∃ m, W 0 m (upd H1 D (fr D))) ∧
    ∀ i m H, W i m H → ((Itl K a).stop i H ∧ Qd H) ∨ ((Itl K a).go i H ∧ ∃ Nx : Hp → Prop,
      (∀ H', Nx H' → ∃ m', m' < m ∧ W (i + 1) m' H') ∧
      ∀ x H', (Itl K a).yld i H x H' → g x (wipe σ vs) H' fun σ2 H2 => wipe σ2 vs = wipe σ vs ∧ tt σ2 H2 fun b H3 =>
        if b = true then te σ2 H3 fun y H4 => AD D y H4 Nx else Nx H3) := by
  refine ⟨fun i m H => m + i = xs.length ∧ Pv i H, ⟨_, Nat.add_zero _, h0⟩, fun i m H hw => ?_⟩
  obtain ⟨hm, p⟩ := hw
  have here := hl i H (by omega) p
  rcases Nat.lt_or_ge i xs.length with lt | ge
  · refine .inr ⟨⟨xs, xs[i], here, List.getElem?_eq_getElem lt⟩, Pv (i + 1), fun H' p' => ⟨m - 1, by omega, by omega, p'⟩, ?_⟩
    rintro x H' ⟨rfl, hx⟩
    exact hs i x _ (hx xs here) p
  · have e : i = xs.length := by omega
    rw [e] at p
    exact .inl ⟨⟨xs, here, ge⟩, hd H p⟩
end
end Own

set_option Elab.async false
set_option linter.all false
set_option maxRecDepth 100000
set_option maxHeartbeats 4000000
namespace Own
open PySem PySem.Spec PyProof.Rows L2 GxR
/-! generator expressions over a list: quiet elements, all(..), any(..) -/
section
variable {X : Cx} {pins : List (Addr × Obj)} {σ : L2.St} {H : Hp} {s : Shared}
/-- what is known in the generator's frame, at s2: x holds v; all that stood at s1 stands, but the table at P -/
structure GFr (X : Cx) (s1 : Shared) (P : Addr) (scope : Scope) (x : Str) (v : Value) (ce : Env) (s2 : Shared) : Prop where
  sc : ce.scope = scope
  cl : ce.cells = cloFrom X.env.cells scope.names []
  gl : ce.globals = mainGlobals
  bl : ce.builtins = builtinsNs
  ns : ∃ m, s2.heap.Ns ce.locals m ∧ m x = some v
  kp : ∀ b o, b ≠ P → s1.heap.get? b = some o → s2.heap.get? b = some o
theorem GFr.on {s1 s2 s3 : Shared} {P : Addr} {scope : Scope} {x : Str} {v : Value} {ce : Env} (F : GFr X s1 P scope x v ce s2) (k : Keeps s2 s3) : GFr X s1 P scope x v ce s3 := by
  obtain ⟨h', tk, rfl, kk⟩ := k
  obtain ⟨m, hn, hm⟩ := F.ns
  exact ⟨F.sc, F.cl, F.gl, F.bl, ⟨m, hn.keeps kk, hm⟩, fun b o n e => kk _ _ (F.kp b o n e)⟩
theorem kref (s : Shared) : Keeps s s := ⟨s.heap, s.toks, rfl, fun _ _ e => e⟩
theorem ktok (s : Shared) (t : Nat) : Keeps s { s with toks := t } := ⟨s.heap, t, rfl, fun _ _ e => e⟩
theorem ktrans {s1 s2 s3 : Shared} (a : Keeps s1 s2) (b : Keeps s2 s3) : Keeps s1 s3 := by
  obtain ⟨h, t, rfl, k⟩ := a
  obtain ⟨h', t', rfl, k'⟩ := b
  exact ⟨h', t', rfl, fun c o e => k' _ _ (k c o e)⟩
/-- the expression e gives y there, and changes nothing -/
def QE (X : Cx) (s1 : Shared) (P : Addr) (scope : Scope) (x : Str) (v : Value) (e : Expr) (y : V) : Prop :=
  ∀ (ce : Env) (A' : Around) (E' : Value → Shared → Prop) (s2 : Shared), A'.handled = none → GFr X s1 P scope x v ce s2 →
    wpAny (model X.prog X.w) A' (eval e ce) (fun u s3 => RelV y u ∧ Keeps s2 s3) E' s2
variable {s1 : Shared} {P : Addr} {scope : Scope} {x : Str} {v : Value}
theorem qe_var {y : V} {p : Pos} (hk : scope.kind = .function) (hl : scope.names.lookup x = some .local) (r : RelV y v)
    (hd : (x == ("__debug__" : Str)) = false := by decide) : QE X s1 P scope x v (.Name x p) y := by
  intro ce A' E' s2 hA F
  obtain ⟨m, hn, hm⟩ := F.ns
  have k1 : ce.scope.kind = .function := by rw [F.sc]; exact hk
  have k2 : ce.kindOf x = some .local := by
    show ce.scope.names.lookup x = some .local
    rw [F.sc]; exact hl
  exact wpAny_Name (wpAny_loadName_local k1 k2 hn hm ⟨r, kref _⟩) hd
theorem qe_int {i : Int} {j : Nat} {p : Pos} : QE X s1 P scope x v (.Constant (.int i) j p) (.int i) :=
  fun ce A' E' s2 hA F => wpAny_Constant_int ⟨⟨_, rfl⟩, ktok _ _⟩
theorem qe_glob {n : Str} {y : V} {u : Value} {p : Pos} (I : Inv X pins σ H s1) (ht : ∀ o, X.base.get? mainGlobals = some o → mainGlobals ≠ P)
    (hk : scope.kind = .function) (hl : scope.names.lookup n = some .globalImplicit) (hm : X.mg n = some u) (r : RelV y u)
    (hd : (n == ("__debug__" : Str)) = false := by decide) : QE X s1 P scope x v (.Name n p) y := by
  intro ce A' E' s2 hA F
  have k1 : ce.scope.kind = .function := by rw [F.sc]; exact hk
  have k2 : ce.kindOf n = some .globalImplicit := by
    show ce.scope.names.lookup n = some .globalImplicit
    rw [F.sc]; exact hl
  have k3 : s2.heap.Ns ce.globals X.mg := by
    rw [F.gl]
    obtain ⟨o, es, ep, e, r⟩ := I.mod.glob
    exact ⟨o, es, ep, F.kp _ _ (ht o e) (I.bk _ _ e), r⟩
  exact Calls.Name_function_global k1 k2 (Calls.loadGlobal_global k3 hm ⟨r, kref _⟩) hd
/-- a name that the generator has from the def around -/
theorem qe_free {n : Str} {i : Nat} {y : V} {p : Pos} (I : Inv X pins σ H s1) (hP : ∃ ps, H P = some (.tbl ps)) (hN : X.N[i]? = some n) (hσ : σ[i]? = some (some y))
    (hv : X.env.scope.names.lookup n = some .cell ∨ X.env.scope.names.lookup n = some .free)
    (hk : scope.kind = .function) (hl : scope.names.lookup n = some .free)
    (hd : (n == ("__debug__" : Str)) = false := by decide) (hcd : (n == ("__classdict__" : Str)) = false := by decide) : QE X s1 P scope x v (.Name n p) y := by
  intro ce A' E' s2 hA F
  have k1 : ce.scope.kind = .function := by rw [F.sc]; exact hk
  have k2 : ce.kindOf n = some .free := by
    show ce.scope.names.lookup n = some .free
    rw [F.sc]; exact hl
  obtain ⟨m, hm, look⟩ := I.loc
  obtain ⟨u, r, l⟩ := look i n y hN hσ (hv.elim (fun k => .inr (.inl k)) (fun k => .inr (.inr k)))
  have hc : ∃ c, X.env.cells.lookup n = some c ∧ s1.heap.IsCell c (some u) := by
    rcases l with ⟨k, _⟩ | ⟨_, c, h1, h2⟩
    · have k' : X.env.scope.names.lookup n = some .local := k
      rcases hv with h | h <;> (rw [h] at k'; cases k')
    · exact ⟨c, h1, h2⟩
  obtain ⟨c, h1, ob, ho, hdat⟩ := hc
  have mem : (n, NameKind.free) ∈ scope.names := PySem.mem_of_lookup hl
  obtain ⟨c', h3⟩ := mem_lookup (cloFrom_has (cells := X.env.cells) (acc := []) mem)
  have h4 : c' = c := by
    rcases cloFrom_mem (PySem.mem_of_lookup h3) with hm | ⟨_, h2⟩
    · cases hm
    · rw [h2, h1]
      rfl
  obtain ⟨ps, hP⟩ := hP
  have oP : s1.heap.get? P = some { cls := .none, data := .fields ps } := I.hok P _ hP
  have ncP : c ≠ P := by
    intro z
    rw [z, oP] at ho
    cases ho
    cases hdat
  refine wpAny_Name (wpAny_loadName_free (c := c) k1 k2 (by rw [F.cl, h3, h4]) ⟨ob, F.kp _ _ ncP ho, hdat⟩ ⟨r, kref _⟩ hcd) hd
theorem qe_ixT {a b : Expr} {t : Addr} {xs : List V} {i : Int} {y : V} {p : Pos} (I : Inv X pins σ H s1) (hP : ∃ ps, H P = some (.tbl ps))
    (ha : QE X s1 P scope x v a (.ref t)) (hb : QE X s1 P scope x v b (.int i)) (hq : SqT X.K H t xs) (he : atI xs i = some y) (hs : PlainIx b) :
    QE X s1 P scope x v (.Subscript a b p) y := by
  intro ce A' E' s2 hA F
  obtain ⟨its, r, pl, hz⟩ := I.tuple hq
  obtain ⟨j, g1, g2, g3, g4, g5⟩ := atI_get he
  obtain ⟨w, ew, rw'⟩ := r.get g2
  have hl := r.length
  have hn := line63
  obtain ⟨ps, hP⟩ := hP
  have oP : s1.heap.get? P = some { cls := .none, data := .fields ps } := I.hok P _ hP
  have ntP : t ≠ P := by
    obtain ⟨o, ho, hc, _⟩ := id pl
    intro z
    rw [z, oP] at ho
    cases ho
    cases hc
  refine Subscript_ (wpAny_mono (ha ce A' E' s2 hA F) (fun u s3 h => wpAny_mono (hb ce A' E' s3 hA (F.on h.2)) (fun u2 s4 h2 => ?_) fun _ _ e => e) fun _ _ e => e)
  obtain ⟨ru, k3⟩ := h
  obtain ⟨ru2, k4⟩ := h2
  cases ru
  obtain ⟨tk, rfl⟩ := ru2
  have F4 := (F.on k3).on k4
  have pl4 : IsTup s4.heap t its.toArray := by
    obtain ⟨o, ho, hr⟩ := pl
    exact ⟨o, F4.kp _ _ ntP ho, hr⟩
  exact subscriptTail_builtinR (x := w) (Q := fun u s5 => RelV y u ∧ Keeps s2 s5) pl4.typeIs slot_tuple_getitem.lookup
    (getItem_tuple (j := j) pl4 (by omega) (by omega) (by rw [List.size_toArray, ← hl]; exact g1) (by simpa using ew) ⟨rfl, rw', ktrans k3 k4⟩) (hs _ _)
theorem qe_lt {a b : Expr} {i j : Int} {p : Pos} (ha : QE X s1 P scope x v a (.int i)) (hb : QE X s1 P scope x v b (.int j))
    (hm : behindInMarks .Lt b = false := by with_unfolding_all rfl) : QE X s1 P scope x v (.Compare a [.Lt] [b] p) (.bl (decide (i < j))) := by
  intro ce A' E' s2 hA F
  refine wpAny_Compare1 (wpAny_mono (ha ce A' E' s2 hA F) (fun u s3 h => wpAny_mono (hb ce A' E' s3 hA (F.on h.2)) (fun u2 s4 h2 => ?_) fun _ _ e => e) fun _ _ e => e) hm
  obtain ⟨⟨t1, rfl⟩, k3⟩ := h
  obtain ⟨⟨t2, rfl⟩, k4⟩ := h2
  exact lt_int ⟨rfl, ktrans k3 k4⟩
end

/-! the generator itself -/
section
variable {X : Cx} {pins : List (Addr × Obj)} {σ : L2.St} {H : Hp} {s : Shared}
/-- g, ready at s5, will give n values, the j-th as F says; whoever walks it leaves the def's table alone perhaps grown -/
def GReady (X : Cx) (pins : List (Addr × Obj)) (σ : L2.St) (H1 : Hp) (P g : Addr) (n : Nat) (F : Nat → Value → Prop) (s5 : Shared) : Prop :=
  ∃ (fp wr : List Addr) (G : Array GenState → Array GenState → Prop) (St : Nat → Shared → Prop),
    WalksS X.prog X.w X.A.in1 g fp wr G n F St ∧ St 0 s5 ∧ (∀ b ∈ fp, b < s5.heap.objs.size) ∧
    ∀ s', Moved wr G s5 s' → ∃ H2, Tabbed P H1 H2 ∧ Inv X pins σ H2 s'
/-- the tests of a generator expression there -/
def QT (X : Cx) (s1 : Shared) (P : Addr) (scope : Scope) (x : Str) (v : Value) (ifs : List Expr) (b : Bool) : Prop :=
  ∀ (ce : Env) (A' : Around) (E' : Value → Shared → Prop) (s2 : Shared), A'.handled = none → GFr X s1 P scope x v ce s2 →
    wpAny (model X.prog X.w) A' (forIn ifs true fun c r => if r = true then do let ok ← isTrue c ce (eval c ce); pure (ForInStep.yield ok) else pure (ForInStep.yield r))
      (fun ok s3 => ok = b ∧ Keeps s2 s3) E' s2
theorem qt_nil {s1 : Shared} {P : Addr} {scope : Scope} {x : Str} {v : Value} : QT X s1 P scope x v [] true := by
  intro ce A' E' s2 hA F
  simp only [List.forIn_nil]
  exact wpAny_pure ⟨rfl, kref _⟩
theorem gen_list {c P : Addr} {elt iter : Expr} {ifs : List Expr} {x : Str} {px gpos : Pos} {scope : Scope} {te : TE} {k : Nat} {Q' : Value → Shared → Prop} {R : List V → Hp → Prop}
    (hr : Room k X.A) (TB : TabB X.base X.mg c P) (hcode : X.env.code = .ref c) (S : GenS X.env scope x) (hi : PE X iter te)
    (hs : ∀ v, genFold iter X.env v = pure v) (I : Inv X pins σ H s)
    (h : te σ H fun v H1 => ∃ (a : Addr) (xs : List V), v = .ref a ∧ SqL X.K H1 a xs ∧ TabG H1 P ∧ R xs H1)
    (hR : ∀ xs H1 s1, R xs H1 → Inv X pins σ H1 s1 →
      ∃ (pz : Nat → Bool) (F : Nat → V), (∀ i y v, xs[i]? = some y → RelV y v → QT X s1 P scope x v ifs (pz i) ∧ (pz i = true → QE X s1 P scope x v elt (F i))) ∧
      ∀ g s5, GReady X pins σ H1 P g (passing pz xs.length 0).length (fun j u => ∃ i, (passing pz xs.length 0)[j]? = some i ∧ i < xs.length ∧ RelV (F i) u) s5 → Q' (.ref g) s5) :
    wpAny (model X.prog X.w) X.A (eval (.GeneratorExp elt [⟨.Name x px, iter, ifs, 0⟩] scope gpos) X.env) Q' X.xe s := by
  refine wpAny_GeneratorExp_walksQ hr.hd S.co (closure_ok S.free) S.cell S.dot S.loc S.kind (by have := hr.dp; omega) ?_ hs
  refine thn (hi.run pins s σ H _ I h) fun w1 s1 ⟨v1, H1, I1, r1, q1⟩ => ?_
  obtain ⟨a, xs, rfl, hq, ⟨ps, hP, ht⟩, q1⟩ := q1
  obtain ⟨pz, F, hel, hQ⟩ := hR xs H1 s1 q1 I1
  cases r1
  obtain ⟨its, rv, pl, hz⟩ := I1.list hq
  have hlen := rv.length
  have oP : s1.heap.get? P = some { cls := .none, data := .fields ps } := I1.hok P _ hP
  have Plt : P < s1.heap.objs.size := Heap.lt_size oP
  obtain ⟨oa, hoa, hca, hda⟩ := id pl.isList
  have alt : a < s1.heap.objs.size := Heap.lt_size hoa
  have naP : a ≠ P := by
    intro z
    rw [z, oP] at hoa
    cases hoa
    cases hca
  obtain ⟨Q0, eQ0⟩ : ∃ Q0 : Nat, Q0 = s1.heap.objs.size := ⟨_, rfl⟩
  refine wpAny_pyIter_list pl.isList ?_
  obtain ⟨h2, eh2⟩ : ∃ h2 : Heap, h2 = s1.heap.push { cls := .type "list_iterator", data := .fields #[.ref a, .int 0 0] } := ⟨_, rfl⟩
  rw [← eh2]
  have k2 : ∀ b o, s1.heap.get? b = some o → h2.get? b = some o := fun b o e => by
    rw [eh2]
    exact Heap.get?_push_of_some _ e
  have sz2 : h2.objs.size = s1.heap.objs.size + 1 := by
    rw [eh2]
    exact Heap.size_push _ _
  have oP2 := k2 _ _ oP
  have itr2 : h2.IsListIter s1.heap.objs.size a 0 := by
    rw [eh2]
    exact ⟨_, Heap.get?_push_size _ rfl, rfl, rfl⟩
  have lim2 : h2.NoLimit := by
    rw [eh2]
    exact I1.nolimit.push _
  have code2 : PySem.W.CodeHd h2 c P := TB.code.keeps fun b u e => k2 _ _ (I1.bk b u e)
  have ncs : cStatics ≠ P ∧ cStatics < s1.heap.objs.size := by
    obtain ⟨_, hns, _⟩ := I1.nolimit
    refine ⟨fun z => ?_, hns.lt⟩
    obtain ⟨o, es, ep, ho, hd, _⟩ := hns
    rw [z, oP] at ho
    cases ho
    cases hd
  -- from the heap in which the code object stands
  have cont : ∀ (code : Value) (h3 : Heap) (tk : Nat) (ps' : Array Value), Heap.ExtBut P h2 h3 → h2.objs.size ≤ h3.objs.size →
      h3.get? P = some { cls := .none, data := .fields ps' } → (∃ more, ps' = ps ++ more) → TriplesOk ps'.toList →
      wpAny (model X.prog X.w) X.A (builtinsFor X.env.globals X.env.builtins) (fun bi s₄ =>
        ∃ Ia fp wr n₀ Pf St₀ pz' F', Value.ref s1.heap.objs.size = .ref Ia ∧ (∀ A' : Around, A'.handled = none → Walks X.prog X.w A' Ia fp wr n₀ Pf St₀) ∧
          St₀ 0 s₄.heap ∧ (∀ b ∈ fp, b < s₄.heap.objs.size) ∧ s₄.heap.NoLimit ∧ cStatics ∉ wr ∧
          (∀ href : Heap, (∀ b o, s₄.heap.get? b = some o → href.get? b = some o) →
            QuietGen X.prog X.w (genEnv scope (cloFrom X.env.cells scope.names []) s₄.heap.objs.size code bi X.env) x ifs elt (List.range s₄.heap.objs.size) wr Pf pz' F' href) ∧
          (∀ g h₅ tk gs, gs.bare = true → s₄.heap.objs.size < g → h₅.objs.size = g + 1 → (∀ b o, s₄.heap.get? b = some o → h₅.get? b = some o) →
            WalksS X.prog X.w X.A.in4 g (g :: s₄.heap.objs.size :: List.range s₄.heap.objs.size) (s₄.heap.objs.size :: wr) (GenOnlyQ s₄.gens.size) (passing pz' n₀ 0).length
              (fun j y => ∃ i, (passing pz' n₀ 0)[j]? = some i ∧ F' i y)
              (GenAt X.prog X.w X.A.in4 g s₄.gens.size s₄.heap.objs.size (List.range s₄.heap.objs.size) wr pz' n₀ F') →
            GenAt X.prog X.w X.A.in4 g s₄.gens.size s₄.heap.objs.size (List.range s₄.heap.objs.size) wr pz' n₀ F' 0 { s₄ with gens := s₄.gens.push gs, toks := tk, heap := h₅ } →
            Q' (.ref g) { s₄ with gens := s₄.gens.push gs, toks := tk, heap := h₅ })) X.xe { s1 with heap := h3, toks := tk } := by
    intro code h3 tk ps' hx hsz hP3 hmore ht3
    have k3 : ∀ b o, b ≠ P → s1.heap.get? b = some o → h3.get? b = some o := fun b o n e => hx b o n (k2 _ _ e)
    obtain ⟨bm, ob, e1, e2, e3, e4, e5, e6, e7, e8⟩ := TB.bm
    have globK : h3.Ns X.env.globals X.mg := by
      rw [I1.ok.glob]
      obtain ⟨og, esg, epg, eg, rg⟩ := I1.mod.glob
      exact ⟨og, esg, epg, k3 _ _ TB.gP (I1.bk _ _ eg), rg⟩
    refine wpAny_builtinsFor (m := X.mg) globK e1 e2 (k3 _ _ e4 (I1.bk _ _ e5)) e6 e7 e8 ?_
    have ne0 : a ≠ s1.heap.objs.size := Nat.ne_of_lt alt
    have itr3 : h3.IsListIter s1.heap.objs.size a 0 := by
      obtain ⟨o, ho, r⟩ := itr2
      exact ⟨o, hx _ _ (Nat.ne_of_gt Plt) ho, r⟩
    have lst3 : h3.IsList a its.toArray := ⟨oa, k3 _ _ naP hoa, hca, hda⟩
    refine ⟨s1.heap.objs.size, _, _, its.toArray.size, _, _, pz, fun i u => RelV (F i) u ∧ i < xs.length, rfl,
      fun A' hA => Walks.list hA s1.heap.objs.size a ne0 its.toArray, ⟨itr3, lst3⟩, ?_, lim2.extBut hx ncs.1, ?_, ?_, ?_⟩
    · intro b hb
      show b < h3.objs.size
      have low : s1.heap.objs.size < h3.objs.size := by omega
      rcases List.mem_cons.mp hb with z | z
      · rw [z]
        exact low
      · rw [List.mem_singleton.mp z]
        exact Nat.lt_trans alt low
    · intro z
      have z' : cStatics = s1.heap.objs.size := List.mem_singleton.mp z
      exact Nat.ne_of_lt ncs.2 z'
    · intro href hhref
      have fr : ∀ (u : Value) (s₂ : Shared) (m₂ : Str → Option Value), s₂.heap.Ns h3.objs.size m₂ → m₂ x = some u →
          (∀ b ∈ List.range h3.objs.size, b ∉ [s1.heap.objs.size] → ∀ o, href.get? b = some o → s₂.heap.get? b = some o) →
          GFr X s1 P scope x u (genEnv scope (cloFrom X.env.cells scope.names []) h3.objs.size code builtinsNs X.env) s₂ := by
        intro u s₂ m₂ hn hm hk
        refine ⟨rfl, rfl, I1.ok.glob, rfl, ⟨m₂, hn, hm⟩, fun b o n e => ?_⟩
        have e3 := k3 b o n e
        refine hk b (List.mem_range.mpr (Heap.lt_size e3)) (fun z => ?_) o (hhref _ _ e3)
        have z' : b = s1.heap.objs.size := List.mem_singleton.mp z
        exact Nat.ne_of_lt (Heap.lt_size e) z'
      have nth : ∀ (i : Nat) (u : Value), its.toArray[i]? = some u → ∃ y, xs[i]? = some y ∧ RelV y u := by
        intro i u hu
        have hu' : its[i]? = some u := by simpa using hu
        cases hx : xs[i]? with
        | none =>
          rw [Vals.none_of rv hx] at hu'
          cases hu'
        | some y =>
          obtain ⟨u', h1, h2⟩ := rv.get hx
          rw [h1] at hu'
          cases hu'
          exact ⟨y, rfl, h2⟩
      refine ⟨fun A' E' i u s₂ m₂ hA hPv hn hm hk => ?_, fun A' E' i u s₂ m₂ hA hPv hp hn hm hk => ?_⟩
      · obtain ⟨y, g1, g2⟩ := nth i u hPv
        exact (hel i y u g1 g2).1 _ A' E' s₂ hA (fr u s₂ m₂ hn hm hk)
      · obtain ⟨y, g1, g2⟩ := nth i u hPv
        have lt : i < xs.length := (List.getElem?_eq_some_iff.mp g1).1
        exact wpAny_mono ((hel i y u g1 g2).2 hp _ A' E' s₂ hA (fr u s₂ m₂ hn hm hk)) (fun _ _ z => ⟨⟨z.1, lt⟩, z.2⟩) fun _ _ e => e
    · intro g h5 tk5 gs hgb hag hsz5 hk5 W5 hat
      have en : its.toArray.size = xs.length := by rw [List.size_toArray, hlen]
      rw [en] at W5 hat
      obtain ⟨more, em⟩ := hmore
      have W5' := (W5.in4_1)
      refine hQ g _ ⟨_, _, _, _, ⟨W5'.sub, W5'.grefl, W5'.gtrans, W5'.frame, fun i s' Q'' E'' hi hst hh => W5'.item i s' Q'' E'' hi hst fun v s'' ⟨i', h1, h2, h3⟩ => hh v s'' ⟨i', h1, h3, h2⟩, W5'.done, W5'.self⟩, hat, ?_, ?_⟩
      · intro b hb
        show b < h5.objs.size
        rw [hsz5]
        rcases List.mem_cons.mp hb with z | z
        · rw [z]
          exact Nat.lt_succ_self _
        · rcases List.mem_cons.mp z with z | z
          · rw [z]
            exact Nat.lt_succ_of_lt hag
          · exact Nat.lt_succ_of_lt (Nat.lt_trans (List.mem_range.mp z) hag)
      · intro s' mv
        have nw : ∀ b o, s1.heap.get? b = some o → b ∉ h3.objs.size :: [s1.heap.objs.size] := by
          intro b o e hb
          have lt := Heap.lt_size e
          rcases List.mem_cons.mp hb with z | z
          · rw [z] at lt
            exact absurd lt (Nat.not_lt.mpr (by omega))
          · rw [List.mem_singleton.mp z] at lt
            exact Nat.lt_irrefl _ lt
        have J := inv_tab (more := more) (h' := s'.heap) (g' := s'.gens) (d' := s'.drawn) (t' := s'.toks) I1 hP
          (fun b u hb e => mv.heap b u (nw b u e) (hk5 b u (k3 b u hb e)))
          (by rw [← em]; exact mv.heap P _ (nw P _ oP) (hk5 P _ hP3)) (AllBare.movedS (I1.bare.push hgb) mv)
        rw [sh_eta s1 s' mv.os] at J
        exact ⟨_, ⟨⟨ps ++ more, upd_same, by rw [← em]; exact ht3⟩, fun b hb => upd_ne hb⟩, J⟩
  refine ⟨lim2, ?_⟩
  cases hf : codeAmong gpos ps.toList with
  | none =>
    refine wpAny_genexprCodeX hcode (code2.code oP2 ht) (code2.tab oP2) hf ?_
    intro c' h' tk hx hge hlt hco' _ htab' _
    obtain ⟨_, _, _, _, _, _, _, _, _, _, _, _, _, _, _, _, _, _, _, htr, _⟩ := hco'
    exact cont _ h' tk _ hx (Nat.le_trans hge (Nat.le_of_lt hlt)) htab'.2 ⟨_, rfl⟩ htr
  | some cv =>
    refine wpAny_genexprCode_hit hcode (code2.code oP2 ht) hf ?_
    exact cont cv h2 s1.toks ps (Heap.ExtBut.refl _ _) (Nat.le_refl _) oP2 ⟨#[], by simp⟩ ht
end

/-! all(..), any(..) -/
section
variable {X : Cx} {pins : List (Addr × Obj)} {σ : L2.St} {H : Hp} {s : Shared}
def pick (l : List Nat) (p : Nat → Bool) (j : Nat) : Bool := match l[j]? with | some i => p i | none => false
theorem range_all (l : List Nat) (p : Nat → Bool) : (List.range l.length).all (pick l p) = l.all p := by
  rw [Bool.eq_iff_iff, List.all_eq_true, List.all_eq_true]
  constructor
  · intro h b hb
    obtain ⟨j, hj, e⟩ := List.getElem_of_mem hb
    have q := h j (List.mem_range.mpr hj)
    unfold pick at q
    rw [List.getElem?_eq_getElem hj, e] at q
    exact q
  · intro h j hj
    have hj' := List.mem_range.mp hj
    unfold pick
    rw [List.getElem?_eq_getElem hj']
    exact h _ (List.getElem_mem hj')
theorem range_any (l : List Nat) (p : Nat → Bool) : (List.range l.length).any (pick l p) = l.any p := by
  rw [Bool.eq_iff_iff, List.any_eq_true, List.any_eq_true]
  constructor
  · rintro ⟨j, hj, q⟩
    have hj' := List.mem_range.mp hj
    unfold pick at q
    rw [List.getElem?_eq_getElem hj'] at q
    exact ⟨_, List.getElem_mem hj', q⟩
  · rintro ⟨b, hb, q⟩
    obtain ⟨j, hj, e⟩ := List.getElem_of_mem hb
    refine ⟨j, List.mem_range.mpr hj, ?_⟩
    unfold pick
    rw [List.getElem?_eq_getElem hj, e]
    exact q
theorem truth_pick {prog : Program} {w : World} {A : Around} {l : List Nat} {p : Nat → Bool} {n : Nat} :
    TruthOf prog w A (fun j u => ∃ i, l[j]? = some i ∧ i < n ∧ RelV (.bl (p i)) u) (pick l p) := by
  intro j u s Q E hp hq
  obtain ⟨i, h1, _, h2⟩ := hp
  cases h2
  unfold pick at hq
  rw [h1] at hq
  exact wpAny_truthy_bool hq
/-- what a test over a list, item by item, asks: pz keeps the i-th, pb is what it gives -/
def tGen (X : Cx) (P : Addr) (scope : Scope) (x : Str) (ifs : List Expr) (elt : Expr) (f : List Nat → (Nat → Bool) → Bool) (te : TE) : TE :=
  fun σ H Q => te σ H fun v H1 => ∃ (a : Addr) (xs : List V), v = .ref a ∧ SqL X.K H1 a xs ∧ TabG H1 P ∧ ∃ (pz pb : Nat → Bool),
    (∀ pins s1, Inv X pins σ H1 s1 → ∀ i y v, xs[i]? = some y → RelV y v → QT X s1 P scope x v ifs (pz i) ∧ (pz i = true → QE X s1 P scope x v elt (.bl (pb i)))) ∧
    ∀ H2, Tabbed P H1 H2 → Q (.bl (f ((List.range xs.length).filter pz) pb)) H2
theorem pe_allL {c P : Addr} {elt iter : Expr} {ifs : List Expr} {x : Str} {px p pos gpos : Pos} {scope : Scope} {te : TE} {k : Nat}
    (hr : Room k X.A) (hg : Gl X "all") (hm : X.mg "all" = none) (hb : bootBuiltins "all" = some (.builtin "all"))
    (TB : TabB X.base X.mg c P) (hcode : X.env.code = .ref c) (S : GenS X.env scope x) (hi : PE X iter te)
    (hs : ∀ v, genFold iter X.env v = pure v)
    (he : starEach [.GeneratorExp elt [⟨.Name x px, iter, ifs, 0⟩] scope gpos] X.env =
      (false, eval (.GeneratorExp elt [⟨.Name x px, iter, ifs, 0⟩] scope gpos) X.env) :: starEach [] X.env := by rfl) :
    PE X (.Call (.Name "all" p) [.GeneratorExp elt [⟨.Name x px, iter, ifs, 0⟩] scope gpos] [] pos) (tGen X P scope x ifs elt List.all te) := by
  refine ⟨fun pins s σ H Q I h => ?_⟩
  refine wpAny_Call_Name_kw (ld_blt I hg hm hb ?_)
  refine PyProof.Rows.callWith_builtin1 ?_ he (by rfl)
  rw [he]
  refine Calls.spliced_cons (gen_list hr TB hcode S hi hs I h fun xs H1 s1 ⟨pz, pb, hel, q⟩ I1 => ?_)
  refine ⟨pz, fun i => .bl (pb i), fun i y v g1 g2 => hel pins s1 I1 i y v g1 g2, fun g s5 hG => ?_⟩
  obtain ⟨fp, wr, G, St, W, hst, _, hI⟩ := hG
  refine Calls.spliced_nil ?_
  refine call_all_walkS (W.self 0 _ _ _ hst ⟨g, fp, wr, G, _, _, St, _, rfl, W, hst, truth_pick, fun s' mv => ?_⟩)
  obtain ⟨H2, hT, J⟩ := hI s' mv
  refine ⟨.bl _, H2, J, rfl, ?_⟩
  rw [range_all]
  exact q H2 hT
theorem pe_anyL {c P : Addr} {elt iter : Expr} {ifs : List Expr} {x : Str} {px p pos gpos : Pos} {scope : Scope} {te : TE} {k : Nat}
    (hr : Room k X.A) (hg : Gl X "any") (hm : X.mg "any" = none)
    (TB : TabB X.base X.mg c P) (hcode : X.env.code = .ref c) (S : GenS X.env scope x) (hi : PE X iter te)
    (hs : ∀ v, genFold iter X.env v = pure v)
    (he : starEach [.GeneratorExp elt [⟨.Name x px, iter, ifs, 0⟩] scope gpos] X.env =
      (false, eval (.GeneratorExp elt [⟨.Name x px, iter, ifs, 0⟩] scope gpos) X.env) :: starEach [] X.env := by rfl) :
    PE X (.Call (.Name "any" p) [.GeneratorExp elt [⟨.Name x px, iter, ifs, 0⟩] scope gpos] [] pos) (tGen X P scope x ifs elt List.any te) := by
  refine ⟨fun pins s σ H Q I h => ?_⟩
  refine wpAny_Call_Name_kw (ld_blt I hg hm boot_any ?_)
  refine PyProof.Rows.callWith_builtin1 ?_ he (by rfl)
  rw [he]
  refine Calls.spliced_cons (gen_list hr TB hcode S hi hs I h fun xs H1 s1 ⟨pz, pb, hel, q⟩ I1 => ?_)
  refine ⟨pz, fun i => .bl (pb i), fun i y v g1 g2 => hel pins s1 I1 i y v g1 g2, fun g s5 hG => ?_⟩
  obtain ⟨fp, wr, G, St, W, hst, _, hI⟩ := hG
  refine Calls.spliced_nil ?_
  refine call_any_walkS (W.self 0 _ _ _ hst ⟨g, fp, wr, G, _, _, St, _, rfl, W, hst, truth_pick, fun s' mv => ?_⟩)
  obtain ⟨H2, hT, J⟩ := hI s' mv
  refine ⟨.bl _, H2, J, rfl, ?_⟩
  rw [range_any]
  exact q H2 hT
end

/-! a def that holds generator expressions: its code object is told -/
def genB (sc scope : Scope) (x : Str) : Bool :=
  decide (scope.kind = .function) && !scope.isCoroutine && (scope.names.all fun y => !decide (y.2 = .cell)) &&
  decide (scope.names.lookup (".0" : Str) = some NameKind.local) && decide (scope.names.lookup x = some NameKind.local) &&
  scope.names.all fun y => !decide (y.2 = .free) || decide (sc.names.lookup y.1 = some .cell)
theorem genS_by {qual : Str} {sc scope : Scope} {L f : Addr} {cd : Value} {x : Str} (h : genB sc scope x = true) : GenS (envOfC qual sc L f cd) scope x := by
  unfold genB at h
  simp only [Bool.and_eq_true, Bool.or_eq_true, Bool.not_eq_true', decide_eq_true_eq, decide_eq_false_iff_not, List.all_eq_true] at h
  obtain ⟨⟨⟨⟨⟨h1, h2⟩, h3⟩, h4⟩, h5⟩, h6⟩ := h
  refine ⟨h1, h2, h3, h4, h5, fun y hy e => ?_⟩
  rcases h6 y hy with z | z
  · exact absurd e z
  · exact cell_has z
structure FunC (K : PySem.W.Frag) (x qual : Str) (st : Stmt) (f : Addr) (fd : FuncData) (c : Addr) : Prop where
  ex : ∃ (oc : Value) (od : Option Addr) (kV doc pm : Value) (an : Option Addr) (ct : Value) (osl : Array (Option Value)),
    fd = PySem.W.fnOf x qual (defArgs st) (defBody st) (defScope st) .none kV doc pm an (.ref c) ct ∧ K.lookup f = some ⟨oc, od, .func fd, osl⟩ ∧ PySem.W.codeIn K (.ref c) qual = true
  kp : PySem.W.keepIn K (.ref f) = true
theorem FunC.plain {K : PySem.W.Frag} {x qual : Str} {st : Stmt} {f : Addr} {fd : FuncData} {c : Addr} (F : FunC K x qual st f fd c) : Fun K x qual st f fd := by
  obtain ⟨oc, od, kV, doc, pm, an, ct, osl, e, l, h⟩ := F.ex
  exact ⟨⟨oc, od, kV, doc, pm, an, _, ct, osl, e, l, h⟩, F.kp⟩
theorem funC_mk {K : PySem.W.Frag} {x qual : Str} {st : Stmt} {f c : Addr} {oc : Value} {od an : Option Addr} {osl : Array (Option Value)} {kV doc pm ct : Value}
    (l : K.lookup f = some ⟨oc, od, .func (PySem.W.fnOf x qual (defArgs st) (defBody st) (defScope st) .none kV doc pm an (.ref c) ct), osl⟩)
    (h : PySem.W.codeIn K (.ref c) qual = true) (k : PySem.W.keepIn K (.ref f) = true) :
    FunC K x qual st f (PySem.W.fnOf x qual (defArgs st) (defBody st) (defScope st) .none kV doc pm an (.ref c) ct) c :=
  ⟨⟨oc, od, kV, doc, pm, an, ct, osl, rfl, l, h⟩, k⟩
theorem FunC.ok {P : Program} {w : World} {K : PySem.W.Frag} {mg : Str → Option Value} {base : Heap} {x qual : Str} {st : Stmt} {f : Addr} {fd : FuncData} {c : Addr}
    {N ps : List Str} {k : Nat} {sp : Sp} (F : FunC K x qual st f fd c) (S : FnScope N ps (defScope st)) (len : ∀ vs H Q E, sp vs H Q E → vs.length = ps.length)
    (hbody : ∀ (A : Around) (outer : List Env) (s : Shared) (H : Hp) (vs : List V) (Q : VK) (E : XK),
      Room k (A.deeper (envOfC qual (defScope st) s.heap.objs.size f (.ref c))) → sp vs H Q E →
      ∃ t, PSs (cxOf CX0 P w K mg base N qual (defScope st) f (.ref c) A outer s H E).nox (defBody st) t ∧ t { nx := fun _ H' => Q .non H', rt := Q } (start N vs) H) :
    FnOk P w K mg base CX0 (k + 1) f fd ps sp := by
  obtain ⟨oc, od, kV, doc, pm, an, ct, osl, rfl, lk, hcd⟩ := F.ex
  refine fn_of lk hcd S len ?_
  intro A outer s H vs Q E hr hsp
  obtain ⟨t, h, q⟩ := hbody A outer s H vs Q E hr hsp
  exact ⟨t, h.nox, q⟩
end Own

set_option Elab.async false
set_option linter.all false
set_option maxRecDepth 100000
namespace Own
open PySem PySem.Spec PyProof.Rows L2
/-! what goes on from heap to heap: all but tables stays; the tables Ps stay tables -/
structure Ext (Ps : List Addr) (H H' : Hp) : Prop where
  o : ∀ b o, H b = some o → (∀ ps, o ≠ .tbl ps) → H' b = some o
  t : ∀ P ∈ Ps, GxR.TabG H P → GxR.TabG H' P
  f : ∀ b, H' b = none → H b = none
section
variable {Ps : List Addr} {H H1 H2 H' : Hp} {K : PySem.W.Frag}
theorem Ext.refl : Ext Ps H H := ⟨fun _ _ e _ => e, fun _ _ h => h, fun _ h => h⟩
theorem Ext.trans (a : Ext Ps H H1) (b : Ext Ps H1 H2) : Ext Ps H H2 :=
  ⟨fun c o e n => b.o c o (a.o c o e n) n, fun P hP h => b.t P hP (a.t P hP h), fun c h => a.f c (b.f c h)⟩
theorem Ext.of (s : Same H H') : Ext Ps H H' := ⟨fun b o e _ => s b o e, fun P _ ⟨ps, h1, h2⟩ => ⟨ps, s _ _ h1, h2⟩, fun _ h => s.free h⟩
theorem same_new {p : Addr} {o : HO} (h : H p = none) : Same H (upd H p o) := fun b x e => by
  rw [upd_ne (ne_of_none e h)]
  exact e
theorem Ext.new {p : Addr} {o : HO} (h : H p = none) : Ext Ps H (upd H p o) := .of (same_new h)
/-- something that was not there at first is written -/
theorem Ext.put {p : Addr} {o : HO} (e : Ext Ps H H1) (h : H p = none) : Ext Ps H (upd H1 p o) := by
  refine ⟨fun b x q n => ?_, fun P hP hT => ?_, fun b q => ?_⟩
  · rw [upd_ne (ne_of_none q h)]
    exact e.o b x q n
  · obtain ⟨ps, h1, h2⟩ := e.t P hP hT
    obtain ⟨qs, g1, _⟩ := hT
    exact ⟨ps, by rw [upd_ne (ne_of_none g1 h)]; exact h1, h2⟩
  · by_cases z : b = p
    · rw [z]
      exact h
    · rw [upd_ne z] at q
      exact e.f b q
theorem Ext.tab {P : Addr} (hT : GxR.TabG H P) (h : GxR.Tabbed P H H') : Ext Ps H H' := by
  obtain ⟨h1, h2⟩ := h
  refine ⟨fun b o e n => ?_, fun Q hQ hTQ => ?_, fun b q => ?_⟩
  · rw [h2 b]
    · exact e
    · intro z
      obtain ⟨ps, g, _⟩ := hT
      rw [z, g] at e
      exact n ps (Option.some.inj e).symm
  · by_cases z : Q = P
    · rw [z]
      exact h1
    · obtain ⟨ps, g1, g2⟩ := hTQ
      exact ⟨ps, by rw [h2 Q z]; exact g1, g2⟩
  · by_cases z : b = P
    · obtain ⟨ps, g, _⟩ := h1
      rw [z, g] at q
      cases q
    · rw [h2 b z] at q
      exact q
theorem Ext.seq {a : Addr} {xs : List V} (e : Ext Ps H H') (h : SqL K H a xs) : SqL K H' a xs := by
  rcases h with (h | ⟨o, h⟩) | h
  · exact .inl (.inl (e.o _ _ h (fun _ z => by cases z)))
  · exact .inl (.inr ⟨o, e.o _ _ h (fun _ z => by cases z)⟩)
  · exact .inr h
theorem Ext.tup {a : Addr} {xs : List V} (e : Ext Ps H H') (h : SqT K H a xs) : SqT K H' a xs := by
  rcases h with (h | ⟨o, h⟩) | h
  · exact .inl (.inl (e.o _ _ h (fun _ z => by cases z)))
  · exact .inl (.inr ⟨o, e.o _ _ h (fun _ z => by cases z)⟩)
  · exact .inr h
theorem Ext.lst {a : Addr} {xs : List V} (e : Ext Ps H H') (h : H a = some (.lst xs)) : H' a = some (.lst xs) := e.o _ _ h (fun _ z => by cases z)
theorem Ext.tp {a : Addr} {xs : List V} (e : Ext Ps H H') (h : H a = some (.tup xs)) : H' a = some (.tup xs) := e.o _ _ h (fun _ z => by cases z)
theorem Ext.ins {a C dx : Addr} {fs : List (Str × V)} (e : Ext Ps H H') (h : H a = some (.ins C dx fs)) : H' a = some (.ins C dx fs) := e.o _ _ h (fun _ z => by cases z)
/-- a list of things, each told of by its own word -/
def Each (K : PySem.W.Frag) (H : Hp) (as : List Addr) (ts : List (List Int)) : Prop := Paired (fun b r => SqT K H b (r.map V.int)) as ts
/-- a list of tuples of ints -/
def Rows (K : PySem.W.Frag) (H : Hp) (a : Addr) (ts : List (List Int)) : Prop := ∃ as : List Addr, SqL K H a (as.map V.ref) ∧ Each K H as ts
theorem Ext.each (e : Ext Ps H H') : ∀ {as : List Addr} {ts : List (List Int)}, Each K H as ts → Each K H' as ts
  | _, _, .nil => .nil
  | _, _, .cons h t => .cons (e.tup h) (Ext.each e t)
theorem Ext.rows {a : Addr} {ts : List (List Int)} (e : Ext Ps H H') (h : Rows K H a ts) : Rows K H' a ts := by
  obtain ⟨as, h1, h2⟩ := h
  exact ⟨as, e.seq h1, e.each h2⟩
theorem Each.len {as : List Addr} {ts : List (List Int)} (h : Each K H as ts) : as.length = ts.length := Paired.length h
theorem Each.at : ∀ {as : List Addr} {ts : List (List Int)} {i : Nat} {r : List Int}, Each K H as ts → ts[i]? = some r → ∃ b, as[i]? = some b ∧ SqT K H b (r.map V.int)
  | _, _, _, _, .nil, h => by simp at h
  | b :: _, t :: _, 0, r, .cons h _, e => by
    have e' : t = r := Option.some.inj e
    subst e'
    exact ⟨b, rfl, h⟩
  | _ :: _, _ :: _, i + 1, r, .cons _ t, e => by
    obtain ⟨b, h1, h2⟩ := Each.at (i := i) (r := r) t (by simpa using e)
    exact ⟨b, by simpa using h1, h2⟩
theorem Each.on : ∀ {as : List Addr} {ts : List (List Int)} {i : Nat} {b : Addr}, Each K H as ts → as[i]? = some b → ∃ r, ts[i]? = some r ∧ SqT K H b (r.map V.int)
  | _, _, _, _, .nil, h => by simp at h
  | c :: _, t :: _, 0, b, .cons h _, e => by
    have e' : c = b := Option.some.inj e
    subst e'
    exact ⟨t, rfl, h⟩
  | _ :: _, _ :: _, i + 1, b, .cons _ t, e => by
    obtain ⟨r, h1, h2⟩ := Each.on (i := i) (b := b) t (by simpa using e)
    exact ⟨r, by simpa using h1, h2⟩
theorem Each.snoc : ∀ {as : List Addr} {ts : List (List Int)} {b : Addr} {r : List Int}, Each K H as ts → SqT K H b (r.map V.int) → Each K H (as ++ [b]) (ts ++ [r])
  | _, _, _, _, .nil, h => .cons h .nil
  | _, _, _, _, .cons q t, h => .cons q (Each.snoc t h)
theorem Each.app : ∀ {as bs : List Addr} {ts us : List (List Int)}, Each K H as ts → Each K H bs us → Each K H (as ++ bs) (ts ++ us)
  | _, _, _, _, .nil, h => h
  | _, _, _, _, .cons q t, h => .cons q (Each.app t h)
theorem Each.take : ∀ {as : List Addr} {ts : List (List Int)} (n : Nat), Each K H as ts → Each K H (as.take n) (ts.take n)
  | _, _, 0, _ => .nil
  | _, _, _ + 1, .nil => .nil
  | _, _, n + 1, .cons q t => .cons q (Each.take n t)
theorem Each.drop : ∀ {as : List Addr} {ts : List (List Int)} (n : Nat), Each K H as ts → Each K H (as.drop n) (ts.drop n)
  | _, _, 0, h => h
  | _, _, _ + 1, .nil => .nil
  | _, _, n + 1, .cons _ t => Each.drop n t
/-- the i-th value of such a list -/
theorem Each.val {as : List Addr} {ts : List (List Int)} {i : Nat} {x : V} (h : Each K H as ts) (e : (as.map V.ref)[i]? = some x) : ∃ b r, x = .ref b ∧ as[i]? = some b ∧ ts[i]? = some r ∧ SqT K H b (r.map V.int) := by
  rw [List.getElem?_map] at e
  obtain ⟨b, hb, rfl⟩ := Option.map_eq_some_iff.mp e
  obtain ⟨r, h1, h2⟩ := h.on hb
  exact ⟨b, r, rfl, hb, h1, h2⟩
end

section
variable {X : Cx}
/-- a constant of the module: an int, a text -/
theorem pe_ci {x : Str} {i : Int} {t : Tok} {pos : Pos} (hg : Gl X x) (hm : X.mg x = some (.int i t)) (hd : (x == ("__debug__" : Str)) = false := by decide) :
    PE X (.Name x pos) (tC (.int i)) := pe_glob hg hm ⟨t, rfl⟩ hd
theorem pe_cs {x : Str} {z : Str} {t : Tok} {pos : Pos} (hg : Gl X x) (hm : X.mg x = some (.str z t)) (hd : (x == ("__debug__" : Str)) = false := by decide) :
    PE X (.Name x pos) (tC (.str z)) := pe_glob hg hm ⟨t, rfl⟩ hd
end
section
/-! the rules with the written part named: for use within a comprehension's block -/
theorem ixL (K : PySem.W.Frag) {X : Cx} (h : X.K = K := by rfl) : IxR X (rIxL K) := by
  subst h
  exact ix_list
theorem ixT (K : PySem.W.Frag) {X : Cx} (h : X.K = K := by rfl) : IxR X (rIxT K) := by
  subst h
  exact ix_tup
theorem slL (K : PySem.W.Frag) {X : Cx} (h : X.K = K := by rfl) : SlR X (rSlL K) := by
  subst h
  exact sl_list
theorem slT (K : PySem.W.Frag) {X : Cx} (h : X.K = K := by rfl) : SlR X (rSlT K) := by
  subst h
  exact sl_tup
def rLenQ (K : PySem.W.Frag) : List V → Hp → VK → Prop := fun xs H Q => ∃ p ys, xs = [.ref p] ∧ (SqL K H p ys ∨ SqT K H p ys) ∧ Q (.int ys.length) H
theorem lenQ (K : PySem.W.Frag) {X : Cx} (h : X.K = K := by rfl) : CallR X (.builtin "len") (rLenQ K) := by
  subst h
  exact call_len_seq
theorem minL (K : PySem.W.Frag) {X : Cx} (hc : X.calm = true) (h : X.K = K := by rfl) : CallR X (.builtin "min") (rMin K) := by
  subst h
  exact cr_min hc
theorem maxL (K : PySem.W.Frag) {X : Cx} (hc : X.calm = true) (h : X.K = K := by rfl) : CallR X (.builtin "max") (rMax K) := by
  subst h
  exact cr_max hc
theorem sumL (K : PySem.W.Frag) {X : Cx} (hc : X.calm = true) (h : X.K = K := by rfl) : CallR X (.builtin "sum") (rSum K) := by
  subst h
  exact cr_sum hc
theorem inS (K : PySem.W.Frag) {X : Cx} (h : X.K = K := by rfl) : OpR X (compareOp .In) (rIn K false) := by
  subst h
  exact op_in_seq
theorem ninS (K : PySem.W.Frag) {X : Cx} (h : X.K = K := by rfl) : OpR X (compareOp .NotIn) (rIn K true) := by
  subst h
  exact op_notIn_seq
theorem eqD (K : PySem.W.Frag) {X : Cx} (hu : X.A.units + 64 < cLine) (h : X.K = K := by rfl) : OpR X (compareOp .Eq) (rEqD K) := by
  subst h
  exact op_eqD hu
theorem neD (K : PySem.W.Frag) {X : Cx} (hu : X.A.units + 64 < cLine) (h : X.K = K := by rfl) : OpR X (compareOp .NotEq) (rNeD K) := by
  subst h
  exact op_neD hu
theorem cntL (K : PySem.W.Frag) {X : Cx} (h : X.K = K := by rfl) : MtR X "list.count" (rCntI K) := by
  subst h
  exact mt_lcount
def rListOf (K : PySem.W.Frag) : List V → Hp → VK → Prop := fun xs H Q => ∃ p ys, xs = [.ref p] ∧ (SqL K H p ys ∨ SqT K H p ys) ∧ ∀ l, H l = none → Q (.ref l) (upd H l (.lst ys))
theorem listOf (K : PySem.W.Frag) {X : Cx} (h : X.K = K := by rfl) : CallR X (.type "list") (rListOf K) := by
  subst h
  exact call_list_of
theorem isiO (K : PySem.W.Frag) {X : Cx} (h : X.K = K := by rfl) : CallR X (.builtin "isinstance") (rIsi K) := by
  subst h
  exact call_isi
theorem catT (K : PySem.W.Frag) {X : Cx} (h : X.K = K := by rfl) : OpR X (binaryOp .Add) (rCatT K) := by
  subst h
  exact op_catT
theorem bmC (K : PySem.W.Frag) {X : Cx} {e : Expr} {T : String} {to : TE} {t : TA} {r : V → List V → Hp → VK → Prop}
    (p : PE X e (tBM X.K T r to t)) (h : X.K = K := by rfl) : PE X e (tBM K T r to t) := by
  subst h
  exact p
theorem bm0C (K : PySem.W.Frag) {X : Cx} {e : Expr} {T : String} {to : TE} {r : V → List V → Hp → VK → Prop}
    (p : PE X e (tBM0 X.K T r to)) (h : X.K = K := by rfl) : PE X e (tBM0 K T r to) := by
  subst h
  exact p
theorem fldC (K : PySem.W.Frag) {X : Cx} {e : Expr} {f : Str} {ta : TE}
    (p : PE X e (tFld X.K ta f)) (h : X.K = K := by rfl) : PE X e (tFld K ta f) := by
  subst h
  exact p
end
theorem yesT {σ : L2.St} {H : Hp} {A B : Hp → Prop} (h : A H) : tYes σ H (fun b H3 => if b = true then A H3 else B H3) := by
  show if true = true then A H else B H
  rw [if_pos rfl]
  exact h
/-- a tuple stays where something that is no tuple is written -/
theorem tup_upd {K : PySem.W.Frag} {H : Hp} {a D : Addr} {o u : HO} {xs : List V} (hD : H D = some u) (h1 : ∀ ys, u ≠ .tup ys) (h2 : ∀ o ys, u ≠ .frz o (.tup ys)) (h : SqT K H a xs) : SqT K (upd H D o) a xs := by
  rcases h with (h | ⟨ob, h⟩) | h
  · exact .inl (.inl (by rw [upd_ne (fun z => by rw [z, hD] at h; exact h1 _ (Option.some.inj h))]; exact h))
  · exact .inl (.inr ⟨ob, by rw [upd_ne (fun z => by rw [z, hD] at h; exact h2 _ _ (Option.some.inj h))]; exact h⟩)
  · exact .inr h
/-! slices by places -/
theorem cut_ij (xs : List V) (i j : Nat) : cutV xs (some (i : Int)) (some (j : Int)) = (xs.drop i).take (j - i) := by
  unfold cutV
  rw [HT.sIx_nat, HT.sIx_nat]
  by_cases h : i ≤ xs.length
  · rw [Nat.min_eq_left h]
    by_cases g : j ≤ xs.length
    · rw [Nat.min_eq_left g]
    · rw [Nat.min_eq_right (by omega), List.take_of_length_le (by rw [List.length_drop]; exact Nat.le_refl _), List.take_of_length_le (by rw [List.length_drop]; omega)]
  · rw [List.drop_of_length_le (by omega), List.drop_of_length_le (by omega), List.take_nil, List.take_nil]
theorem cut_j (xs : List V) (j : Nat) : cutV xs none (some (j : Int)) = xs.take j := by
  unfold cutV
  rw [HT.sIx_nat, HT.sIx_none, List.drop_zero, Nat.sub_zero]
  by_cases g : j ≤ xs.length
  · rw [Nat.min_eq_left g]
  · rw [Nat.min_eq_right (by omega), List.take_of_length_le (Nat.le_refl _), List.take_of_length_le (by omega)]
theorem cut_i (xs : List V) (i : Nat) : cutV xs (some (i : Int)) none = xs.drop i := by
  unfold cutV
  rw [HT.sIx_nat, HT.sIx_none]
  by_cases h : i ≤ xs.length
  · rw [Nat.min_eq_left h, List.take_of_length_le (by rw [List.length_drop]; exact Nat.le_refl _)]
  · rw [List.drop_of_length_le (by omega), List.drop_of_length_le (by omega), List.take_nil]
/-- for i, x in enumerate(a list that the body leaves as it is) -/
theorem for_enum {K : PySem.W.Frag} {a : Addr} {xs : List V} {g : TG} {tb : TS} {D : Ends} {σ : L2.St} {H : Hp} (Pv : Nat → L2.St → Hp → Prop)
    (h0 : Pv 0 σ H) (hl : ∀ i σ H, i ≤ xs.length → Pv i σ H → SqL K H a xs)
    (hs : ∀ i x σ H T, xs[i]? = some x → Pv i σ H → H T = none → g (.ref T) σ (upd H T (.tup [.int (i : Nat), x])) fun σ2 H2 =>
      tb { D with nx := Pv (i + 1), ct := Pv (i + 1), bk := D.nx } σ2 H2)
    (hd : ∀ σ H, Pv xs.length σ H → D.nx σ H) :
    ∃ W : Nat → Nat → L2.St → Hp → Prop, (∃ m, W 0 m σ H) ∧ ∀ i m σ H, W i m σ H → ((Ite K a).stop i H ∧ D.nx σ H) ∨
      ((Ite K a).go i H ∧ ∃ N : L2.St → Hp → Prop, (∀ σ' H', N σ' H' → ∃ m', m' < m ∧ W (i + 1) m' σ' H') ∧
        ∀ x H', (Ite K a).yld i H x H' → g x σ H' fun σ2 H2 => tb { D with nx := N, ct := N, bk := D.nx } σ2 H2) := by
  refine ⟨fun i m σ H => m + i = xs.length ∧ Pv i σ H, ⟨_, Nat.add_zero _, h0⟩, fun i m σ H hw => ?_⟩
  obtain ⟨hm, p⟩ := hw
  have here := hl i σ H (by omega) p
  rcases Nat.lt_or_ge i xs.length with lt | ge
  · refine .inr ⟨⟨xs, xs[i], here, List.getElem?_eq_getElem lt⟩, Pv (i + 1), fun σ' H' p' => ⟨m - 1, by omega, by omega, p'⟩, ?_⟩
    rintro v H' ⟨T, x, rfl, hT, rfl, hx⟩
    exact hs i x σ H T (hx xs here) p hT
  · have e : i = xs.length := by omega
    rw [e] at p
    exact .inl ⟨⟨xs, here, ge⟩, hd σ H p⟩
end Own

set_option Elab.async false
set_option linter.all false
namespace K08
/-! the mathematics: ends, the count, goodness -/
abbrev Row := List Int
def ends (ts : List Row) (sd : Nat) : List Int := ts.map (·.getD sd 0)
def most (es : List Int) : Nat := (es.map es.count).foldl max 0
theorem foldl_max_ge (l : List Nat) : ∀ a, a ≤ l.foldl max a := by
  induction l with
  | nil => intro a; exact Nat.le_refl _
  | cons x r ih => intro a; exact Nat.le_trans (Nat.le_max_left a x) (ih (max a x))
theorem foldl_max_mem (l : List Nat) : ∀ a x, x ∈ l → x ≤ l.foldl max a := by
  induction l with
  | nil => intro a x h; cases h
  | cons y r ih =>
    intro a x h
    rcases List.mem_cons.mp h with e | h
    · subst e
      exact Nat.le_trans (Nat.le_max_right a x) (foldl_max_ge r _)
    · exact ih _ x h
theorem foldl_max_in (l : List Nat) : ∀ a, l.foldl max a = a ∨ l.foldl max a ∈ l := by
  induction l with
  | nil => intro a; exact .inl rfl
  | cons y r ih =>
    intro a
    rcases ih (max a y) with e | e
    · rcases Nat.le_total a y with h | h
      · right
        show r.foldl max (max a y) ∈ y :: r
        rw [e, Nat.max_eq_right h]
        exact List.mem_cons_self
      · left
        show r.foldl max (max a y) = a
        rw [e, Nat.max_eq_left h]
    · exact .inr (List.mem_cons_of_mem _ e)
theorem most_ge {es : List Int} {e : Int} (h : e ∈ es) : es.count e ≤ most es := foldl_max_mem _ _ _ (List.mem_map.mpr ⟨e, h, rfl⟩)
theorem most_in (es : List Int) : most es = 0 ∨ ∃ e ∈ es, most es = es.count e := by
  rcases foldl_max_in (es.map es.count) 0 with h | h
  · exact .inl h
  · obtain ⟨e, he, q⟩ := List.mem_map.mp h
    exact .inr ⟨e, he, q.symm⟩
/-- a number that is the count of some end, and no end's is greater -/
theorem most_is {es : List Int} {m : Int} (h0 : es = [] → m = 0) (h1 : es ≠ [] → (∃ e ∈ es, m = (es.count e : Nat)) ∧ ∀ e ∈ es, ((es.count e : Nat) : Int) ≤ m) : m = (most es : Nat) := by
  by_cases e : es = []
  · rw [h0 e, e]
    rfl
  · obtain ⟨⟨x, hx, rfl⟩, hg⟩ := h1 e
    have a := most_ge hx
    rcases most_in es with z | ⟨y, hy, q⟩
    · omega
    · have := hg y hy
      omega
def count (ts : List Row) : Nat := max (most (ends ts 0)) (most (ends ts 1))
def keys (ts : List Row) (sd : Nat) : List Row := ts.map fun r => [r.getD sd 0, r.getD 2 0]
def good (ts : List Row) : Bool := (ts.all fun r => decide (r.getD 2 0 < (count ts : Nat))) && decide (keys ts 0).Nodup && decide (keys ts 1).Nodup
def meets (a b : Row) : Bool := decide (a.getD 2 0 = b.getD 2 0) && (decide (a.getD 0 0 = b.getD 0 0) || decide (a.getD 1 0 = b.getD 1 0))
/-- the law's own look: no later row meets an earlier one with the same hue -/
def apart (ts : List Row) : Bool := (List.range ts.length).all fun k => (ts.take k).all fun o => !meets o (ts.getD k [])
def due (ts : List Row) : Bool := apart ts && ts.all fun r => decide (r.getD 2 0 < (count ts : Nat))
theorem nodup_keys {ts : List Row} {sd : Nat} : (keys ts sd).Nodup ↔ ∀ (k : Nat) (a : Row), ts[k]? = some a → ∀ o ∈ ts.take k, ¬ (o.getD 2 0 = a.getD 2 0 ∧ o.getD sd 0 = a.getD sd 0) := by
  unfold keys
  rw [List.nodup_iff_pairwise_ne, List.pairwise_map, List.pairwise_iff_getElem]
  constructor
  · intro h k a hk o ho ⟨e1, e2⟩
    obtain ⟨i, hi, e⟩ := List.getElem_of_mem ho
    obtain ⟨hk', ek⟩ := List.getElem?_eq_some_iff.mp hk
    rw [List.length_take] at hi
    rw [List.getElem_take] at e
    refine h i k (by omega) hk' (by omega) ?_
    rw [e, ek, e1, e2]
  · intro h i j hi hj hij e
    have e1 := (List.cons.inj e).1
    have e2 := (List.cons.inj (List.cons.inj e).2).1
    exact h j ts[j] (List.getElem?_eq_getElem hj) ts[i] (List.mem_take_iff_getElem.mpr ⟨i, by omega, rfl⟩) ⟨e2, e1⟩
theorem good_due (ts : List Row) : good ts = due ts := by
  have key : (decide (keys ts 0).Nodup && decide (keys ts 1).Nodup) = apart ts := by
    rw [Bool.eq_iff_iff, Bool.and_eq_true, decide_eq_true_eq, decide_eq_true_eq, nodup_keys, nodup_keys]
    unfold apart
    rw [List.all_eq_true]
    constructor
    · rintro ⟨h0, h1⟩ k hk
      have hk' := List.mem_range.mp hk
      rw [List.all_eq_true]
      intro o ho
      have ek : ts[k]? = some ts[k] := List.getElem?_eq_getElem hk'
      have g : ts.getD k [] = ts[k] := by rw [List.getD_eq_getElem?_getD, ek]; rfl
      have a := h0 k _ ek o ho
      have b := h1 k _ ek o ho
      rw [g]
      unfold meets
      simp only [Bool.not_eq_true', Bool.and_eq_false_iff, decide_eq_false_iff_not, Bool.or_eq_false_iff]
      by_cases c : o.getD 2 0 = ts[k].getD 2 0
      · exact .inr ⟨fun z => a ⟨c, z⟩, fun z => b ⟨c, z⟩⟩
      · exact .inl c
    · intro h
      have one : ∀ (k : Nat) (a : Row), ts[k]? = some a → ∀ o ∈ ts.take k, meets o a = false := by
        intro k a hk o ho
        obtain ⟨hk', ek⟩ := List.getElem?_eq_some_iff.mp hk
        have q := List.all_eq_true.mp (h k (List.mem_range.mpr hk')) o ho
        have g : ts.getD k [] = a := by rw [List.getD_eq_getElem?_getD, hk]; rfl
        rw [g] at q
        simpa using q
      refine ⟨fun k a hk o ho ⟨e1, e2⟩ => ?_, fun k a hk o ho ⟨e1, e2⟩ => ?_⟩
      · have q := one k a hk o ho
        unfold meets at q
        rw [decide_eq_true e1, decide_eq_true e2] at q
        cases q
      · have q := one k a hk o ho
        unfold meets at q
        rw [decide_eq_true e1, decide_eq_true e2, Bool.or_true] at q
        cases q
  unfold good due
  rw [Bool.and_assoc, key, Bool.and_comm]
end K08

set_option Elab.async false
set_option linter.all false
set_option maxRecDepth 100000
namespace K08
open PySem PySem.Spec PyProof.Rows L2
/-- what the dict holds when the ends pre were met -/
structure Tally (kvs : List (Key × V)) (pre : List Int) : Prop where
  of : ∀ p ∈ kvs, ∃ k : Int, p = (Sum.inl k, V.int (pre.count k : Nat)) ∧ k ∈ pre
  all : ∀ k ∈ pre, ∃ p ∈ kvs, p.1 = Sum.inl k
  len : kvs.length ≤ pre.length
theorem Tally.nil : Tally [] [] := ⟨fun p h => absurd h (by simp), fun k h => absurd h (by simp), Nat.le_refl _⟩
theorem Tally.look {kvs : List (Key × V)} {pre : List Int} (t : Tally kvs pre) (k : Int) : (valV kvs (Sum.inl k)).getD (.int 0) = .int (pre.count k : Nat) := by
  unfold valV
  cases e : kvs.find? fun kv => decide (kv.1 = (Sum.inl k : Key)) with
  | none =>
    have n : k ∉ pre := fun h => by
      obtain ⟨p, hp, q⟩ := t.all k h
      have := List.find?_eq_none.mp e p hp
      rw [q] at this
      simp at this
    rw [List.count_eq_zero.mpr n]
    rfl
  | some p =>
    have h1 := List.mem_of_find?_eq_some e
    have h2 : p.1 = (Sum.inl k : Key) := by simpa using List.find?_some e
    obtain ⟨j, hj, _⟩ := t.of p h1
    rw [hj] at h2
    have ej : j = k := Sum.inl.inj h2
    rw [hj, ej]
    rfl
theorem Tally.put {kvs : List (Key × V)} {pre : List Int} (t : Tally kvs pre) (k : Int) : Tally (putK kvs (Sum.inl k) (.int ((pre.count k : Nat) + 1))) (pre ++ [k]) := by
  have ck : ((pre ++ [k]).count k : Nat) = pre.count k + 1 := by simp [List.count_append]
  have cj : ∀ j, j ≠ k → ((pre ++ [k]).count j : Nat) = pre.count j := fun j h => by
    rw [List.count_append, List.count_singleton]
    simp [Ne.symm h]
  refine ⟨fun p hp => ?_, fun j hj => ?_, ?_⟩
  · unfold putK at hp
    split at hp
    · obtain ⟨q, hq, e⟩ := List.mem_map.mp hp
      obtain ⟨j, hj, mj⟩ := t.of q hq
      by_cases z : q.1 = (Sum.inl k : Key)
      · rw [if_pos z] at e
        refine ⟨k, ?_, by simp⟩
        rw [← e, z, ck]
        rfl
      · rw [if_neg z] at e
        have nj : j ≠ k := fun y => z (by rw [hj, y])
        refine ⟨j, ?_, List.mem_append_left _ mj⟩
        rw [← e, hj, cj j nj]
    · rcases List.mem_append.mp hp with h | h
      · obtain ⟨j, hj, mj⟩ := t.of p h
        rename_i na
        have nj : j ≠ k := fun y => na (List.any_eq_true.mpr ⟨p, h, by rw [hj, y]; simp⟩)
        exact ⟨j, by rw [hj, cj j nj], List.mem_append_left _ mj⟩
      · refine ⟨k, ?_, by simp⟩
        rw [List.mem_singleton.mp h, ck]
        rfl
  · unfold putK
    split
    · rename_i ha
      rcases List.mem_append.mp hj with h | h
      · obtain ⟨p, hp, e⟩ := t.all j h
        refine ⟨if p.1 = (Sum.inl k : Key) then (p.1, V.int ((pre.count k : Nat) + 1)) else p, List.mem_map.mpr ⟨p, hp, rfl⟩, ?_⟩
        split <;> exact e
      · rw [List.mem_singleton.mp h]
        obtain ⟨p, hp, e⟩ := List.any_eq_true.mp ha
        have e' := of_decide_eq_true e
        exact ⟨_, List.mem_map.mpr ⟨p, hp, rfl⟩, by rw [if_pos e']; exact e'⟩
    · rcases List.mem_append.mp hj with h | h
      · obtain ⟨p, hp, e⟩ := t.all j h
        exact ⟨p, List.mem_append_left _ hp, e⟩
      · exact ⟨_, List.mem_append_right _ (List.mem_singleton.mpr rfl), by rw [List.mem_singleton.mp h]⟩
  · have := length_putK kvs (Sum.inl k) (.int ((pre.count k : Nat) + 1))
    have := t.len
    rw [List.length_append, List.length_singleton]
    omega
def vals (kvs : List (Key × V)) : List Int := kvs.map fun p => match p.2 with | .int z => z | _ => 0
theorem Tally.vals {kvs : List (Key × V)} {pre : List Int} (t : Tally kvs pre) : kvs.map (·.2) = (vals kvs).map V.int := by
  unfold K08.vals
  rw [List.map_map]
  refine List.map_congr_left fun p hp => ?_
  obtain ⟨k, hk, _⟩ := t.of p hp
  rw [hk]
  rfl
theorem Tally.most {kvs : List (Key × V)} {pre : List Int} (t : Tally kvs pre) {m : Int} (h : (K08.vals kvs = [] ∧ m = 0) ∨ (m ∈ K08.vals kvs ∧ ∀ j ∈ K08.vals kvs, j ≤ m)) : m = (K08.most pre : Nat) := by
  have back : ∀ k ∈ pre, ((pre.count k : Nat) : Int) ∈ K08.vals kvs := fun k hk => by
    obtain ⟨p, hp, e⟩ := t.all k hk
    obtain ⟨j, hj, _⟩ := t.of p hp
    have ej : j = k := by
      rw [hj] at e
      exact Sum.inl.inj e
    refine List.mem_map.mpr ⟨p, hp, ?_⟩
    rw [hj, ej]
  refine most_is (fun e => ?_) fun ne => ?_
  · rcases h with ⟨_, h⟩ | ⟨h, _⟩
    · exact h
    · exfalso
      have : kvs = [] := List.length_eq_zero_iff.mp (by have := t.len; rw [e] at this; simpa using this)
      rw [this] at h
      cases h
  · rcases h with ⟨h, _⟩ | ⟨h, g⟩
    · exfalso
      cases pre with
      | nil => exact ne rfl
      | cons k r =>
        have := back k List.mem_cons_self
        rw [h] at this
        cases this
    · refine ⟨?_, fun e he => g _ (back e he)⟩
      obtain ⟨p, hp, e⟩ := List.mem_map.mp h
      obtain ⟨k, hk, mk⟩ := t.of p hp
      rw [hk] at e
      exact ⟨k, mk, e.symm⟩
end K08

namespace K08
/-! a list without doubles and one with the same members -/
theorem len_le {α : Type} [DecidableEq α] : ∀ (l m : List α), l.Nodup → (∀ x ∈ l, x ∈ m) → l.length ≤ m.length
  | [], m, _, _ => Nat.zero_le _
  | a :: r, m, hn, hs => by
    have ha := hs a List.mem_cons_self
    have hr := (List.nodup_cons.mp hn)
    have q := len_le r (m.erase a) hr.2 (fun x hx => (List.mem_erase_of_ne (fun e => hr.1 (by rw [← e]; exact hx))).mpr (hs x (List.mem_cons_of_mem _ hx)))
    rw [List.length_erase_of_mem ha] at q
    have : 0 < m.length := List.length_pos_of_mem ha
    simp only [List.length_cons]
    omega
theorem len_eq {α : Type} [DecidableEq α] : ∀ (m l : List α), l.Nodup → (∀ x, x ∈ l ↔ x ∈ m) → (l.length = m.length ↔ m.Nodup)
  | [], l, hn, hs => by
    have : l = [] := by
      cases l with
      | nil => rfl
      | cons a r => exact absurd ((hs a).mp List.mem_cons_self) (by simp)
    rw [this]
    simp
  | a :: r, l, hn, hs => by
    have ha : a ∈ l := (hs a).mpr List.mem_cons_self
    by_cases h : a ∈ r
    · have le := len_le l r hn (fun x hx => by
        rcases List.mem_cons.mp ((hs x).mp hx) with e | e
        · rw [e]; exact h
        · exact e)
      constructor
      · intro e
        simp only [List.length_cons] at e
        omega
      · intro e
        exact absurd h (List.nodup_cons.mp e).1
    · have ih := len_eq r (l.erase a) (hn.erase a) (fun x => by
        rw [hn.mem_erase_iff, hs x, List.mem_cons]
        constructor
        · rintro ⟨h1, h2 | h2⟩
          · exact absurd h2 h1
          · exact h2
        · intro hx
          exact ⟨fun e => h (by rw [← e]; exact hx), .inr hx⟩)
      rw [List.length_erase_of_mem ha] at ih
      have : 0 < l.length := List.length_pos_of_mem ha
      rw [List.nodup_cons, List.length_cons]
      constructor
      · intro e
        exact ⟨h, ih.mp (by omega)⟩
      · intro e
        have := ih.mpr e.2
        omega
end K08

set_option Elab.async false
set_option linter.all false
set_option maxRecDepth 100000
set_option maxHeartbeats 4000000
namespace K08
open PySem PySem.Spec PyProof.Rows L2 Own
def topS (i : Nat) : Stmt := PySem.Challenge.pw_pairhues_k08_rows_looked_at.main.body.getD i (.Pass ⟨0, 0, 0, 0⟩)
abbrev s_count_of : Stmt := topS 4
abbrev s_is_good : Stmt := topS 5
abbrev s_most_at : Stmt := topS 6
abbrev s_hues_differ : Stmt := topS 7
abbrev N_count_of : List Str := ["rows"]
theorem sc_count_of : FnScope N_count_of ["rows"] (defScope s_count_of) := ⟨rfl, rfl, rfl, by decide +kernel, rfl, by decide +kernel, by decide +kernel⟩
abbrev N_is_good : List Str := ["rows", "count"]
theorem sc_is_good : FnScope N_is_good ["rows"] (defScope s_is_good) := ⟨rfl, rfl, rfl, by decide +kernel, rfl, by decide +kernel, by decide +kernel⟩
abbrev N_most_at : List Str := ["rows", "side", "met", "row", "end"]
theorem sc_most_at : FnScope N_most_at ["rows", "side"] (defScope s_most_at) := ⟨rfl, rfl, rfl, by decide +kernel, rfl, by decide +kernel, by decide +kernel⟩
abbrev N_hues_differ : List Str := ["rows", "side", "row"]
theorem sc_hues_differ : FnScope N_hues_differ ["rows", "side"] (defScope s_hues_differ) := ⟨rfl, rfl, rfl, by decide +kernel, rfl, by decide +kernel, by decide +kernel⟩
/-- built-ins and constants of the module -/
structure Bi (mg : Str → Option Value) (t0 t1 t2 : Tok) : Prop where
  z_all : mg "all" = none
  z_bool : mg "bool" = none
  z_enumerate : mg "enumerate" = none
  z_int : mg "int" = none
  z_isinstance : mg "isinstance" = none
  z_len : mg "len" = none
  z_list : mg "list" = none
  z_max : mg "max" = none
  z_min : mg "min" = none
  z_range : mg "range" = none
  c_LEFT : mg "LEFT" = some (.int 0 t0)
  c_RIGHT : mg "RIGHT" = some (.int 1 t1)
  c_HUE : mg "HUE" = some (.int 2 t2)
/-- a def of the text, at f -/
structure Df (K : PySem.W.Frag) (mg : Str → Option Value) (x : Str) (st : Stmt) (ps : List Str) (f : Addr) (fd : FuncData) : Prop where
  F : Fun K x x st f fd
  g : mg x = some (.ref f)
  b : Binds K fd ps []
section
variable {P : Program} {w : World} {K : PySem.W.Frag} {mg : Str → Option Value} {base : Heap} {t0 t1 t2 : Tok}
theorem at_sd {r : List Int} {sd : Nat} (h : sd < r.length) : atI (r.map V.int) (sd : Int) = some (V.int (r.getD sd 0)) := by
  refine atI_nat ?_
  rw [List.getElem?_map, List.getD_eq_getElem?_getD, List.getElem?_eq_getElem h]
  rfl
theorem ends_at {ts : List Row} {sd i : Nat} {r : Row} (h : ts[i]? = some r) : (ends ts sd)[i]? = some (r.getD sd 0) := by
  unfold ends
  rw [List.getElem?_map, h]
  rfl
theorem small1000' {n : Nat} (h : n ≤ 2000) : n < sizeLine := Nat.lt_of_le_of_lt h (by decide)
theorem take_one {α : Type} {l : List α} {i : Nat} {x : α} (h : l[i]? = some x) : l.take (i + 1) = l.take i ++ [x] := by
  rw [List.take_add_one, h]
  rfl
def spMost (K : PySem.W.Frag) (Ps : List Addr) : Sp := fun vs H Q _ => ∃ (a : Addr) (ts : List Row) (sd : Nat), vs = [.ref a, .int sd] ∧ Rows K H a ts ∧ (∀ r ∈ ts, sd < r.length) ∧ ts.length ≤ 1000 ∧
  ∀ H', Ext Ps H H' → Q (.int (most (ends ts sd) : Nat)) H'
theorem ok_most {f : Addr} {fd : FuncData} {Ps : List Addr} (F : Fun K "_most_at" "_most_at" s_most_at f fd) (T : Bi mg t0 t1 t2) : FnOk P w K mg base CX0 1 f fd ["rows", "side"] (spMost K Ps) := by
  refine F.ok sc_most_at (fun vs H Q E h => ?_) (fun cdv A outer s H vs Q E hr h => ?_)
  · obtain ⟨a, ts, sd, rfl, _⟩ := h
    rfl
  · obtain ⟨a, ts, sd, rfl, ⟨as, hS, hE⟩, hw, hlen, q⟩ := h
    refine ⟨_, (pss_cons (ps_set (i := 2) sc_most_at.nd rfl (.inl rfl) pe_dnewK)
    (pss_cons (ps_for PassesOwn.never rfl (pi_list (pv 0)) (pg_name (i := 3) sc_most_at.nd rfl (.inl rfl)) 
      (pss_cons (ps_set (i := 4) sc_most_at.nd rfl (.inl rfl) (pe_ix (ixT K) (pv 3) (pv 1) (fun _ _ => rfl)))
      (pss_one (ps_dput (hu_of hr) (pv 2) (pv 4) (pe_op op_add (pe_dget2 (hu_of hr) (pv 2) (pv 4) pe_int ⟨rfl, rfl, rfl, rfl⟩) pe_int) rfl))))
    (pss_one (ps_ret (pe_callBK (cr_maxD rfl) (by rfl) T.z_max (by decide +kernel)
      (pa_cons (pe_bm0 PySem.F.plainAttrs_dict PySem.F.slot_dict_values PySem.F.type_dict_values mt_vals (pv 2)) pa_nil) (pk_cons pe_int pk_nil)))))), ?_⟩
    -- met = {}
    intro d nd
    have x0 : Ext Ps H (upd H d (.dK [])) := .new nd
    -- for row in rows
    refine ⟨_, rfl, a, rfl, ⟨_, x0.seq hS⟩, for_list (K := K) (a := a) (xs := as.map V.ref)
      (fun i σ H2 => ∃ (v3 v4 : Option V) (kvs : List (Key × V)), σ = [some (.ref a), some (.int sd), some (.ref d), v3, v4] ∧ Ext Ps H H2 ∧ H2 d = some (.dK kvs) ∧ Tally kvs ((ends ts sd).take i))
      ⟨none, none, [], rfl, x0, upd_same, .nil⟩ (fun i σ H2 _ ⟨_, _, _, _, x, _⟩ => x.seq hS) ?_ ?_⟩
    · rintro i y σ H2 hi ⟨v3, v4, kvs, rfl, x, hd, hT⟩
      obtain ⟨b, r, rfl, hb, hr', hq⟩ := hE.val hi
      have lt := hw r (List.mem_of_getElem? hr')
      have few : kvs.length < sizeLine := by
        have := hT.len
        rw [List.length_take] at this
        unfold ends at this
        rw [List.length_map] at this
        exact small1000 (by omega)
      refine ⟨_, rfl, _, rfl, b, _, _, _, rfl, rfl, x.tup hq, at_sd lt, ?_⟩
      refine ⟨_, rfl, d, rfl, .inl ⟨kvs, .inl hd⟩, _, rfl, _, DGet.k (k := Sum.inl (r.getD sd 0)) hd, _, _, hT.look _, rfl, ?_⟩
      refine ⟨_, rfl, _, rfl, d, _, rfl, DPut.k (k := Sum.inl (r.getD sd 0)) hd few, ?_⟩
      refine ⟨_, _, _, rfl, x.put nd, upd_same, ?_⟩
      rw [take_one (ends_at hr')]
      exact hT.put _
    · rintro σ H2 ⟨v3, v4, kvs, rfl, x, hd, hT⟩
      have el : (ends ts sd).take (as.map V.ref).length = ends ts sd := List.take_of_length_le (by
        unfold ends
        rw [List.length_map, List.length_map, hE.len]
        exact Nat.le_refl _)
      rw [el] at hT
      -- return max(met.values(), default=0)
      refine ⟨_, rfl, .inr (.inr (.inl ⟨rfl, .inl ⟨kvs, hd⟩⟩)), d, kvs, rfl, rfl, hd, fun v nv => ?_⟩
      have hd' : (upd H2 v (VwO v d)) d = some (.dK kvs) := by
        rw [upd_ne (ne_of_none hd nv)]
        exact hd
      have x' : Ext Ps H (upd H2 v (VwO v d)) := x.trans (.new nv)
      refine ⟨v, d, kvs, vals kvs, 0, rfl, rfl, upd_same, hd', hT.vals, fun e => ?_, fun m hm hg => ?_⟩
      · rw [hT.most (.inl ⟨e, rfl⟩)]
        exact q _ x'
      · rw [hT.most (.inr ⟨hm, hg⟩)]
        exact q _ x'

def spCount (K : PySem.W.Frag) (Ps : List Addr) : Sp := fun vs H Q _ => ∃ (a : Addr) (ts : List Row), vs = [.ref a] ∧ Rows K H a ts ∧ (∀ r ∈ ts, 2 ≤ r.length) ∧ ts.length ≤ 1000 ∧
  ∀ H', Ext Ps H H' → Q (.int (count ts : Nat)) H'
theorem ok_count {f fM : Addr} {fd fdM : FuncData} {Ps : List Addr} (F : Fun K "count_of" "count_of" s_count_of f fd) (T : Bi mg t0 t1 t2)
    (M : Df K mg "_most_at" s_most_at ["rows", "side"] fM fdM) : FnOk P w K mg base CX0 2 f fd ["rows"] (spCount K Ps) := by
  have GM : FnOk P w K mg base CX0 1 fM fdM ["rows", "side"] (spMost K Ps) := ok_most M.F T
  refine F.ok sc_count_of (fun vs H Q E h => ?_) (fun cdv A outer s H vs Q E hr h => ?_)
  · obtain ⟨a, ts, rfl, _⟩ := h
    rfl
  · obtain ⟨a, ts, rfl, hR, hw, hlen, q⟩ := h
    refine ⟨_, (pss_one (ps_ret (pe_callB (call_max2 rfl) (by rfl) T.z_max (by decide +kernel)
      (pa_cons (pe_call GM hr rfl M.g M.F.kp M.b .nil pass0 (pa_cons (pv 0) (pa_cons (pe_ci rfl T.c_LEFT) pa_nil)))
      (pa_cons (pe_call GM hr rfl M.g M.F.kp M.b .nil pass0 (pa_cons (pv 0) (pa_cons (pe_ci rfl T.c_RIGHT) pa_nil))) pa_nil))))), ?_⟩
    refine ⟨_, rfl, a, ts, 0, rfl, hR, fun r h => by have := hw r h; omega, hlen, fun H1 x1 => ?_⟩
    refine ⟨_, rfl, a, ts, 1, rfl, x1.rows hR, fun r h => by have := hw r h; omega, hlen, fun H2 x2 => ?_⟩
    refine ⟨_, _, rfl, ?_⟩
    have e : (if ((most (ends ts 1) : Nat) : Int) > (most (ends ts 0) : Nat) then ((most (ends ts 1) : Nat) : Int) else (most (ends ts 0) : Nat)) = (count ts : Nat) := by
      unfold count
      split <;> omega
    rw [e]
    exact q _ (x1.trans x2)
def spDiffer (K : PySem.W.Frag) (Ps : List Addr) : Sp := fun vs H Q _ => ∃ (a : Addr) (ts : List Row) (sd : Nat), vs = [.ref a, .int sd] ∧ Rows K H a ts ∧ sd < 2 ∧ (∀ r ∈ ts, r.length = 3) ∧ ts.length ≤ 60 ∧
  ∀ H', Ext Ps H H' → Q (.bl (decide (keys ts sd).Nodup)) H'
/-- the set's members so far -/
structure Seen (K : PySem.W.Frag) (H : Hp) (L : List (Addr × List Int)) (pre : List Row) : Prop where
  nd : (L.map (·.2)).Nodup
  mem : ∀ k, k ∈ L.map (·.2) ↔ k ∈ pre
  len : L.length ≤ pre.length
  tup : ∀ p ∈ L, SqT K H p.1 (p.2.map V.int)
theorem Seen.put {H H' : Hp} {L L' : List (Addr × List Int)} {pre : List Row} {b : Addr} {k : List Int} (s : Seen K H L pre) (x : ∀ p xs, SqT K H p xs → SqT K H' p xs) (hb : SqT K H' b (k.map V.int))
    (c1 : k ∈ L.map (·.2) → L' = L) (c2 : k ∉ L.map (·.2) → L'.Perm ((b, k) :: L)) : Seen K H' L' (pre ++ [k]) := by
  by_cases h : k ∈ L.map (·.2)
  · rw [c1 h]
    refine ⟨s.nd, fun j => ?_, ?_, fun p hp => x _ _ (s.tup p hp)⟩
    · rw [s.mem, List.mem_append, List.mem_singleton]
      constructor
      · exact .inl
      · rintro (z | z)
        · exact z
        · rw [z]
          exact (s.mem k).mp h
    · have := s.len
      rw [List.length_append, List.length_singleton]
      omega
  · have pm := c2 h
    have pk := pm.map (·.2)
    refine ⟨pk.nodup_iff.mpr (List.nodup_cons.mpr ⟨h, s.nd⟩), fun j => ?_, ?_, fun p hp => ?_⟩
    · rw [pk.mem_iff, List.map_cons, List.mem_cons, s.mem, List.mem_append, List.mem_singleton]
      exact Or.comm
    · have := s.len
      rw [pm.length_eq, List.length_append, List.length_singleton, List.length_cons]
      omega
    · rcases List.mem_cons.mp (pm.mem_iff.mp hp) with z | z
      · rw [z]
        exact hb
      · exact x _ _ (s.tup p z)
theorem ok_differ {f : Addr} {fd : FuncData} {Ps : List Addr} (F : Fun K "_hues_differ" "_hues_differ" s_hues_differ f fd) (T : Bi mg t0 t1 t2) : FnOk P w K mg base CX0 1 f fd ["rows", "side"] (spDiffer K Ps) := by
  refine F.ok sc_hues_differ (fun vs H Q E h => ?_) (fun cdv A outer s H vs Q E hr h => ?_)
  · obtain ⟨a, ts, sd, rfl, _⟩ := h
    rfl
  · obtain ⟨a, ts, sd, rfl, ⟨as, hS, hE⟩, hsd, hw, hlen, q⟩ := h
    refine ⟨_, (pss_one (ps_ret (pe_cmpR op_eq (pe_callB call_lenT (by rfl) T.z_len PySem.boot_len
      (pa_cons (pe_scA (sort_tup (by have := hu_of hr; exact this)) rfl sc_hues_differ.nd (own := [("row", 2)]) (g := gName 2) (tt := tYes) (pi_list (pv 0))
        (blkOk_by (N := N_hues_differ) (sc := defScope s_hues_differ) (by decide +kernel)) (fun _ _ _ _ _ => (pg_name (i := 2) sc_hues_differ.nd rfl (.inl rfl))) (fun _ _ _ _ _ => pts_nil)
        (fun _ _ _ _ _ => (pe_tup (pa_cons (pe_ix (ixT K) (pv 2) (pv 1) (fun _ _ => rfl)) (pa_cons (pe_ix (ixT K) (pv 2) (pe_ci rfl T.c_HUE) (fun _ _ => rfl)) pa_nil))))) pa_nil))
      (pe_callB (lenQ K) (by rfl) T.z_len PySem.boot_len (pa_cons (pv 0) pa_nil)) (nomark _)))), ?_⟩
    refine ⟨_, rfl, a, rfl, ⟨_, hS⟩, fun D nD => ?_⟩
    refine scT_list (K := K) (P := P) (w := w) (a := a) (xs := as.map V.ref) (AD := adT K P w) (fr := fun D => SetTO P w D [])
      (fun i H2 => ∃ L, Ext Ps H H2 ∧ H2 D = some (SetTO P w D L) ∧ Seen K H2 L ((keys ts sd).take i))
      ⟨[], .new nD, upd_same, ⟨List.nodup_nil, fun k => by simp, Nat.le_refl _, fun p hp => absurd hp (by simp)⟩⟩ (fun i H2 _ ⟨_, x, _⟩ => x.seq hS) ?_ ?_
    · rintro i y H2 hi ⟨L, x, hD, hs⟩
      obtain ⟨b, r, rfl, hb, hr', hq⟩ := hE.val hi
      have lr := hw r (List.mem_of_getElem? hr')
      have il : i < ts.length := (List.getElem?_eq_some_iff.mp hr').1
      have lt : sd < r.length := by omega
      have l2 : 2 < r.length := by omega
      have kl : (keys ts sd).length = ts.length := by
        unfold keys
        rw [List.length_map]
      have few : L.length + 1 < 64 := by
        have := hs.len
        rw [List.length_take] at this
        omega
      refine ⟨rfl, ?_⟩
      refine yesT ?_
      refine ⟨_, rfl, _, rfl, b, _, _, _, rfl, rfl, x.tup hq, at_sd lt, _, rfl, b, _, 2, _, rfl, rfl, x.tup hq, at_sd (sd := 2) l2, (by show 2 ≤ sizeLine; decide), fun p np => ?_⟩
      have x1 : Ext Ps H2 (upd H2 p (.tup [.int (r.getD sd 0), .int (r.getD 2 0)])) := .new np
      have hD1 := ne_of_none hD np
      refine ⟨p, [r.getD sd 0, r.getD 2 0], L, rfl, .inl (.inl upd_same), by rw [upd_ne hD1]; exact hD, fun z hz => x1.tup (hs.tup z hz), few, fun L' c1 c2 => ?_⟩
      refine ⟨L', (x.trans x1).put nD, upd_same, ?_⟩
      have kk : (keys ts sd)[i]? = some [r.getD sd 0, r.getD 2 0] := by
        unfold keys
        rw [List.getElem?_map, hr']
        rfl
      rw [take_one kk]
      refine hs.put (fun c xs h => tup_upd (by rw [upd_ne hD1]; exact hD) (fun _ => by intro z; cases z) (fun _ _ => by intro z; cases z) (x1.tup h)) ?_ c1 c2
      refine .inl (.inl ?_)
      rw [upd_ne hD1.symm, upd_same]
      rfl
    · rintro H2 ⟨L, x, hD, hs⟩
      have el : (keys ts sd).take (as.map V.ref).length = keys ts sd := List.take_of_length_le (by
        unfold keys
        rw [List.length_map, List.length_map, hE.len]
        exact Nat.le_refl _)
      rw [el] at hs
      refine ⟨D, L, rfl, hD, hs.tup, ?_⟩
      refine ⟨_, rfl, a, _, rfl, .inl (x.seq hS), rfl, ?_⟩
      have kl : (keys ts sd).length = (as.map V.ref).length := by
        unfold keys
        rw [List.length_map, List.length_map, hE.len]
      have e : decide (V.int (L.length : Nat) = V.int ((as.map V.ref).length : Nat)) = decide (keys ts sd).Nodup := by
        rw [Bool.eq_iff_iff, decide_eq_true_eq, decide_eq_true_eq, ← len_eq (keys ts sd) (L.map (·.2)) hs.nd hs.mem, kl]
        have lm : (L.map (·.2)).length = L.length := List.length_map ..
        rw [lm]
        constructor
        · intro z
          have := V.int.inj z
          omega
        · intro z
          rw [z]
      show Q (V.bl (decide (V.int (L.length : Nat) = V.int ((as.map V.ref).length : Nat)))) _
      rw [e]
      exact q _ x

def spGood (K : PySem.W.Frag) (Ps : List Addr) : Sp := fun vs H Q _ => ∃ (a : Addr) (ts : List Row), vs = [.ref a] ∧ Rows K H a ts ∧ (∀ r ∈ ts, r.length = 3) ∧ ts.length ≤ 60 ∧ (∀ P ∈ Ps, GxR.TabG H P) ∧
  ∀ H', Ext Ps H H' → Q (.bl (good ts)) H'
theorem ok_good {f fC fD fM c PT : Addr} {fd fdC fdD fdM : FuncData} {Ps : List Addr} (F : FunC K "is_good" "is_good" s_is_good f fd c) (T : Bi mg t0 t1 t2)
    (C : Df K mg "count_of" s_count_of ["rows"] fC fdC) (D : Df K mg "_hues_differ" s_hues_differ ["rows", "side"] fD fdD) (M : Df K mg "_most_at" s_most_at ["rows", "side"] fM fdM)
    (TB : GxR.TabB base mg c PT) (hPT : PT ∈ Ps) : FnOk P w K mg base CX0 3 f fd ["rows"] (spGood K Ps) := by
  have GC : FnOk P w K mg base CX0 2 fC fdC ["rows"] (spCount K Ps) := ok_count C.F T M
  have GD : FnOk P w K mg base CX0 1 fD fdD ["rows", "side"] (spDiffer K Ps) := ok_differ D.F T
  refine F.ok sc_is_good (fun vs H Q E h => ?_) (fun A outer s H vs Q E hr h => ?_)
  · obtain ⟨a, ts, rfl, _⟩ := h
    rfl
  · obtain ⟨a, ts, rfl, hR, hw, hlen, hTab, q⟩ := h
    refine ⟨_, (pss_cons (ps_set (i := 1) sc_is_good.nd rfl (.inr rfl) (pe_call GC hr rfl C.g C.F.kp C.b .nil pass0 (pa_cons (pv 0) pa_nil)))
    (pss_cons (ps_if (pt_not (pt_val (pe_allL hr rfl T.z_all (by decide +kernel) TB rfl (genS_by (by decide +kernel)) (pv 0) (fun _ => rfl)))) 
      (pss_one (ps_ret pe_bl)) pss_nil)
    (pss_one (ps_ret (pe_and (pe_call GD (hr.mono (by decide)) rfl D.g D.F.kp D.b .nil pass0 (pa_cons (pv 0) (pa_cons (pe_ci rfl T.c_LEFT) pa_nil)))
      (pe_one (pe_call GD (hr.mono (by decide)) rfl D.g D.F.kp D.b .nil pass0 (pa_cons (pv 0) (pa_cons (pe_ci rfl T.c_RIGHT) pa_nil))))))))), ?_⟩
    refine ⟨_, rfl, a, ts, rfl, hR, fun r h => by have := hw r h; omega, by omega, fun H1 x1 => ?_⟩
    obtain ⟨as, hS, hE⟩ := x1.rows hR
    have tab1 : GxR.TabG H1 PT := x1.t PT hPT (hTab PT hPT)
    refine ⟨_, rfl, a, _, rfl, hS, tab1, fun _ => true, fun i => decide ((ts.getD i []).getD 2 0 < (count ts : Nat)), ?_, fun H2 hT2 => ?_⟩
    · intro pins s1 I i y v hy rv
      obtain ⟨b, r, rfl, hb, hr', hq⟩ := hE.val hy
      have hP : ∃ ps, H1 PT = some (.tbl ps) := let ⟨ps, h, _⟩ := tab1; ⟨ps, h⟩
      have eg : ts.getD i [] = r := by
        rw [List.getD_eq_getElem?_getD, hr']
        rfl
      refine ⟨qt_nil, fun _ => ?_⟩
      dsimp only
      rw [eg]
      exact qe_lt (qe_ixT I hP (qe_var rfl rfl rv) (qe_glob I (fun _ _ => TB.gP) rfl rfl T.c_HUE ⟨_, rfl⟩) hq
        (at_sd (sd := 2) (by have := hw r (List.mem_of_getElem? hr'); omega)) (fun _ _ => rfl)) (qe_free I hP (i := 1) rfl rfl (.inl rfl) rfl rfl)
    · have x2 : Ext Ps H H2 := x1.trans (Ext.tab tab1 hT2)
      have lx : (as.map V.ref).length = ts.length := by
        rw [List.length_map]
        exact hE.len
      have ev : ((List.range (as.map V.ref).length).filter fun _ => true).all (fun i => decide ((ts.getD i []).getD 2 0 < (count ts : Nat))) = ts.all fun r => decide (r.getD 2 0 < (count ts : Nat)) := by
        rw [lx, List.filter_eq_self.mpr (fun _ _ => rfl), Bool.eq_iff_iff, List.all_eq_true, List.all_eq_true]
        constructor
        · intro h r hr
          obtain ⟨i, hi, e⟩ := List.getElem_of_mem hr
          have := h i (List.mem_range.mpr hi)
          have g : ts.getD i [] = r := by rw [List.getD_eq_getElem?_getD, List.getElem?_eq_getElem hi, e]; rfl
          rw [g] at this
          exact this
        · intro h i hi
          have hi' := List.mem_range.mp hi
          have g : ts.getD i [] = ts[i] := by rw [List.getD_eq_getElem?_getD, List.getElem?_eq_getElem hi']; rfl
          rw [g]
          exact h _ (List.getElem_mem hi')
      rw [ev]
      refine ⟨_, rfl, ?_⟩
      cases hall : ts.all fun r => decide (r.getD 2 0 < (count ts : Nat)) with
      | false =>
        refine iteT ?_
        have e : good ts = false := by
          unfold good
          rw [hall]
          rfl
        have := q _ x2
        rw [e] at this
        exact this
      | true =>
        refine iteF ?_
        refine ⟨_, rfl, a, ts, 0, rfl, x2.rows hR, by decide, hw, hlen, fun H3 x3 => ⟨_, rfl, ?_⟩⟩
        have x3' := x2.trans x3
        have e : good ts = (decide (keys ts 0).Nodup && decide (keys ts 1).Nodup) := by
          unfold good
          rw [hall, Bool.true_and]
        cases h0 : decide (keys ts 0).Nodup with
        | false =>
          refine iteF ?_
          have := q _ x3'
          rw [e, h0] at this
          exact this
        | true =>
          refine iteT ?_
          refine ⟨_, rfl, a, ts, 1, rfl, x3'.rows hR, by decide, hw, hlen, fun H4 x4 => ?_⟩
          have := q _ (x3'.trans x4)
          rw [e, h0, Bool.true_and] at this
          exact this
end
end K08

set_option Elab.async false
set_option linter.all false
set_option maxRecDepth 100000
set_option maxHeartbeats 4000000
namespace K08
open PySem PySem.Spec PyProof.Rows L2 Own
abbrev s_l_cell_at : Stmt := topS 9
abbrev s_l_mixed : Stmt := topS 10
abbrev s_l_whole : Stmt := topS 11
abbrev N_l_cell_at : List Str := ["_law_script", "_law_k"]
theorem sc_l_cell_at : FnScope N_l_cell_at ["_law_script", "_law_k"] (defScope s_l_cell_at) := ⟨rfl, rfl, rfl, by decide +kernel, rfl, by decide +kernel, by decide +kernel⟩
abbrev N_l_mixed : List Str := ["_law_cell", "_law_k"]
theorem sc_l_mixed : FnScope N_l_mixed ["_law_cell", "_law_k"] (defScope s_l_mixed) := ⟨rfl, rfl, rfl, by decide +kernel, rfl, by decide +kernel, by decide +kernel⟩
abbrev N_l_whole : List Str := ["_law_found"]
theorem sc_l_whole : FnScope N_l_whole ["_law_found"] (defScope s_l_whole) := ⟨rfl, rfl, rfl, by decide +kernel, rfl, by decide +kernel, by decide +kernel⟩
section
variable {P : Program} {w : World} {K : PySem.W.Frag} {mg : Str → Option Value} {base : Heap} {t0 t1 t2 : Tok}
def spCellAt (K : PySem.W.Frag) : Sp := fun vs H Q _ => ∃ (a : Addr) (ns : List Int) (k : Nat), vs = [.ref a, .int (k : Nat)] ∧ SqL K H a (ns.map V.int) ∧ Q (.int (ns.getD k 0)) H
theorem ok_cellAt {f : Addr} {fd : FuncData} (F : Fun K "_law_cell_at" "_law_cell_at" s_l_cell_at f fd) (T : Bi mg t0 t1 t2) : FnOk P w K mg base CX0 1 f fd ["_law_script", "_law_k"] (spCellAt K) := by
  refine F.ok sc_l_cell_at (fun vs H Q E h => ?_) (fun cdv A outer s H vs Q E hr h => ?_)
  · obtain ⟨a, ns, k, rfl, _⟩ := h
    rfl
  · obtain ⟨a, ns, k, rfl, hS, q⟩ := h
    refine ⟨_, (pss_cons (ps_if (pt_cmpR op_lt (pv 1) (pe_callB (lenQ K) (by rfl) T.z_len PySem.boot_len (pa_cons (pv 0) pa_nil)) (nomark _)) 
      (pss_one (ps_ret (pe_ix (ixL K) (pv 0) (pv 1) (fun _ _ => rfl)))) pss_nil)
    (pss_one (ps_ret pe_int))), ?_⟩
    refine ⟨_, rfl, _, rfl, a, _, rfl, .inl hS, _, _, rfl, rfl, _, rfl, ite2 (fun h => ?_) (fun h => ?_)⟩
    · have lt : k < ns.length := by
        have := of_decide_eq_true h
        rw [List.length_map] at this
        omega
      refine ⟨_, rfl, _, rfl, a, _, _, _, rfl, rfl, hS, atI_nat (j := k) (by rw [List.getElem?_map, List.getElem?_eq_getElem lt]; rfl), ?_⟩
      rw [List.getD_eq_getElem?_getD, List.getElem?_eq_getElem lt] at q
      exact q
    · have ge : ns.length ≤ k := by
        by_cases lt : k < ns.length
        · exact absurd (decide_eq_true (by rw [List.length_map]; omega)) h
        · omega
      rw [List.getD_eq_getElem?_getD, List.getElem?_eq_none ge] at q
      exact q
def mixed (c k : Int) : Int := (c * 48271 + 7919 * k * k + 31 * k) % 2147483647 / 7
theorem mixed_nn (c k : Int) : 0 ≤ mixed c k := by
  unfold mixed
  have := Int.emod_nonneg (c * 48271 + 7919 * k * k + 31 * k) (show (2147483647 : Int) ≠ 0 by decide)
  omega
def spMixed : Sp := fun vs H Q _ => ∃ (c k : Int), vs = [.int c, .int k] ∧ 0 ≤ k ∧ k ≤ 1000 ∧ Q (.int (mixed c k)) H
theorem ok_mixed {f : Addr} {fd : FuncData} (F : Fun K "_law_mixed" "_law_mixed" s_l_mixed f fd) : FnOk P w K mg base CX0 1 f fd ["_law_cell", "_law_k"] spMixed := by
  refine F.ok sc_l_mixed (fun vs H Q E h => ?_) (fun cdv A outer s H vs Q E hr h => ?_)
  · obtain ⟨c, k, rfl, _⟩ := h
    rfl
  · obtain ⟨c, k, rfl, h0, h1, q⟩ := h
    refine ⟨_, (pss_one (ps_ret (pe_op op_fdiv (pe_op op_mod (pe_op op_add (pe_op op_add (pe_op op_mul (pv 0) pe_int) (pe_op op_mul (pe_op op_mul pe_int (pv 1)) (pv 1))) (pe_op op_mul pe_int (pv 1))) pe_int) pe_int))), ?_⟩
    refine ⟨_, rfl, _, _, rfl, rfl, .inr ⟨by decide, by decide⟩, ?_⟩
    refine ⟨_, rfl, _, _, rfl, rfl, .inl ⟨by decide, by decide⟩, ?_⟩
    refine ⟨_, rfl, _, _, rfl, rfl, .inr ⟨by omega, by omega⟩, ?_⟩
    refine ⟨_, _, rfl, rfl, ?_⟩
    refine ⟨_, rfl, _, _, rfl, rfl, .inl ⟨by decide, by decide⟩, ?_⟩
    refine ⟨_, _, rfl, rfl, ?_⟩
    refine ⟨_, _, rfl, rfl, (by show (0 : Int) < 2147483647; decide), ?_⟩
    refine ⟨_, _, rfl, rfl, ⟨by decide, by decide⟩, ?_⟩
    exact q
def spWhole : Sp := fun vs H Q _ => ∃ (z : Int), vs = [.int z] ∧ Q (.bl true) H
theorem ok_whole {f : Addr} {fd : FuncData} (F : Fun K "_law_whole" "_law_whole" s_l_whole f fd) (T : Bi mg t0 t1 t2) : FnOk P w K mg base CX0 1 f fd ["_law_found"] spWhole := by
  refine F.ok sc_l_whole (fun vs H Q E h => ?_) (fun cdv A outer s H vs Q E hr h => ?_)
  · obtain ⟨z, rfl, _⟩ := h
    rfl
  · obtain ⟨z, rfl, q⟩ := h
    refine ⟨_, (pss_one (ps_ret (pe_and (pe_callB (isiO K) (by rfl) T.z_isinstance (by decide +kernel) (pa_cons (pv 0) (pa_cons (pe_bltn (v := .ty "int") (by rfl) T.z_int (by decide +kernel) rfl) pa_nil))) (pe_one (pe_not (pe_callB (isiO K) (by rfl) T.z_isinstance (by decide +kernel) (pa_cons (pv 0) (pa_cons (pe_bltn (v := .ty "bool") (by rfl) T.z_bool (by decide +kernel) rfl) pa_nil)))))))), ?_⟩
    refine ⟨_, rfl, _, _, _, _, true, rfl, ClsV.ty _, .base (.int z), kit_ty (by decide +kernel), ⟨_, rfl, iteT ?_⟩⟩
    refine ⟨_, rfl, _, _, _, _, false, rfl, ClsV.ty _, .base (.int z), kit_ty (by decide +kernel), ⟨_, rfl, ?_⟩⟩
    exact q
end
end K08

set_option Elab.async false
set_option linter.all false
set_option maxRecDepth 100000
set_option maxHeartbeats 4000000
namespace K08
open PySem PySem.Spec PyProof.Rows L2 Own
abbrev s_l_many : Stmt := topS 14
abbrev s_l_due : Stmt := topS 15
abbrev N_l_many : List Str := ["_law_rows_here", "_law_found", "_law_side", "_law_ends", "_law_row", "_law_end"]
theorem sc_l_many : FnScope N_l_many ["_law_rows_here"] (defScope s_l_many) := ⟨rfl, rfl, rfl, by decide +kernel, rfl, by decide +kernel, by decide +kernel⟩
abbrev N_l_due : List Str := ["_law_rows_here", "_law_k", "_law_other", "_law_row"]
theorem sc_l_due : FnScope N_l_due ["_law_rows_here"] (defScope s_l_due) := ⟨rfl, rfl, rfl, by decide +kernel, rfl, by decide +kernel, by decide +kernel⟩
def mx (ts : List Row) : Nat → Nat
  | 0 => 0
  | i + 1 => max (mx ts i) (most (ends ts i))
theorem mx_2 (ts : List Row) : mx ts 2 = count ts := by
  unfold count
  simp only [mx, Nat.zero_max]
theorem max_is {es : List Int} {f : Nat} {m : Int} (h : m ∈ ([(f : Int)] ++ es.map fun e => ((es.count e : Nat) : Int))) (g : ∀ j ∈ ([(f : Int)] ++ es.map fun e => ((es.count e : Nat) : Int)), j ≤ m) : m = (max f (most es) : Nat) := by
  have g0 : (f : Int) ≤ m := g _ (by simp)
  have g1 : ∀ e ∈ es, ((es.count e : Nat) : Int) ≤ m := fun e he => g _ (by simp; exact .inr ⟨e, he, rfl⟩)
  have g2 : ((most es : Nat) : Int) ≤ m := by
    rcases most_in es with z | ⟨e, he, q⟩
    · omega
    · rw [q]; exact g1 e he
  have up : m ≤ (max f (most es) : Nat) := by
    rcases List.mem_append.mp h with z | z
    · rw [List.mem_singleton.mp z]
      omega
    · obtain ⟨e, he, rfl⟩ := List.mem_map.mp z
      have := most_ge he
      omega
  omega
section
variable {P : Program} {w : World} {K : PySem.W.Frag} {mg : Str → Option Value} {base : Heap} {t0 t1 t2 : Tok}
def spMany (K : PySem.W.Frag) (Ps : List Addr) : Sp := fun vs H Q _ => ∃ (a : Addr) (ts : List Row), vs = [.ref a] ∧ Rows K H a ts ∧ (∀ r ∈ ts, 2 ≤ r.length) ∧ ts.length ≤ 1000 ∧
  ∀ H', Ext Ps H H' → Q (.int (count ts : Nat)) H'
theorem ok_many {f : Addr} {fd : FuncData} {Ps : List Addr} (F : Fun K "_law_many" "_law_many" s_l_many f fd) (T : Bi mg t0 t1 t2) : FnOk P w K mg base CX0 1 f fd ["_law_rows_here"] (spMany K Ps) := by
  refine F.ok sc_l_many (fun vs H Q E h => ?_) (fun cdv A outer s H vs Q E hr h => ?_)
  · obtain ⟨a, ts, rfl, _⟩ := h
    rfl
  · obtain ⟨a, ts, rfl, ⟨as, hS, hE⟩, hw, hlen, q⟩ := h
    refine ⟨_, (pss_cons (ps_set (i := 1) sc_l_many.nd rfl (.inl rfl) pe_int)
    (pss_cons (ps_for PassesOwn.never rfl (pi_range1 rfl T.z_range (pa_cons pe_int pa_nil)) (pg_name (i := 2) sc_l_many.nd rfl (.inr rfl)) 
      (pss_cons (ps_set (i := 3) sc_l_many.nd rfl (.inr rfl) (pe_lc rfl sc_l_many.nd (own := [("_law_row", 4)]) (pi_list (pv 0)) (blkOk_by (N := N_l_many) (sc := defScope s_l_many) (by decide +kernel)) (fun _ _ _ _ _ => (pg_name (i := 4) sc_l_many.nd rfl (.inl rfl))) (fun _ _ _ _ _ => pts_nil) (fun _ _ _ _ _ => (pe_ix (ixT K) (pv 4) (pv 2) (fun _ _ => rfl)))))
      (pss_one (ps_set (i := 1) sc_l_many.nd rfl (.inl rfl) (pe_callB (maxL K rfl) (by rfl) T.z_max (by decide +kernel) (pa_cons (pe_op op_cat (pe_lst (pa_cons (pv 1) pa_nil)) (pe_lc rfl sc_l_many.nd (own := [("_law_end", 5)]) (pi_list (pv 3)) (blkOk_by (N := N_l_many) (sc := defScope s_l_many) (by decide +kernel)) (fun _ _ _ _ _ => (pg_name (i := 5) sc_l_many.nd rfl (.inl rfl))) (fun _ _ _ _ _ => pts_nil) (fun _ _ _ _ _ => (bmC K (pe_bm PySem.F.plainAttrs_list PySem.F.slot_list_count PySem.F.type_list_count (cntL K) (pv 3) (pa_cons (pv 5) pa_nil)))))) pa_nil))))))
    (pss_one (ps_ret (pv 1))))), ?_⟩
    refine ⟨2, rfl, by decide, by decide, for_range (lo := 0) (n := 2) (fun i σ H2 => ∃ v2 v3 : Option V, σ = [some (.ref a), some (.int (mx ts i : Nat)), v2, v3, none, none] ∧ Ext Ps H H2)
      ⟨none, none, rfl, .refl⟩ ?_ ?_⟩
    · rintro i σ H2 hi ⟨v2, v3, rfl, x⟩
      have i2 : ∀ r ∈ ts, i < r.length := fun r hr => by have := hw r hr; omega
      have ei : ((0 : Int) + (i : Nat)) = (i : Nat) := by omega
      rw [ei]
      -- ends
      refine ⟨_, rfl, a, rfl, ⟨_, x.seq hS⟩, fun D nD => lc_list (K := K) (a := a) (xs := as.map V.ref)
        (fun j H3 => Ext Ps H2 H3 ∧ H3 D = some (.lst (((ends ts i).take j).map V.int))) ⟨.new nD, upd_same⟩ (fun j H3 _ ⟨y, _⟩ => y.seq (x.seq hS)) ?_ ?_⟩
      · rintro j y H3 hj ⟨x3, hD⟩
        obtain ⟨b, r, rfl, hb, hr', hq⟩ := hE.val hj
        refine ⟨rfl, yesT ?_⟩
        refine ⟨_, rfl, _, rfl, b, _, _, _, rfl, rfl, x3.tup (x.tup hq), at_sd (i2 r (List.mem_of_getElem? hr')), _, hD, ?_, x3.put nD, ?_⟩
        · rw [List.length_map, List.length_take]
          refine small1000 ?_
          unfold ends
          rw [List.length_map]
          omega
        · rw [upd_same, take_one (ends_at hr'), List.map_append]
          rfl
      · rintro H3 ⟨x3, hD⟩
        have le : (ends ts i).length = (as.map V.ref).length := by
          unfold ends
          rw [List.length_map, List.length_map, hE.len]
        rw [← le, List.take_length] at hD
        -- [found] + [ends.count(end) for end in ends]
        refine ⟨_, rfl, (by show 1 ≤ sizeLine; decide), fun p np => ?_⟩
        have x4 : Ext Ps H3 (upd H3 p (.lst [V.int (mx ts i : Nat)])) := .new np
        have hD4 := x4.lst hD
        refine ⟨_, rfl, D, rfl, ⟨_, SqL.of hD4⟩, fun D2 nD2 => lc_list (K := K) (a := D) (xs := (ends ts i).map V.int)
          (fun j H5 => Ext Ps (upd H3 p (.lst [V.int (mx ts i : Nat)])) H5 ∧ H5 D2 = some (.lst ((((ends ts i).take j).map fun e => V.int ((ends ts i).count e : Nat))))) ⟨.new nD2, upd_same⟩
          (fun j H5 _ ⟨y, _⟩ => SqL.of (y.lst hD4)) ?_ ?_⟩
        · rintro j y H5 hj ⟨x5, hD5⟩
          rw [List.getElem?_map] at hj
          obtain ⟨e, he, rfl⟩ := Option.map_eq_some_iff.mp hj
          refine ⟨rfl, yesT ?_⟩
          refine ⟨_, rfl, .inl ⟨rfl, _, SqL.of (x5.lst hD4)⟩, _, rfl, D, _, _, rfl, rfl, SqL.of (x5.lst hD4), _, hD5, ?_, x5.put nD2, ?_⟩
          · rw [List.length_map, List.length_take]
            refine small1000 ?_
            unfold ends
            rw [List.length_map]
            omega
          · rw [upd_same, take_one he, List.map_append]
            rfl
        · rintro H5 ⟨x5, hD5⟩
          rw [List.length_map, List.take_length] at hD5
          have hp5 := x5.lst (upd_same (H := H3) (a := p) (o := .lst [V.int (mx ts i : Nat)]))
          refine ⟨p, D2, _, _, rfl, rfl, hp5, hD5, ?_, fun R nR => ?_⟩
          · rw [List.length_map]
            unfold ends
            rw [List.length_map]
            have : ts.length + 1 < sizeLine := small1000' (by omega)
            simp only [List.length_cons, List.length_nil]
            omega
          · refine ⟨R, [((mx ts i : Nat) : Int)] ++ (ends ts i).map fun e => (((ends ts i).count e : Nat) : Int), rfl, ?_, by simp, fun m hm hg => ?_⟩
            · refine SqL.of ?_
              rw [upd_same, List.map_append, List.map_map]
              rfl
            · refine ⟨some (.int (i : Nat)), some (.ref D), ?_, x.trans (x3.trans (x4.trans (x5.trans (.new nR))))⟩
              rw [max_is hm hg]
              rfl
    · rintro σ H2 ⟨v2, v3, rfl, x⟩
      refine ⟨_, rfl, ?_⟩
      rw [mx_2]
      exact q _ x
end
end K08

set_option Elab.async false
set_option linter.all false
set_option maxRecDepth 100000
namespace Own
open PySem PySem.Spec PyProof.Rows L2
/-! rows of ints as data -/
def rowD (r : List Int) : PyData := .tuple (r.map PyData.int)
def rowsD (ts : List (List Int)) : PyData := .list (ts.map rowD)
theorem ints_can : ∀ r : List Int, PyData.canLayAll0 (r.map PyData.int) = true ∧ PyData.depthAll (r.map PyData.int) ≤ 1
  | [] => ⟨rfl, Nat.zero_le _⟩
  | x :: r => by
    obtain ⟨h1, h2⟩ := ints_can r
    simp only [List.map_cons, PyData.canLayAll0, PyData.canLay0, PyData.depthAll, PyData.depth, h1, Bool.and_self, true_and]
    omega
theorem rows_can : ∀ ts : List (List Int), PyData.canLayAll0 (ts.map rowD) = true ∧ PyData.depthAll (ts.map rowD) ≤ 2
  | [] => ⟨rfl, Nat.zero_le _⟩
  | x :: r => by
    obtain ⟨h1, h2⟩ := rows_can r
    obtain ⟨g1, g2⟩ := ints_can x
    simp only [List.map_cons, rowD, PyData.canLayAll0, PyData.canLay0, PyData.depthAll, PyData.depth]
    rw [g1]
    refine ⟨by simpa [rowD] using h1, ?_⟩
    have h2' : PyData.depthAll (List.map rowD r) ≤ 2 := h2
    omega
theorem shaped_rows (ts : List (List Int)) : SeqAt.shaped (rowsD ts) = true := by
  obtain ⟨h1, h2⟩ := rows_can ts
  unfold SeqAt.shaped rowsD
  simp only [PyData.canLay0, PyData.depth, h1, Bool.true_and, decide_eq_true_eq]
  exact decide_eq_true (Nat.le_trans (Nat.succ_le_succ h2) (show 3 ≤ 64 by decide))
theorem eqvAll_rows : ∀ ts us : List (List Int), PyData.eqvAll (ts.map rowD) (us.map rowD) = decide (ts = us)
  | [], [] => by simp [PyData.eqvAll]
  | [], _ :: _ => by simp [PyData.eqvAll]
  | _ :: _, [] => by simp [PyData.eqvAll]
  | t :: ts, u :: us => by
    have h := eqvAll_rows ts us
    have g := PySem.W.ked_eqvAll t u
    simp only [List.map_cons, PyData.eqvAll]
    have e : PyData.eqv (rowD t) (rowD u) = decide (t = u) := by
      show PyData.eqvAll (t.map PyData.int) (u.map PyData.int) = _
      exact g
    rw [e, h, Bool.eq_iff_iff]
    simp
theorem eqv_rows (ts us : List (List Int)) : PyData.eqv (rowsD ts) (rowsD us) = decide (ts = us) := eqvAll_rows ts us
section
variable {K : PySem.W.Frag} {H : Hp}
theorem dp_ints : ∀ r : List Int, DpAll K H (r.map V.int) (r.map PyData.int)
  | [] => .nil
  | x :: r => .cons (.int x) (dp_ints r)
theorem dp_each : ∀ {as : List Addr} {ts : List (List Int)}, Each K H as ts → DpAll K H (as.map V.ref) (ts.map rowD)
  | _, _, .nil => .nil
  | _, _, .cons h t => .cons (.tup h (dp_ints _)) (dp_each t)
theorem dp_rows {a : Addr} {ts : List (List Int)} (h : Rows K H a ts) : Dp K H (.ref a) (rowsD ts) := by
  obtain ⟨as, h1, h2⟩ := h
  exact .lst h1 (dp_each h2)
end
end Own

set_option Elab.async false
set_option linter.all false
set_option maxRecDepth 100000
set_option maxHeartbeats 4000000
namespace K08
open PySem PySem.Spec PyProof.Rows L2 Own
def bad (ts : List Row) : List Row := ts.filter fun r => decide (((count ts : Nat) : Int) ≤ r.getD 2 0)
theorem bad_nil (ts : List Row) : decide (bad ts = []) = ts.all fun r => decide (r.getD 2 0 < (count ts : Nat)) := by
  unfold bad
  rw [Bool.eq_iff_iff, decide_eq_true_eq, List.filter_eq_nil_iff, List.all_eq_true]
  constructor
  · intro h r hr
    have := h r hr
    simp only [decide_eq_true_eq] at this ⊢
    omega
  · intro h r hr
    have := h r hr
    simp only [decide_eq_true_eq] at this ⊢
    omega
theorem vint_dec (i j : Int) : decide (V.int i = V.int j) = decide (i = j) := by
  rw [Bool.eq_iff_iff, decide_eq_true_eq, decide_eq_true_eq]
  exact ⟨V.int.inj, fun e => by rw [e]⟩
section
variable {P : Program} {w : World} {K : PySem.W.Frag} {mg : Str → Option Value} {base : Heap} {t0 t1 t2 : Tok}
def spDue (K : PySem.W.Frag) (Ps : List Addr) : Sp := fun vs H Q _ => ∃ (a : Addr) (ts : List Row), vs = [.ref a] ∧ Rows K H a ts ∧ (∀ r ∈ ts, r.length = 3) ∧ ts.length ≤ 60 ∧
  ∀ H', Ext Ps H H' → Q (.bl (due ts)) H'
theorem ok_due {f fN : Addr} {fd fdN : FuncData} {Ps : List Addr} (F : Fun K "_law_due" "_law_due" s_l_due f fd) (T : Bi mg t0 t1 t2) (DN : Df K mg "_law_many" s_l_many ["_law_rows_here"] fN fdN) :
    FnOk P w K mg base CX0 2 f fd ["_law_rows_here"] (spDue K Ps) := by
  have GN : FnOk P w K mg base CX0 1 fN fdN ["_law_rows_here"] (spMany K Ps) := ok_many DN.F T
  refine F.ok sc_l_due (fun vs H Q E h => ?_) (fun cdv A outer s H vs Q E hr h => ?_)
  · obtain ⟨a, ts, rfl, _⟩ := h
    rfl
  · obtain ⟨a, ts, rfl, ⟨as, hS, hE⟩, hw, hlen, q⟩ := h
    have hR : Rows K H a ts := ⟨as, hS, hE⟩
    have lx : (as.map V.ref).length = ts.length := by
      rw [List.length_map]
      exact hE.len
    have w2 : ∀ {r : Row} {k : Nat}, r ∈ ts → k < 3 → k < r.length := fun {r k} hr hk => by rw [hw r hr]; exact hk
    refine ⟨_, (pss_cons (ps_for PassesOwn.never rfl (pi_range1 rfl T.z_range (pa_cons (pe_callB (lenQ K) (by rfl) T.z_len PySem.boot_len (pa_cons (pv 0) pa_nil)) pa_nil)) (pg_name (i := 1) sc_l_due.nd rfl (.inl rfl)) 
      (pss_one (ps_for PassesOwn.never rfl (pi_list (pe_slice (slL K) (pv 0) po_none (po_some (pv 1)))) (pg_name (i := 2) sc_l_due.nd rfl (.inl rfl)) 
        (pss_one (ps_if (PW.pt (pw_and (pt_cmpR op_eq (pe_ix (ixT K) (pv 2) pe_int (fun _ _ => rfl)) (pe_ix (ixT K) (pe_ix (ixL K) (pv 0) (pv 1) (fun _ _ => rfl)) pe_int (fun _ _ => rfl)) (nomark _)) (pw_and1 (PW.pt (pw_or (pt_cmpR op_eq (pe_ix (ixT K) (pv 2) pe_int (fun _ _ => rfl)) (pe_ix (ixT K) (pe_ix (ixL K) (pv 0) (pv 1) (fun _ _ => rfl)) pe_int (fun _ _ => rfl)) (nomark _)) (pw_or1 (pt_cmpR op_eq (pe_ix (ixT K) (pv 2) pe_int (fun _ _ => rfl)) (pe_ix (ixT K) (pe_ix (ixL K) (pv 0) (pv 1) (fun _ _ => rfl)) pe_int (fun _ _ => rfl)) (nomark _)))))))) 
          (pss_one (ps_ret pe_bl)) pss_nil)))))
    (pss_one (ps_ret (pe_cmpR (eqD K hr.units) (pe_lc rfl sc_l_due.nd (own := [("_law_row", 3)]) (pi_list (pv 0)) (blkOk_by (N := N_l_due) (sc := defScope s_l_due) (by decide +kernel)) (fun _ _ _ _ _ => (pg_name (i := 3) sc_l_due.nd rfl (.inl rfl))) (fun _ _ _ _ _ => (pts_one (pt_cmpR op_ge (pe_ix (ixT K) (pv 3) pe_int (fun _ _ => rfl)) (pe_call GN (hr.mono (by decide)) rfl DN.g DN.F.kp DN.b .nil pass0 (pa_cons (pv 0) pa_nil)) (nomark _)))) (fun _ _ _ _ _ => (pv 3))) (pe_lst pa_nil) (nomark _))))), ?_⟩
    refine ⟨_, rfl, a, _, rfl, .inl hS, ((as.map V.ref).length : Nat), rfl, by omega, by omega, ?_⟩
    have en : ((((as.map V.ref).length : Nat) : Int)).toNat = ts.length := by omega
    rw [en]
    refine for_range (lo := 0) (n := ts.length) (fun i σ H2 => ∃ v1 v2 : Option V, σ = [some (.ref a), v1, v2, none] ∧ Ext Ps H H2 ∧
      ∀ k, k < i → ∀ o ∈ ts.take k, meets o (ts.getD k []) = false) ⟨none, none, rfl, .refl, fun k hk => absurd hk (Nat.not_lt_zero _)⟩ ?_ ?_
    · rintro k σ H2 hk ⟨v1, v2, rfl, x, hAp⟩
      have ek : ((0 : Int) + (k : Nat)) = (k : Nat) := by omega
      rw [ek]
      have tk : ts[k]? = some ts[k] := List.getElem?_eq_getElem hk
      obtain ⟨bk, hbk, hqk⟩ := hE.at tk
      have gk : ts.getD k [] = ts[k] := by rw [List.getD_eq_getElem?_getD, tk]; rfl
      have mk : ts[k] ∈ ts := List.getElem_mem hk
      -- rows[:k]
      refine ⟨_, rfl, _, rfl, _, rfl, a, _, rfl, x.seq hS, fun p np => ?_⟩
      rw [cut_j]
      have x1 : Ext Ps H2 (upd H2 p (.lst ((as.map V.ref).take k))) := .new np
      refine ⟨p, rfl, ⟨_, SqL.of upd_same⟩, for_list (K := K) (a := p) (xs := (as.map V.ref).take k) (fun j σ H3 => ∃ v2 : Option V, σ = [some (.ref a), some (.int (k : Nat)), v2, none] ∧
        Ext Ps (upd H2 p (.lst ((as.map V.ref).take k))) H3 ∧ ∀ o ∈ ts.take j, meets o (ts.getD k []) = false) ⟨v2, rfl, .refl, fun o ho => absurd ho (by simp)⟩
        (fun j σ H3 _ ⟨_, _, y, _⟩ => SqL.of (y.lst upd_same)) ?_ ?_⟩
      · rintro j y σ H3 hj ⟨v2, rfl, x3, hA⟩
        have jk : j < k := by
          have := (List.getElem?_eq_some_iff.mp hj).1
          rw [List.length_take] at this
          omega
        rw [List.getElem?_take_of_lt jk] at hj
        obtain ⟨b, r, rfl, hb, hr', hq⟩ := hE.val hj
        have mr : r ∈ ts := List.mem_of_getElem? hr'
        have xx := x.trans (x1.trans x3)
        have go : meets r ts[k] = false → ∃ v2' : Option V, ([some (.ref a), some (.int (k : Nat)), some (.ref b), none] : L2.St) = [some (.ref a), some (.int (k : Nat)), v2', none] ∧
            Ext Ps (upd H2 p (.lst ((as.map V.ref).take k))) H3 ∧ ∀ o ∈ ts.take (j + 1), meets o (ts.getD k []) = false := fun hm => ⟨_, rfl, x3, fun o ho => by
          rw [take_one hr'] at ho
          rcases List.mem_append.mp ho with z | z
          · exact hA o z
          · rw [List.mem_singleton.mp z, gk]
            exact hm⟩
        have stop : meets r ts[k] = true → Q (.bl false) H3 := fun hm => by
          have : due ts = false := by
            unfold due apart
            have h1 : ¬ ((List.range ts.length).all fun k => (ts.take k).all fun o => !meets o (ts.getD k [])) = true := fun h => by
              have h2 := List.all_eq_true.mp (List.all_eq_true.mp h k (List.mem_range.mpr hk)) r (List.mem_take_iff_getElem.mpr ⟨j, by
                have := (List.getElem?_eq_some_iff.mp hr').1
                omega, (List.getElem?_eq_some_iff.mp hr').2⟩)
              rw [gk, hm] at h2
              cases h2
            rw [Bool.eq_false_iff.mpr h1, Bool.false_and]
          have h3 := q H3 xx
          rw [this] at h3
          exact h3
        have ru : ∀ {n : Nat}, n < 3 → atI (r.map V.int) (n : Int) = some (V.int (r.getD n 0)) := fun {n} hn => at_sd (w2 mr hn)
        have rk : ∀ {n : Nat}, n < 3 → atI (ts[k].map V.int) (n : Int) = some (V.int (ts[k].getD n 0)) := fun {n} hn => at_sd (w2 mk hn)
        have ak : atI (as.map V.ref) (k : Nat) = some (V.ref bk) := atI_nat (by rw [List.getElem?_map, hbk]; rfl)
        refine ⟨_, rfl, b, _, 2, _, rfl, rfl, xx.tup hq, ru (by decide), _, rfl, _, rfl, a, _, _, _, rfl, rfl, xx.seq hS, ak, bk, _, 2, _, rfl, rfl, xx.tup hqk, rk (by decide), rfl, _, rfl, ?_⟩
        rw [vint_dec]
        by_cases c2 : r.getD 2 0 = ts[k].getD 2 0
        · rw [decide_eq_true c2]
          refine iteT ?_
          refine ⟨_, rfl, b, _, 0, _, rfl, rfl, xx.tup hq, ru (by decide), _, rfl, _, rfl, a, _, _, _, rfl, rfl, xx.seq hS, ak, bk, _, 0, _, rfl, rfl, xx.tup hqk, rk (by decide), rfl, _, rfl, ?_⟩
          rw [vint_dec]
          by_cases c0 : r.getD 0 0 = ts[k].getD 0 0
          · rw [decide_eq_true c0]
            refine iteT (iteT ?_)
            exact stop (by unfold meets; rw [decide_eq_true c2, decide_eq_true c0]; rfl)
          · rw [decide_eq_false c0]
            refine iteF ?_
            refine ⟨_, rfl, b, _, 1, _, rfl, rfl, xx.tup hq, ru (by decide), _, rfl, _, rfl, a, _, _, _, rfl, rfl, xx.seq hS, ak, bk, _, 1, _, rfl, rfl, xx.tup hqk, rk (by decide), rfl, _, rfl, ?_⟩
            rw [vint_dec]
            by_cases c1 : r.getD 1 0 = ts[k].getD 1 0
            · rw [decide_eq_true c1]
              refine iteT ?_
              exact stop (by unfold meets; rw [decide_eq_true c2, decide_eq_true c1, Bool.or_true]; rfl)
            · rw [decide_eq_false c1]
              refine iteF ?_
              exact go (by unfold meets; rw [decide_eq_false c0, decide_eq_false c1]; simp)
        · rw [decide_eq_false c2]
          refine iteF (iteF ?_)
          exact go (by unfold meets; rw [decide_eq_false c2]; rfl)
      · rintro σ H3 ⟨v2, rfl, x3, hA⟩
        refine ⟨_, _, rfl, x.trans (x1.trans x3), fun j hj o ho => ?_⟩
        by_cases e : j = k
        · subst e
          refine hA o ?_
          rw [List.length_take, lx, Nat.min_eq_left (Nat.le_of_lt hk)]
          exact ho
        · exact hAp j (by omega) o ho
    · rintro σ H2 ⟨v1, v2, rfl, x, hAp⟩
      have hap : apart ts = true := by
        unfold apart
        rw [List.all_eq_true]
        intro k hk
        rw [List.all_eq_true]
        intro o ho
        rw [hAp k (List.mem_range.mp hk) o ho]
        rfl
      refine ⟨_, rfl, a, rfl, ⟨_, x.seq hS⟩, fun D nD => lc_list (K := K) (a := a) (xs := as.map V.ref)
        (fun j H3 => ∃ bs, Ext Ps H2 H3 ∧ H3 D = some (.lst (bs.map V.ref)) ∧ Each K H3 bs ((ts.take j).filter fun r => decide (((count ts : Nat) : Int) ≤ r.getD 2 0)) ∧ bs.length ≤ j)
        ⟨[], .new nD, upd_same, .nil, Nat.le_refl _⟩ (fun j H3 _ ⟨_, y, _⟩ => y.seq (x.seq hS)) ?_ ?_⟩
      · rintro j y H3 hj ⟨bs, x3, hD, hB, hl⟩
        obtain ⟨b, r, rfl, hb, hr', hq⟩ := hE.val hj
        have mr : r ∈ ts := List.mem_of_getElem? hr'
        have jl := (List.getElem?_eq_some_iff.mp hr').1
        refine ⟨rfl, ?_⟩
        refine ⟨_, rfl, b, _, 2, _, rfl, rfl, (x.trans x3).tup hq, at_sd (sd := 2) (w2 mr (by decide)), ?_⟩
        refine ⟨_, rfl, a, ts, rfl, (x.trans x3).rows hR, fun r h => by rw [hw r h]; decide, by omega, fun H4 x4 => ?_⟩
        refine ⟨_, _, rfl, rfl, _, rfl, ?_⟩
        by_cases c : ((count ts : Nat) : Int) ≤ r.getD 2 0
        · rw [decide_eq_true c]
          refine iteT ?_
          refine ⟨_, rfl, _, x4.lst hD, ?_, bs ++ [b], (x3.trans x4).put nD, ?_, ?_, ?_⟩
          · rw [List.length_map]
            exact small1000 (by omega)
          · rw [upd_same, List.map_append]
            rfl
          · rw [take_one hr', List.filter_append]
            have e : ([r].filter fun r => decide (((count ts : Nat) : Int) ≤ r.getD 2 0)) = [r] := by
              rw [List.filter_cons, if_pos (decide_eq_true c), List.filter_nil]
            rw [e]
            have kp : ∀ {c : Addr} {ys : List V}, SqT K H4 c ys → SqT K (upd H4 D (.lst (bs.map V.ref ++ [.ref b]))) c ys := fun {c ys} h =>
              tup_upd (x4.lst hD) (fun _ => by intro z; cases z) (fun _ _ => by intro z; cases z) h
            refine Each.snoc ?_ (kp (((x.trans x3).trans x4).tup hq))
            exact Paired.mapP (x4.each hB) fun c ys h => kp h
          · rw [List.length_append, List.length_singleton]
            omega
        · rw [decide_eq_false c]
          refine iteF ?_
          refine ⟨bs, x3.trans x4, x4.lst hD, ?_, by omega⟩
          rw [take_one hr', List.filter_append]
          have e : ([r].filter fun r => decide (((count ts : Nat) : Int) ≤ r.getD 2 0)) = [] := by
            rw [List.filter_cons, if_neg (fun z => c (of_decide_eq_true z)), List.filter_nil]
          rw [e, List.append_nil]
          exact x4.each hB
      · rintro H3 ⟨bs, x3, hD, hB, hl⟩
        rw [lx, List.take_length] at hB
        refine ⟨by show 0 ≤ sizeLine; decide, fun p np => ?_⟩
        have x4 : Ext Ps H3 (upd H3 p (.lst [])) := .new np
        have dp : Dp K (upd H3 p (.lst [])) (.ref D) (rowsD (bad ts)) := dp_rows ⟨bs, SqL.of (x4.lst hD), x4.each hB⟩
        have dq : Dp K (upd H3 p (.lst [])) (.ref p) (rowsD []) := dp_rows ⟨[], SqL.of upd_same, .nil⟩
        refine ⟨_, _, dp, dq, shaped_rows _, shaped_rows _, ?_⟩
        rw [eqv_rows, bad_nil]
        have := q _ (x.trans (x3.trans x4))
        unfold due at this
        rw [hap, Bool.true_and] at this
        exact this
end
end K08

set_option Elab.async false
set_option linter.all false
set_option maxRecDepth 100000
set_option maxHeartbeats 4000000
namespace K08
open PySem PySem.Spec PyProof.Rows L2 Own
abbrev s_l_spoilt : Stmt := topS 13
abbrev N_l_spoilt : List Str := ["_law_rows_here", "_law_cell", "_law_at", "_law_left", "_law_right", "_law_hue"]
theorem sc_l_spoilt : FnScope N_l_spoilt ["_law_rows_here", "_law_cell"] (defScope s_l_spoilt) := ⟨rfl, rfl, rfl, by decide +kernel, rfl, by decide +kernel, by decide +kernel⟩
section
variable {P : Program} {w : World} {K : PySem.W.Frag} {mg : Str → Option Value} {base : Heap} {t0 t1 t2 : Tok}
def spSpoilt (K : PySem.W.Frag) (Ps : List Addr) : Sp := fun vs H Q _ => ∃ (a : Addr) (as : List Addr) (ts : List Row) (c : Int), vs = [.ref a, .int c] ∧ H a = some (.lst (as.map V.ref)) ∧ Each K H as ts ∧ (∀ r ∈ ts, r.length = 3) ∧ ts.length ≤ 30 ∧
  ∀ p ts' H', Ext Ps H H' → Rows K H' p ts' → (∀ r ∈ ts', r.length = 3) → ts'.length ≤ 31 → Q (.ref p) H'
theorem ok_spoilt {f : Addr} {fd : FuncData} {Ps : List Addr} (F : Fun K "_law_spoilt" "_law_spoilt" s_l_spoilt f fd) (T : Bi mg t0 t1 t2) : FnOk P w K mg base CX0 1 f fd ["_law_rows_here", "_law_cell"] (spSpoilt K Ps) := by
  refine F.ok sc_l_spoilt (fun vs H Q E h => ?_) (fun cdv A outer s H vs Q E hr h => ?_)
  · obtain ⟨a, as, ts, c, rfl, _⟩ := h
    rfl
  · obtain ⟨a, as, ts, c, rfl, hL, hE, hw, hlen, q⟩ := h
    have hR : Rows K H a ts := ⟨as, SqL.of hL, hE⟩
    refine ⟨_, (pss_cons (ps_if (PW.pt (pw_or (pt_cmpR (eqD K hr.units) (pv 0) (pe_lst pa_nil) (nomark _)) (pw_or1 (pt_cmpR op_eq (pe_op op_mod (pv 1) pe_int) pe_int (nomark _))))) 
      (pss_one (ps_ret (pv 0))) pss_nil)
    (pss_cons (ps_set (i := 2) sc_l_spoilt.nd rfl (.inl rfl) (pe_op op_mod (pe_op op_fdiv (pv 1) pe_int) (pe_callB (lenQ K) (by rfl) T.z_len PySem.boot_len (pa_cons (pv 0) pa_nil))))
    (pss_cons (ps_asg (pe_ix (ixL K) (pv 0) (pv 2) (fun _ _ => rfl)) (pg_tup rfl (pgs_cons (pg_name (i := 3) sc_l_spoilt.nd rfl (.inl rfl)) (pgs_cons (pg_name (i := 4) sc_l_spoilt.nd rfl (.inl rfl)) (pgs_cons (pg_name (i := 5) sc_l_spoilt.nd rfl (.inl rfl)) pgs_nil)))))
    (pss_cons (ps_if (pt_cmpR op_eq (pe_op op_mod (pv 1) pe_int) pe_int (nomark _)) 
      (pss_one (ps_ret (pe_op op_cat (pe_op op_cat (pe_slice (slL K) (pv 0) po_none (po_some (pv 2))) (pe_lst (pa_cons (pe_tup (pa_cons (pv 3) (pa_cons (pv 4) (pa_cons (pe_op op_mod (pe_op op_fdiv (pv 1) pe_int) pe_int) pa_nil)))) pa_nil))) (pe_slice (slL K) (pv 0) (po_some (pe_op op_add (pv 2) pe_int)) po_none)))) pss_nil)
    (pss_cons (ps_if (pt_cmpR op_eq (pe_op op_mod (pv 1) pe_int) pe_int (nomark _)) 
      (pss_one (ps_ret (pe_op op_cat (pe_slice (slL K) (pv 0) po_none (po_some (pv 2))) (pe_slice (slL K) (pv 0) (po_some (pe_op op_add (pv 2) pe_int)) po_none)))) pss_nil)
    (pss_one (ps_ret (pe_op op_cat (pv 0) (pe_lst (pa_cons (pe_ix (ixL K) (pv 0) (pv 2) (fun _ _ => rfl)) pa_nil)))))))))), ?_⟩
    -- if rows == [] or cell % 4 == 0
    refine ⟨_, rfl, by show 0 ≤ sizeLine; decide, fun p np => ?_⟩
    have x1 : Ext Ps H (upd H p (.lst [])) := .new np
    refine ⟨_, _, dp_rows (x1.rows hR), dp_rows (ts := []) ⟨[], SqL.of upd_same, .nil⟩, shaped_rows _, shaped_rows _, _, rfl, ?_⟩
    rw [eqv_rows]
    by_cases e0 : ts = []
    · rw [decide_eq_true e0]
      refine iteT (iteT ?_)
      exact ⟨_, rfl, q a ts _ x1 (x1.rows hR) hw (by omega)⟩
    · rw [decide_eq_false e0]
      refine iteF ?_
      refine ⟨_, rfl, _, _, rfl, rfl, (by show (0 : Int) < 4; decide), rfl, _, rfl, ?_⟩
      rw [vint_dec]
      by_cases e1 : c % 4 = 0
      · rw [decide_eq_true e1]
        refine iteT ?_
        exact ⟨_, rfl, q a ts _ x1 (x1.rows hR) hw (by omega)⟩
      · rw [decide_eq_false e1]
        refine iteF ?_
        have lpos : 0 < ts.length := List.length_pos_iff.mpr e0
        have lx : (as.map V.ref).length = ts.length := by
          rw [List.length_map]
          exact hE.len
        -- at
        refine ⟨_, rfl, _, _, rfl, rfl, ⟨by decide, by decide⟩, _, rfl, a, _, rfl, .inl (SqL.of (x1.lst hL)), _, _, rfl, rfl, (by show (0 : Int) < _; omega), ?_⟩
        have n0 : 0 ≤ c / 4 % ((as.map V.ref).length : Nat) := Int.emod_nonneg _ (by omega)
        have n1 : c / 4 % ((as.map V.ref).length : Nat) < ((as.map V.ref).length : Nat) := Int.emod_lt_of_pos _ (by omega)
        dsimp only
        generalize c / 4 % ((as.map V.ref).length : Nat) = z at n0 n1 ⊢
        obtain ⟨i, rfl⟩ : ∃ i : Nat, z = (i : Nat) := ⟨z.toNat, by omega⟩
        have hi : i < ts.length := by omega
        obtain ⟨b, hb, hq⟩ := hE.at (List.getElem?_eq_getElem hi)
        have mi : ts[i] ∈ ts := List.getElem_mem hi
        have ai : atI (as.map V.ref) (i : Nat) = some (V.ref b) := atI_nat (by rw [List.getElem?_map, hb]; rfl)
        obtain ⟨l, r, h, er⟩ : ∃ l r h, ts[i] = [l, r, h] := by
          have := hw _ mi
          match ts[i], this with
          | [l, r, h], _ => exact ⟨l, r, h, rfl⟩
        rw [er] at hq
        refine ⟨_, rfl, _, rfl, a, _, _, _, rfl, rfl, SqL.of (x1.lst hL), ai, b, _, rfl, x1.tup hq, rfl, _, _, rfl, _, _, rfl, _, _, rfl, rfl, ?_⟩
        have pre : ∀ ts' : List Row, (∀ x ∈ ts', x ∈ ts ∨ x.length = 3) → ∀ x ∈ ts', x.length = 3 := fun ts' h x hx => (h x hx).elim (hw x) id
        have line : 1000 ≤ sizeLine := by decide
        -- if cell % 4 == 1
        refine ⟨_, rfl, _, _, rfl, rfl, (by show (0 : Int) < 4; decide), rfl, _, rfl, ?_⟩
        rw [vint_dec]
        by_cases e2 : c % 4 = 1
        · rw [decide_eq_true e2]
          refine iteT ?_
          refine ⟨_, rfl, _, rfl, _, rfl, a, _, rfl, SqL.of (x1.lst hL), fun p1 np1 => ?_⟩
          rw [cut_j]
          have x2 := x1.trans (.new (o := .lst ((as.map V.ref).take i)) np1)
          have h1 : (upd (upd H p (.lst [])) p1 (.lst ((as.map V.ref).take i))) p1 = _ := upd_same
          revert x2 h1
          generalize upd (upd H p (.lst [])) p1 (.lst ((as.map V.ref).take i)) = H2
          intro x2 h1
          refine ⟨_, rfl, _, rfl, _, rfl, _, _, rfl, rfl, ⟨by decide, by decide⟩, _, _, rfl, rfl, (by show (0 : Int) < 9; decide), (by show 3 ≤ sizeLine; decide), fun p2 np2 => ?_⟩
          have y3 : Ext Ps H2 (upd H2 p2 (.tup [.int l, .int r, .int (c / 400 % 9)])) := .new np2
          have h2 : (upd H2 p2 (.tup [.int l, .int r, .int (c / 400 % 9)])) p2 = _ := upd_same
          revert y3 h2
          generalize upd H2 p2 (.tup [.int l, .int r, .int (c / 400 % 9)]) = H3
          intro y3 h2
          refine ⟨(by show 1 ≤ sizeLine; decide), fun p3 np3 => ?_⟩
          have y4 : Ext Ps H3 (upd H3 p3 (.lst [.ref p2])) := .new np3
          have h3 : (upd H3 p3 (.lst [.ref p2])) p3 = _ := upd_same
          revert y4 h3
          generalize upd H3 p3 (.lst [.ref p2]) = H4
          intro y4 h3
          refine ⟨p1, p3, _, _, rfl, rfl, y4.lst (y3.lst h1), h3, ?_, fun p4 np4 => ?_⟩
          · rw [List.length_take, List.length_singleton]
            omega
          have y5 : Ext Ps H4 (upd H4 p4 (.lst ((as.map V.ref).take i ++ [.ref p2]))) := .new np4
          have h4 : (upd H4 p4 (.lst ((as.map V.ref).take i ++ [.ref p2]))) p4 = _ := upd_same
          revert y5 h4
          generalize upd H4 p4 (.lst ((as.map V.ref).take i ++ [.ref p2])) = H5
          intro y5 h4
          have x5 := x2.trans (y3.trans (y4.trans y5))
          refine ⟨_, rfl, _, rfl, _, _, rfl, rfl, ((i + 1 : Nat) : Int), rfl, a, _, rfl, SqL.of (x5.lst hL), fun p5 np5 => ?_⟩
          rw [cut_i]
          have y6 : Ext Ps H5 (upd H5 p5 (.lst ((as.map V.ref).drop (i + 1)))) := .new np5
          have h5 : (upd H5 p5 (.lst ((as.map V.ref).drop (i + 1)))) p5 = _ := upd_same
          revert y6 h5
          generalize upd H5 p5 (.lst ((as.map V.ref).drop (i + 1))) = H6
          intro y6 h5
          refine ⟨p4, p5, _, _, rfl, rfl, y6.lst h4, h5, ?_, fun p6 np6 => ?_⟩
          · rw [List.length_append, List.length_take, List.length_singleton, List.length_drop]
            omega
          have y7 : Ext Ps H6 (upd H6 p6 (.lst ((as.map V.ref).take i ++ [.ref p2] ++ (as.map V.ref).drop (i + 1)))) := .new np6
          have x7 := (x5.trans y6).trans y7
          have y47 := y4.trans (y5.trans (y6.trans y7))
          refine q p6 (ts.take i ++ [[l, r, c / 400 % 9]] ++ ts.drop (i + 1)) _ x7 ⟨as.take i ++ [p2] ++ as.drop (i + 1), SqL.of ?_, ?_⟩ (pre _ fun x hx => ?_) ?_
          · rw [upd_same, List.map_append, List.map_append, List.map_take, List.map_drop]
            rfl
          · refine Each.app (Each.snoc ((x7.each hE).take i) (y47.tup (.inl (.inl ?_)))) ((x7.each hE).drop (i + 1))
            exact h2
          · rcases List.mem_append.mp hx with hx | hx
            · rcases List.mem_append.mp hx with hx | hx
              · exact .inl (List.mem_of_mem_take hx)
              · rw [List.mem_singleton.mp hx]
                exact .inr rfl
            · exact .inl (List.mem_of_mem_drop hx)
          · simp only [List.length_append, List.length_take, List.length_drop, List.length_singleton]
            omega
        · rw [decide_eq_false e2]
          refine iteF ?_
          refine ⟨_, rfl, _, _, rfl, rfl, (by show (0 : Int) < 4; decide), rfl, _, rfl, ?_⟩
          rw [vint_dec]
          by_cases e3 : c % 4 = 2
          · rw [decide_eq_true e3]
            refine iteT ?_
            refine ⟨_, rfl, _, rfl, _, rfl, a, _, rfl, SqL.of (x1.lst hL), fun p1 np1 => ?_⟩
            rw [cut_j]
            have x2 := x1.trans (.new (o := .lst ((as.map V.ref).take i)) np1)
            have h1 : (upd (upd H p (.lst [])) p1 (.lst ((as.map V.ref).take i))) p1 = _ := upd_same
            revert x2 h1
            generalize upd (upd H p (.lst [])) p1 (.lst ((as.map V.ref).take i)) = H2
            intro x2 h1
            refine ⟨_, rfl, _, rfl, _, _, rfl, rfl, ((i + 1 : Nat) : Int), rfl, a, _, rfl, SqL.of (x2.lst hL), fun p5 np5 => ?_⟩
            rw [cut_i]
            have y6 : Ext Ps H2 (upd H2 p5 (.lst ((as.map V.ref).drop (i + 1)))) := .new np5
            have h5 : (upd H2 p5 (.lst ((as.map V.ref).drop (i + 1)))) p5 = _ := upd_same
            revert y6 h5
            generalize upd H2 p5 (.lst ((as.map V.ref).drop (i + 1))) = H6
            intro y6 h5
            refine ⟨p1, p5, _, _, rfl, rfl, y6.lst h1, h5, ?_, fun p6 np6 => ?_⟩
            · rw [List.length_take, List.length_drop]
              omega
            have y7 : Ext Ps H6 (upd H6 p6 (.lst ((as.map V.ref).take i ++ (as.map V.ref).drop (i + 1)))) := .new np6
            have x7 := (x2.trans y6).trans y7
            refine q p6 (ts.take i ++ ts.drop (i + 1)) _ x7 ⟨as.take i ++ as.drop (i + 1), SqL.of ?_, ?_⟩ (pre _ fun x hx => ?_) ?_
            · rw [upd_same, List.map_append, List.map_take, List.map_drop]
            · exact Each.app ((x7.each hE).take i) ((x7.each hE).drop (i + 1))
            · rcases List.mem_append.mp hx with hx | hx
              · exact .inl (List.mem_of_mem_take hx)
              · exact .inl (List.mem_of_mem_drop hx)
            · simp only [List.length_append, List.length_take, List.length_drop]
              omega
          · rw [decide_eq_false e3]
            refine iteF ?_
            refine ⟨_, rfl, _, rfl, _, rfl, a, _, _, _, rfl, rfl, SqL.of (x1.lst hL), ai, (by show 1 ≤ sizeLine; decide), fun p3 np3 => ?_⟩
            have x2 := x1.trans (.new (o := .lst [.ref b]) np3)
            have h3 : (upd (upd H p (.lst [])) p3 (.lst [.ref b])) p3 = _ := upd_same
            revert x2 h3
            generalize upd (upd H p (.lst [])) p3 (.lst [.ref b]) = H2
            intro x2 h3
            refine ⟨a, p3, _, _, rfl, rfl, x2.lst hL, h3, ?_, fun p6 np6 => ?_⟩
            · rw [List.length_singleton]
              omega
            have y7 : Ext Ps H2 (upd H2 p6 (.lst (as.map V.ref ++ [.ref b]))) := .new np6
            have x7 := x2.trans y7
            refine q p6 (ts ++ [ts[i]]) _ x7 ⟨as ++ [b], SqL.of ?_, ?_⟩ (pre _ fun x hx => ?_) ?_
            · rw [upd_same, List.map_append]
              rfl
            · refine Each.snoc (x7.each hE) ?_
              rw [er]
              exact x7.tup hq
            · rcases List.mem_append.mp hx with hx | hx
              · exact .inl hx
              · rw [List.mem_singleton.mp hx]
                exact .inl mi
            · simp only [List.length_append, List.length_singleton]
              omega
end
end K08

set_option Elab.async false
set_option linter.all false
set_option maxRecDepth 100000
set_option maxHeartbeats 4000000
namespace K08
open PySem PySem.Spec PyProof.Rows L2 Own
abbrev s_l_rows : Stmt := topS 12
abbrev N_l_rows : List Str := ["_law_script", "_law_rows_here", "_law_wide", "_law_far", "_law_k", "_law_cell", "_law_mixed_here", "_law_left", "_law_right", "_law_taken", "_law_row", "_law_hue"]
theorem sc_l_rows : FnScope N_l_rows ["_law_script"] (defScope s_l_rows) := ⟨rfl, rfl, rfl, by decide +kernel, rfl, by decide +kernel, by decide +kernel⟩
/-- one of the first n numbers is not among fewer taken -/
theorem some_free (n : Nat) (tk : List Int) (h : tk.length < n) : ∃ i : Nat, i < n ∧ ((i : Nat) : Int) ∉ tk := by
  by_cases a : ∃ i : Nat, i < n ∧ ((i : Nat) : Int) ∉ tk
  · exact a
  · exfalso
    have all : ∀ x ∈ (List.range n).map (fun i : Nat => (i : Int)), x ∈ tk := fun x hx => by
      obtain ⟨i, hi, rfl⟩ := List.mem_map.mp hx
      by_cases m : ((i : Nat) : Int) ∈ tk
      · exact m
      · exact absurd ⟨i, List.mem_range.mp hi, m⟩ a
    have nd : ((List.range n).map (fun i : Nat => (i : Int))).Nodup := by
      rw [List.nodup_iff_pairwise_ne, List.pairwise_map]
      exact (List.nodup_iff_pairwise_ne.mp List.nodup_range).imp fun hne e => hne (by omega)
    have := len_le _ tk nd all
    rw [List.length_map, List.length_range] at this
    omega
theorem in_ints (z : Int) : ∀ l : List Int, inV (.int z) (l.map V.int) = decide (z ∈ l)
  | [] => rfl
  | y :: r => by
    have h := in_ints z r
    unfold inV at h ⊢
    rw [List.map_cons, List.any_cons, h, Bool.eq_iff_iff]
    simp only [Bool.or_eq_true, decide_eq_true_eq, List.mem_cons]
    have e : eqV (V.int y) (V.int z) = true ↔ z = y := by
      show (y == z) = true ↔ _
      rw [beq_iff_eq]
      exact eq_comm
    rw [e]
theorem flat_ints (l : List Int) : (l.map V.int).all flatV = true := by
  rw [List.all_map, List.all_eq_true]
  intro x _
  rfl
section
variable {P : Program} {w : World} {K : PySem.W.Frag} {mg : Str → Option Value} {base : Heap} {t0 t1 t2 : Tok}
def spRows (K : PySem.W.Frag) (Ps : List Addr) : Sp := fun vs H Q _ => ∃ (a : Addr) (ns : List Int), vs = [.ref a] ∧ SqL K H a (ns.map V.int) ∧
  ∀ p as ts H', Ext Ps H H' → H' p = some (.lst (as.map V.ref)) → Each K H' as ts → (∀ r ∈ ts, r.length = 3) → ts.length ≤ 30 → Q (.ref p) H'
theorem ok_rows {f fA fX : Addr} {fd fdA fdX : FuncData} {Ps : List Addr} (F : Fun K "_law_rows" "_law_rows" s_l_rows f fd) (T : Bi mg t0 t1 t2)
    (DA : Df K mg "_law_cell_at" s_l_cell_at ["_law_script", "_law_k"] fA fdA) (DX : Df K mg "_law_mixed" s_l_mixed ["_law_cell", "_law_k"] fX fdX) : FnOk P w K mg base CX0 2 f fd ["_law_script"] (spRows K Ps) := by
  have GA : FnOk P w K mg base CX0 1 fA fdA ["_law_script", "_law_k"] (spCellAt K) := ok_cellAt DA.F T
  have GX : FnOk P w K mg base CX0 1 fX fdX ["_law_cell", "_law_k"] spMixed := ok_mixed DX.F
  refine F.ok sc_l_rows (fun vs H Q E h => ?_) (fun cdv A outer s H vs Q E hr h => ?_)
  · obtain ⟨a, ns, rfl, _⟩ := h
    rfl
  · obtain ⟨a, ns, rfl, hS, q⟩ := h
    refine ⟨_, (pss_cons (ps_set (i := 1) sc_l_rows.nd rfl (.inl rfl) (pe_lst pa_nil))
    (pss_cons (ps_set (i := 2) sc_l_rows.nd rfl (.inl rfl) (pe_ix (ixL K) (pe_lst (pa_cons pe_int (pa_cons pe_int (pa_cons pe_int (pa_cons pe_int pa_nil))))) (pe_op op_mod (pe_call GA (hr.mono (by decide)) rfl DA.g DA.F.kp DA.b .nil pass0 (pa_cons (pv 0) (pa_cons pe_int pa_nil))) pe_int) (fun _ _ => rfl)))
    (pss_cons (ps_set (i := 3) sc_l_rows.nd rfl (.inl rfl) (pe_ix (ixL K) (pe_lst (pa_cons pe_int (pa_cons pe_int (pa_cons pe_int (pa_cons (pe_op op_pow pe_int pe_int) pa_nil))))) (pe_op op_mod (pe_op op_fdiv (pe_call GA (hr.mono (by decide)) rfl DA.g DA.F.kp DA.b .nil pass0 (pa_cons (pv 0) (pa_cons pe_int pa_nil))) pe_int) pe_int) (fun _ _ => rfl)))
    (pss_cons (ps_for PassesOwn.never rfl (pi_enum (by rfl) T.z_enumerate (pa_cons (pe_slice (slL K) (pv 0) (po_some pe_int) (po_some pe_int)) pa_nil)) (pg_tup rfl (pgs_cons (pg_name (i := 4) sc_l_rows.nd rfl (.inl rfl)) (pgs_cons (pg_name (i := 5) sc_l_rows.nd rfl (.inl rfl)) pgs_nil))) 
      (pss_cons (ps_set (i := 6) sc_l_rows.nd rfl (.inl rfl) (pe_call GX (hr.mono (by decide)) rfl DX.g DX.F.kp DX.b .nil pass0 (pa_cons (pv 5) (pa_cons (pv 4) pa_nil))))
      (pss_cons (ps_set (i := 7) sc_l_rows.nd rfl (.inr rfl) (pe_op op_add (pe_op op_mod (pv 6) (pv 2)) (pe_op op_mul (pv 3) (pe_op op_mod (pe_op op_fdiv (pv 6) pe_int) pe_int))))
      (pss_cons (ps_set (i := 8) sc_l_rows.nd rfl (.inr rfl) (pe_op op_add (pe_op op_mod (pe_op op_fdiv (pv 6) pe_int) (pv 2)) (pe_op op_mul (pv 3) (pe_op op_mod (pe_op op_fdiv (pv 6) pe_int) pe_int))))
      (pss_cons (ps_set (i := 9) sc_l_rows.nd rfl (.inr rfl) (pe_lc rfl sc_l_rows.nd (own := [("_law_row", 10)]) (pi_list (pv 1)) (blkOk_by (N := N_l_rows) (sc := defScope s_l_rows) (by decide +kernel)) (fun _ _ _ _ _ => (pg_name (i := 10) sc_l_rows.nd rfl (.inl rfl))) (fun _ _ _ _ _ => (pts_one (PW.pt (pw_or (pt_cmpR op_eq (pe_ix (ixT K) (pv 10) pe_int (fun _ _ => rfl)) (pv 7) (nomark _)) (pw_or1 (pt_cmpR op_eq (pe_ix (ixT K) (pv 10) pe_int (fun _ _ => rfl)) (pv 8) (nomark _))))))) (fun _ _ _ _ _ => (pe_ix (ixT K) (pv 10) pe_int (fun _ _ => rfl)))))
      (pss_one (ps_expr (bmC K (pe_bm PySem.F.plainAttrs_list PySem.F.slot_list_append PySem.F.type_list_append mt_append (pv 1) (pa_cons (pe_tup (pa_cons (pv 7) (pa_cons (pv 8) (pa_cons (pe_callB (minL K rfl) (by rfl) T.z_min (by decide +kernel) (pa_cons (pe_lc rfl sc_l_rows.nd (own := [("_law_hue", 11)]) (pi_range1 rfl T.z_range (pa_cons (pe_op op_add (pe_callB (lenQ K) (by rfl) T.z_len PySem.boot_len (pa_cons (pv 1) pa_nil)) pe_int) pa_nil)) (blkOk_by (N := N_l_rows) (sc := defScope s_l_rows) (by decide +kernel)) (fun _ _ _ _ _ => (pg_name (i := 11) sc_l_rows.nd rfl (.inl rfl))) (fun _ _ _ _ _ => (pts_one (pt_cmpR (ninS K) (pv 11) (pv 9) (by rfl)))) (fun _ _ _ _ _ => (pv 11))) pa_nil)) pa_nil)))) pa_nil))))))))))
    (pss_one (ps_ret (pv 1))))))), ?_⟩
    -- rows = []
    refine ⟨by show 0 ≤ sizeLine; decide, fun D nD => ?_⟩
    have x0 : Ext Ps H (upd H D (.lst [])) := .new nD
    have hD0 : (upd H D (.lst [])) D = some (.lst (([] : List Addr).map V.ref)) := upd_same
    revert x0 hD0
    generalize upd H D (.lst []) = H0
    intro x0 hD0
    -- wide
    refine ⟨by show 4 ≤ sizeLine; decide, fun p1 np1 => ?_⟩
    have x1 : Ext Ps H0 (upd H0 p1 (.lst [.int 2, .int 3, .int 5, .int 8])) := .new np1
    have h1 : (upd H0 p1 (.lst [.int 2, .int 3, .int 5, .int 8])) p1 = _ := upd_same
    revert x1 h1
    generalize upd H0 p1 (.lst [.int 2, .int 3, .int 5, .int 8]) = H1
    intro x1 h1
    refine ⟨_, rfl, a, ns, 0, rfl, (x0.trans x1).seq hS, ?_⟩
    generalize ns.getD 0 0 = z0
    refine ⟨_, _, rfl, rfl, (by show (0 : Int) < 4; decide), ?_⟩
    have four : ∀ z : Int, ∃ k : Nat, k < 4 ∧ z % 4 = (k : Nat) := fun z => ⟨(z % 4).toNat, by omega, by omega⟩
    obtain ⟨k1, hk1, e1⟩ := four z0
    dsimp only
    rw [e1]
    obtain ⟨wd, hwd, pw⟩ : ∃ wd : Int, ([V.int 2, V.int 3, V.int 5, V.int 8] : List V)[k1]? = some (V.int wd) ∧ 0 < wd := by
      match k1, hk1 with
      | 0, _ => exact ⟨2, rfl, by decide⟩
      | 1, _ => exact ⟨3, rfl, by decide⟩
      | 2, _ => exact ⟨5, rfl, by decide⟩
      | 3, _ => exact ⟨8, rfl, by decide⟩
    refine ⟨p1, _, _, _, rfl, rfl, SqL.of h1, atI_nat hwd, ?_⟩
    -- far
    refine ⟨_, _, rfl, rfl, ⟨by decide, by decide, by decide⟩, by show 4 ≤ sizeLine; decide, fun p2 np2 => ?_⟩
    dsimp only
    have x2 : Ext Ps H1 (upd H1 p2 (.lst [.int 0, .int 0, .int 0, .int (10 ^ (20 : Int).toNat)])) := .new np2
    have h2 : (upd H1 p2 (.lst [.int 0, .int 0, .int 0, .int (10 ^ (20 : Int).toNat)])) p2 = _ := upd_same
    revert x2 h2
    generalize upd H1 p2 (.lst [.int 0, .int 0, .int 0, .int (10 ^ (20 : Int).toNat)]) = H2
    intro x2 h2
    refine ⟨_, rfl, a, ns, 0, rfl, (x0.trans (x1.trans x2)).seq hS, ?_⟩
    generalize ns.getD 0 0 = z1
    refine ⟨_, _, rfl, rfl, ⟨by decide, by decide⟩, _, _, rfl, rfl, (by show (0 : Int) < 4; decide), ?_⟩
    obtain ⟨k2, hk2, e2⟩ := four (z1 / 4)
    dsimp only
    rw [e2]
    obtain ⟨fr, hfr⟩ : ∃ fr : Int, ([V.int 0, V.int 0, V.int 0, V.int (10 ^ (20 : Int).toNat)] : List V)[k2]? = some (V.int fr) := by
      match k2, hk2 with
      | 0, _ => exact ⟨_, rfl⟩
      | 1, _ => exact ⟨_, rfl⟩
      | 2, _ => exact ⟨_, rfl⟩
      | 3, _ => exact ⟨_, rfl⟩
    refine ⟨p2, _, _, _, rfl, rfl, SqL.of h2, atI_nat hfr, ?_⟩
    -- script[2:32]
    have x02 := x0.trans (x1.trans x2)
    refine ⟨_, rfl, 2, rfl, 32, rfl, a, _, rfl, x02.seq hS, fun p3 np3 => ?_⟩
    have ec : cutV (ns.map V.int) (some 2) (some 32) = ((ns.drop 2).take 30).map V.int := by
      show cutV _ (some ((2 : Nat) : Int)) (some ((32 : Nat) : Int)) = _
      rw [cut_ij (ns.map V.int) 2 32, List.map_take, List.map_drop]
    rw [ec]
    have nDp : p3 ≠ D := (ne_of_none (x2.lst (x1.lst hD0)) np3).symm
    have x3 : Ext Ps H2 (upd H2 p3 (.lst (((ns.drop 2).take 30).map V.int))) := .new np3
    have h3 : (upd H2 p3 (.lst (((ns.drop 2).take 30).map V.int))) p3 = _ := upd_same
    revert x3 h3
    generalize upd H2 p3 (.lst (((ns.drop 2).take 30).map V.int)) = H3
    intro x3 h3
    have hn3 : ((ns.drop 2).take 30).length ≤ 30 := by
      rw [List.length_take]
      omega
    generalize (ns.drop 2).take 30 = cs at h3 hn3
    have hD3 := x3.lst (x2.lst (x1.lst hD0))
    have x03 := x02.trans x3
    refine ⟨p3, _, rfl, SqL.of h3, for_enum (K := K) (a := p3) (xs := cs.map V.int) (fun i σ H4 => ∃ (v4 v5 v6 v7 v8 v9 : Option V) (as : List Addr) (ts : List Row),
      σ = [some (.ref a), some (.ref D), some (.int wd), some (.int fr), v4, v5, v6, v7, v8, v9, none, none] ∧ Ext Ps H H4 ∧ H4 p3 = some (.lst (cs.map V.int)) ∧ H4 D = some (.lst (as.map V.ref)) ∧ Each K H4 as ts ∧ (∀ r ∈ ts, r.length = 3) ∧ ts.length ≤ i)
      ⟨none, none, none, none, none, none, [], [], rfl, x03, h3, hD3, .nil, fun r hr => absurd hr (by simp), Nat.le_refl _⟩ (fun i σ H4 _ ⟨_, _, _, _, _, _, _, _, _, _, y, _⟩ => SqL.of y) ?_ ?_⟩
    · rintro i y σ H4 T0 hi ⟨v4, v5, v6, v7, v8, v9, as, ts, rfl, x4, hp, hD, hE, hw, hl⟩ nT
      have i30 : i < 30 := by
        have := (List.getElem?_eq_some_iff.mp hi).1
        rw [List.length_map] at this
        omega
      rw [List.getElem?_map] at hi
      obtain ⟨cell, hc, rfl⟩ := Option.map_eq_some_iff.mp hi
      have x5 : Ext Ps H4 (upd H4 T0 (.tup [.int (i : Nat), .int cell])) := .new nT
      have hT0 : (upd H4 T0 (.tup [.int (i : Nat), .int cell])) T0 = _ := upd_same
      revert x5 hT0
      generalize upd H4 T0 (.tup [.int (i : Nat), .int cell]) = H5
      intro x5 hT0
      refine ⟨T0, _, rfl, .inl (.inl hT0), rfl, _, _, rfl, _, _, rfl, rfl, ?_⟩
      -- mixed
      refine ⟨_, rfl, _, rfl, cell, (i : Nat), rfl, by omega, by omega, ?_⟩
      have mn := mixed_nn cell (i : Nat)
      generalize mixed cell (i : Nat) = m at mn
      -- left
      refine ⟨_, rfl, _, rfl, _, _, rfl, rfl, pw, _, rfl, _, rfl, _, _, rfl, rfl, ⟨by decide, by decide⟩, _, _, rfl, rfl, (by show (0 : Int) < 2; decide), _, _, rfl, rfl, .inr ⟨by omega, by omega⟩, _, _, rfl, rfl, ?_⟩
      dsimp only
      generalize m % wd + fr * (m / 64 % 2) = lf
      -- right
      refine ⟨_, rfl, _, _, rfl, rfl, ⟨by decide, by decide⟩, _, rfl, _, _, rfl, rfl, pw, _, rfl, _, rfl, _, _, rfl, rfl, ⟨by decide, by decide⟩, _, _, rfl, rfl, (by show (0 : Int) < 2; decide), _, _, rfl, rfl, .inr ⟨by omega, by omega⟩, _, _, rfl, rfl, ?_⟩
      dsimp only
      generalize m / 8 % wd + fr * (m / 128 % 2) = rg
      -- taken
      have hD5 := x5.lst hD
      have hE5 := x5.each hE
      have lx : (as.map V.ref).length = ts.length := by
        rw [List.length_map]
        exact hE.len
      refine ⟨_, rfl, D, rfl, ⟨_, SqL.of hD5⟩, fun p6 np6 => lc_list (K := K) (a := D) (xs := as.map V.ref)
        (fun j H6 => ∃ tk : List Int, Ext Ps H5 H6 ∧ H6 p6 = some (.lst (tk.map V.int)) ∧ tk.length ≤ j) ⟨[], .new np6, upd_same, Nat.le_refl _⟩ (fun j H6 _ ⟨_, y, _⟩ => SqL.of (y.lst hD5)) ?_ ?_⟩
      · rintro j y H6 hj ⟨tk, x6, hp6, hl6⟩
        obtain ⟨b, r, rfl, hb, hr', hq⟩ := hE5.val hj
        have lr := hw r (List.mem_of_getElem? hr')
        have jl := (List.getElem?_eq_some_iff.mp hr').1
        have at_ : ∀ {n : Nat}, n < 3 → atI (r.map V.int) (n : Int) = some (V.int (r.getD n 0)) := fun {n} hn => at_sd (by omega)
        have keep : ∃ acc, H6 p6 = some (.lst acc) ∧ acc.length < sizeLine ∧ ∃ tk' : List Int, Ext Ps H5 (upd H6 p6 (.lst (acc ++ [.int (r.getD 2 0)]))) ∧ (upd H6 p6 (.lst (acc ++ [.int (r.getD 2 0)]))) p6 = some (.lst (tk'.map V.int)) ∧ tk'.length ≤ j + 1 :=
          ⟨_, hp6, by rw [List.length_map]; exact small1000 (by omega), tk ++ [r.getD 2 0], x6.put np6, by rw [upd_same, List.map_append]; rfl, by rw [List.length_append, List.length_singleton]; omega⟩
        refine ⟨rfl, ?_⟩
        refine ⟨_, rfl, b, _, 0, _, rfl, rfl, x6.tup hq, at_ (by decide), _, rfl, rfl, _, rfl, ?_⟩
        refine ite2 (fun c0 => ?_) (fun c0 => ?_)
        · refine iteT ?_
          exact ⟨_, rfl, b, _, 2, _, rfl, rfl, x6.tup hq, at_ (by decide), keep⟩
        · refine ⟨_, rfl, b, _, 1, _, rfl, rfl, x6.tup hq, at_ (by decide), _, rfl, rfl, _, rfl, ?_⟩
          refine ite2 (fun c1 => ?_) (fun c1 => ?_)
          · exact ⟨_, rfl, b, _, 2, _, rfl, rfl, x6.tup hq, at_ (by decide), keep⟩
          · exact ⟨tk, x6, hp6, by omega⟩
      · rintro H6 ⟨tk, x6, hp6, hl6⟩
        rw [lx] at hl6
        -- append((left, right, min([...])))
        have hD6 := x6.lst hD5
        refine ⟨_, rfl, .inl ⟨rfl, _, SqL.of hD6⟩, ?_⟩
        refine ⟨_, rfl, _, rfl, _, rfl, D, _, rfl, .inl (SqL.of hD6), _, _, rfl, rfl, ((ts.length + 1 : Nat) : Int), ?_, by omega, by omega, ?_⟩
        · rw [lx]
          rfl
        have en : (((ts.length + 1 : Nat) : Int)).toNat = ts.length + 1 := by omega
        rw [en]
        refine fun p7 np7 => lc_range (lo := 0) (n := ts.length + 1) (fun j H7 => ∃ fs : List Int, Ext Ps H6 H7 ∧ H7 p7 = some (.lst (fs.map V.int)) ∧ fs.length ≤ j ∧ ∀ n : Nat, n < j → ((n : Nat) : Int) ∉ tk → ((n : Nat) : Int) ∈ fs)
          ⟨[], .new np7, upd_same, Nat.le_refl _, fun n hn => absurd hn (Nat.not_lt_zero _)⟩ ?_ ?_
        · rintro j H7 hj ⟨fs, x7, hp7, hl7, hfs⟩
          have ej : ((0 : Int) + (j : Nat)) = (j : Nat) := by omega
          rw [ej]
          refine ⟨rfl, ?_⟩
          refine ⟨_, rfl, _, rfl, p6, _, rfl, .inl (SqL.of (x7.lst hp6)), rfl, flat_ints _, _, rfl, ?_⟩
          rw [if_pos rfl, in_ints]
          by_cases m : ((j : Nat) : Int) ∈ tk
          · rw [decide_eq_true m]
            refine iteF ?_
            refine ⟨fs, x7, hp7, by omega, fun n hn hm => ?_⟩
            by_cases e : n = j
            · rw [e] at hm
              exact absurd m hm
            · exact hfs n (by omega) hm
          · rw [decide_eq_false m]
            refine iteT ?_
            refine ⟨_, rfl, _, hp7, by rw [List.length_map]; exact small1000 (by omega), fs ++ [((j : Nat) : Int)], x7.put np7, by rw [upd_same, List.map_append]; rfl, by rw [List.length_append, List.length_singleton]; omega, fun n hn hm => ?_⟩
            by_cases e : n = j
            · rw [e]
              exact List.mem_append_right _ (List.mem_singleton.mpr rfl)
            · exact List.mem_append_left _ (hfs n (by omega) hm)
        · rintro H7 ⟨fs, x7, hp7, hl7, hfs⟩
          obtain ⟨n, hn, hm⟩ := some_free (ts.length + 1) tk (by omega)
          have pos := List.length_pos_of_mem (hfs n hn hm)
          refine ⟨p7, fs, rfl, SqL.of hp7, pos, fun hue _ _ => ?_⟩
          refine ⟨by show 3 ≤ sizeLine; decide, fun p8 np8 => ?_⟩
          have x8 : Ext Ps H7 (upd H7 p8 (.tup [.int lf, .int rg, .int hue])) := .new np8
          have h8 : (upd H7 p8 (.tup [.int lf, .int rg, .int hue])) p8 = _ := upd_same
          revert x8 h8
          generalize upd H7 p8 (.tup [.int lf, .int rg, .int hue]) = H8
          intro x8 h8
          have x58 := x6.trans (x7.trans x8)
          have hD8 := x58.lst hD5
          refine ⟨D, _, _, rfl, rfl, hD8, ?_, ?_⟩
          · rw [lx]
            exact small1000 (by omega)
          have kp : ∀ {c : Addr} {ys : List V}, SqT K H8 c ys → SqT K (upd H8 D (.lst (as.map V.ref ++ [.ref p8]))) c ys := fun {c ys} h =>
            tup_upd hD8 (fun _ => by intro z; cases z) (fun _ _ => by intro z; cases z) h
          have x48 := x5.trans x58
          refine ⟨_, _, _, _, _, _, as ++ [p8], ts ++ [[lf, rg, hue]], rfl, (x4.trans x48).put nD, ?_, ?_, ?_, ?_, ?_⟩
          · rw [upd_ne nDp]
            exact x48.lst hp
          · rw [upd_same, List.map_append]
            rfl
          · refine Each.snoc ?_ (kp (.inl (.inl h8)))
            exact Paired.mapP (x48.each hE) fun c ys h => kp h
          · intro r hr
            rcases List.mem_append.mp hr with z | z
            · exact hw r z
            · rw [List.mem_singleton.mp z]
              rfl
          · rw [List.length_append, List.length_singleton]
            omega
    · rintro σ H4 ⟨v4, v5, v6, v7, v8, v9, as, ts, rfl, x4, hp, hD, hE, hw, hl⟩
      rw [List.length_map] at hl
      exact ⟨_, rfl, q D as ts H4 x4 hD hE hw (by omega)⟩
end
end K08

set_option Elab.async false
set_option linter.all false
set_option maxRecDepth 100000
set_option maxHeartbeats 4000000
namespace K08
open PySem PySem.Spec PyProof.Rows L2 Own
abbrev s_law : Stmt := topS 16
abbrev N_law : List Str := ["_law_script", "_law_rows_here", "_law_handed", "_law_turn", "_law_found", "_law_row"]
theorem sc_law : FnScope N_law ["_law_script"] (defScope s_law) := ⟨rfl, rfl, rfl, by decide +kernel, rfl, by decide +kernel, by decide +kernel⟩
theorem count_cut {ts : List Row} (h : ∀ r ∈ ts, r.length = 3) : count (ts.map (·.take 2)) = count ts := by
  have e : ∀ sd, sd < 2 → ends (ts.map (·.take 2)) sd = ends ts sd := fun sd hs => by
    unfold ends
    rw [List.map_map]
    refine List.map_congr_left fun r hr => ?_
    have := h r hr
    match r, this with
    | [a, b, c], _ =>
      match sd, hs with
      | 0, _ => rfl
      | 1, _ => rfl
  unfold count
  rw [e 0 (by decide), e 1 (by decide)]
section
variable {P : Program} {w : World} {K : PySem.W.Frag} {mg : Str → Option Value} {base : Heap} {t0 t1 t2 : Tok}
def spLaw (K : PySem.W.Frag) (Ps : List Addr) : Sp := fun vs H Q _ => ∃ (a : Addr) (ns : List Int), vs = [.ref a] ∧ SqL K H a (ns.map V.int) ∧ (∀ P ∈ Ps, GxR.TabG H P) ∧ ∀ H', Q (.bl true) H'
theorem ok_law {f fA fX fW fR fS fN fU fC fG fM fD c PT : Addr} {fd dA dX dW dR dS dN dU dC dG dM dD : FuncData} (F : Fun K "law" "law" s_law f fd) (T : Bi mg t0 t1 t2)
    (DA : Df K mg "_law_cell_at" s_l_cell_at ["_law_script", "_law_k"] fA dA) (DX : Df K mg "_law_mixed" s_l_mixed ["_law_cell", "_law_k"] fX dX)
    (DW : Df K mg "_law_whole" s_l_whole ["_law_found"] fW dW) (DR : Df K mg "_law_rows" s_l_rows ["_law_script"] fR dR) (DS : Df K mg "_law_spoilt" s_l_spoilt ["_law_rows_here", "_law_cell"] fS dS)
    (DN : Df K mg "_law_many" s_l_many ["_law_rows_here"] fN dN) (DU : Df K mg "_law_due" s_l_due ["_law_rows_here"] fU dU)
    (DC : Df K mg "count_of" s_count_of ["rows"] fC dC) (DG : Df K mg "is_good" s_is_good ["rows"] fG dG) (FG : FunC K "is_good" "is_good" s_is_good fG dG c)
    (DM : Df K mg "_most_at" s_most_at ["rows", "side"] fM dM) (DD : Df K mg "_hues_differ" s_hues_differ ["rows", "side"] fD dD)
    (TB : GxR.TabB base mg c PT) : FnOk P w K mg base CX0 4 f fd ["_law_script"] (spLaw K [PT]) := by
  have GA : FnOk P w K mg base CX0 1 fA dA ["_law_script", "_law_k"] (spCellAt K) := ok_cellAt DA.F T
  have GX : FnOk P w K mg base CX0 1 fX dX ["_law_cell", "_law_k"] spMixed := ok_mixed DX.F
  have GW : FnOk P w K mg base CX0 1 fW dW ["_law_found"] spWhole := ok_whole DW.F T
  have GR : FnOk P w K mg base CX0 2 fR dR ["_law_script"] (spRows K [PT]) := ok_rows DR.F T DA DX
  have GS : FnOk P w K mg base CX0 1 fS dS ["_law_rows_here", "_law_cell"] (spSpoilt K [PT]) := ok_spoilt DS.F T
  have GN : FnOk P w K mg base CX0 1 fN dN ["_law_rows_here"] (spMany K [PT]) := ok_many DN.F T
  have GU : FnOk P w K mg base CX0 2 fU dU ["_law_rows_here"] (spDue K [PT]) := ok_due DU.F T DN
  have GC : FnOk P w K mg base CX0 2 fC dC ["rows"] (spCount K [PT]) := ok_count DC.F T DM
  have GG : FnOk P w K mg base CX0 3 fG dG ["rows"] (spGood K [PT]) := ok_good FG T DC DD DM TB List.mem_cons_self
  refine F.ok sc_law (fun vs H Q E h => ?_) (fun cdv A outer s H vs Q E hr h => ?_)
  · obtain ⟨a, ns, rfl, _⟩ := h
    rfl
  · obtain ⟨a, ns, rfl, hS, hTab, q⟩ := h
    refine ⟨_, (pss_cons (ps_set (i := 1) sc_law.nd rfl (.inl rfl) (pe_call GS (hr.mono (by decide)) rfl DS.g DS.F.kp DS.b .nil pass0 (pa_cons (pe_call GR (hr.mono (by decide)) rfl DR.g DR.F.kp DR.b .nil pass0 (pa_cons (pv 0) pa_nil)) (pa_cons (pe_call GX (hr.mono (by decide)) rfl DX.g DX.F.kp DX.b .nil pass0 (pa_cons (pe_call GA (hr.mono (by decide)) rfl DA.g DA.F.kp DA.b .nil pass0 (pa_cons (pv 0) (pa_cons pe_int pa_nil))) (pa_cons pe_int pa_nil))) pa_nil))))
    (pss_cons (ps_set (i := 2) sc_law.nd rfl (.inl rfl) (pe_callTy (listOf K) (by rfl) T.z_list (by decide +kernel) (pa_cons (pv 1) pa_nil)))
    (pss_cons (ps_for PassesOwn.never rfl (pi_range1 rfl T.z_range (pa_cons pe_int pa_nil)) (pg_name (i := 3) sc_law.nd rfl (.inl rfl)) 
      (pss_cons (ps_if (PW.pt (pw_or (pt_not (pt_val (pe_call GW (hr.mono (by decide)) rfl DW.g DW.F.kp DW.b .nil pass0 (pa_cons (pe_call GC (hr.mono (by decide)) rfl DC.g DC.F.kp DC.b .nil pass0 (pa_cons (pv 2) pa_nil)) pa_nil)))) (pw_or1 (pt_cmpR op_ne (pe_call GC (hr.mono (by decide)) rfl DC.g DC.F.kp DC.b .nil pass0 (pa_cons (pv 2) pa_nil)) (pe_call GN (hr.mono (by decide)) rfl DN.g DN.F.kp DN.b .nil pass0 (pa_cons (pv 1) pa_nil)) (nomark _))))) 
        (pss_one (ps_ret pe_bl)) pss_nil)
      (pss_cons (ps_if (pt_cmpR op_ne (pe_call GC (hr.mono (by decide)) rfl DC.g DC.F.kp DC.b .nil pass0 (pa_cons (pe_lc rfl sc_law.nd (own := [("_law_row", 5)]) (pi_list (pv 1)) (blkOk_by (N := N_law) (sc := defScope s_law) (by decide +kernel)) (fun _ _ _ _ _ => (pg_name (i := 5) sc_law.nd rfl (.inl rfl))) (fun _ _ _ _ _ => pts_nil) (fun _ _ _ _ _ => (pe_slice (slT K) (pv 5) po_none (po_some pe_int)))) pa_nil)) (pe_call GN (hr.mono (by decide)) rfl DN.g DN.F.kp DN.b .nil pass0 (pa_cons (pv 1) pa_nil)) (nomark _)) 
        (pss_one (ps_ret pe_bl)) pss_nil)
      (pss_cons (ps_set (i := 4) sc_law.nd rfl (.inl rfl) (pe_call GG (hr.mono (by decide)) rfl DG.g DG.F.kp DG.b .nil pass0 (pa_cons (pv 2) pa_nil)))
      (pss_cons (ps_if (PW.pt (pw_or (pt_not (pt_val (pe_callB (isiO K) (by rfl) T.z_isinstance (by decide +kernel) (pa_cons (pv 4) (pa_cons (pe_bltn (v := .ty "bool") (by rfl) T.z_bool (by decide +kernel) rfl) pa_nil))))) (pw_or (pt_cmpR op_ne (pv 4) (pe_call GU (hr.mono (by decide)) rfl DU.g DU.F.kp DU.b .nil pass0 (pa_cons (pv 1) pa_nil)) (nomark _)) (pw_or1 (pt_cmpR (neD K hr.units) (pv 2) (pv 1) (nomark _)))))) 
        (pss_one (ps_ret pe_bl)) pss_nil)
      (pss_cons (ps_set (i := 1) sc_law.nd rfl (.inl rfl) (pe_slice (slL K) (pv 1) po_none (po_some (pe_op op_add (pe_op op_fdiv (pe_callB (lenQ K) (by rfl) T.z_len PySem.boot_len (pa_cons (pv 1) pa_nil)) pe_int) pe_int))))
      (pss_one (ps_set (i := 2) sc_law.nd rfl (.inl rfl) (pe_callTy (listOf K) (by rfl) T.z_list (by decide +kernel) (pa_cons (pv 1) pa_nil))))))))))
    (pss_one (ps_ret (pe_and (pe_cmpR op_isBl (pe_call GG (hr.mono (by decide)) rfl DG.g DG.F.kp DG.b .nil pass0 (pa_cons (pe_lst pa_nil) pa_nil)) pe_bl (nomark _)) (pe_one (pe_cmpR op_eq (pe_call GC (hr.mono (by decide)) rfl DC.g DC.F.kp DC.b .nil pass0 (pa_cons (pe_lst pa_nil) pa_nil)) pe_int (nomark _))))))))), ?_⟩
    refine ⟨_, rfl, a, ns, rfl, hS, fun p as ts H1 x1 hp hE hw hl => ?_⟩
    refine ⟨_, rfl, a, ns, 1, rfl, x1.seq hS, ?_⟩
    refine ⟨_, 3, rfl, by decide, by decide, ?_⟩
    refine ⟨p, as, ts, _, rfl, hp, hE, hw, hl, fun p2 ts2 H2 x2 hR2 hw2 hl2 => ?_⟩
    clear hE hw hl hp
    have x02 := x1.trans x2
    obtain ⟨as2, hS2, hE2⟩ := hR2
    refine ⟨_, rfl, p2, _, rfl, .inl hS2, fun p3 np3 => ?_⟩
    have x3 : Ext [PT] H2 (upd H2 p3 (.lst (as2.map V.ref))) := .new np3
    have h3 : (upd H2 p3 (.lst (as2.map V.ref))) p3 = _ := upd_same
    revert x3 h3
    generalize upd H2 p3 (.lst (as2.map V.ref)) = H3
    intro x3 h3
    -- for turn in range(2)
    refine ⟨2, rfl, by decide, by decide, for_range (lo := 0) (n := 2) (fun i σ H4 => ∃ (v3 v4 : Option V) (b h : Addr) (us : List Row), σ = [some (.ref a), some (.ref b), some (.ref h), v3, v4, none] ∧
      Ext [PT] H H4 ∧ Rows K H4 b us ∧ Rows K H4 h us ∧ (∀ r ∈ us, r.length = 3) ∧ us.length ≤ 31)
      ⟨none, none, p2, p3, ts2, rfl, x02.trans x3, ⟨as2, x3.seq hS2, x3.each hE2⟩, ⟨as2, SqL.of h3, x3.each hE2⟩, hw2, hl2⟩ ?_ ?_⟩
    · rintro i σ H4 hi ⟨v3, v4, b, h, us, rfl, x4, hB, hH, hw, hl⟩
      have w2 : ∀ r ∈ us, 2 ≤ r.length := fun r hr => by rw [hw r hr]; decide
      -- not whole(count_of(handed)) or count_of(handed) != many(rows)
      refine ⟨_, rfl, h, us, rfl, hH, w2, by omega, fun H5 x5 => ?_⟩
      refine ⟨_, rfl, _, rfl, iteF ?_⟩
      refine ⟨_, rfl, h, us, rfl, x5.rows hH, w2, by omega, fun H6 x6 => ?_⟩
      have x46 := x5.trans x6
      refine ⟨_, rfl, b, us, rfl, x46.rows hB, w2, by omega, fun H7 x7 => ?_⟩
      have x47 := x46.trans x7
      refine ⟨rfl, _, rfl, ?_⟩
      refine iteNS rfl ?_
      -- count_of([row[:2] for row in rows]) != many(rows)
      obtain ⟨bs, hBS, hBE⟩ := x47.rows hB
      refine ⟨_, rfl, b, rfl, ⟨_, hBS⟩, fun D nD => lc_list (K := K) (a := b) (xs := bs.map V.ref)
        (fun j H8 => ∃ cs, Ext [PT] H7 H8 ∧ H8 D = some (.lst (cs.map V.ref)) ∧ Each K H8 cs ((us.take j).map (·.take 2)) ∧ cs.length ≤ j) ⟨[], .new nD, upd_same, .nil, Nat.le_refl _⟩
        (fun j H8 _ ⟨_, y, _⟩ => y.seq hBS) ?_ ?_⟩
      · rintro j y H8 hj ⟨cs, x8, hD, hC, hl8⟩
        obtain ⟨e, r, rfl, he, hr', hq⟩ := hBE.val hj
        have lr := hw r (List.mem_of_getElem? hr')
        have jl := (List.getElem?_eq_some_iff.mp hr').1
        refine ⟨rfl, yesT ?_⟩
        refine ⟨_, rfl, 2, rfl, e, _, rfl, x8.tup hq, ?_, fun p9 np9 => ?_⟩
        · intro ⟨_, z⟩
          have z' : HT.sIx (r.map V.int).length (r.map V.int).length (some ((2 : Nat) : Int)) = (r.map V.int).length := z
          rw [HT.sIx_nat, List.length_map, lr] at z'
          cases z'
        · have ec : cutV (r.map V.int) none (some 2) = (r.take 2).map V.int := by
            show cutV _ none (some ((2 : Nat) : Int)) = _
            rw [cut_j, List.map_take]
          rw [ec]
          have x9 : Ext [PT] H8 (upd H8 p9 (.tup ((r.take 2).map V.int))) := .new np9
          have h9 : (upd H8 p9 (.tup ((r.take 2).map V.int))) p9 = _ := upd_same
          revert x9 h9
          generalize upd H8 p9 (.tup ((r.take 2).map V.int)) = H9
          intro x9 h9
          have hD9 := x9.lst hD
          have kp : ∀ {c : Addr} {ys : List V}, SqT K H9 c ys → SqT K (upd H9 D (.lst (cs.map V.ref ++ [.ref p9]))) c ys := fun {c ys} h =>
            tup_upd hD9 (fun _ => by intro z; cases z) (fun _ _ => by intro z; cases z) h
          refine ⟨_, hD9, by rw [List.length_map]; exact small1000 (by omega), cs ++ [p9], (x8.trans x9).put nD, ?_, ?_, by rw [List.length_append, List.length_singleton]; omega⟩
          · rw [upd_same, List.map_append]
            rfl
          · rw [take_one hr', List.map_append]
            refine Each.snoc ?_ (kp (.inl (.inl h9)))
            exact Paired.mapP (x9.each hC) fun c ys h => kp h
      · rintro H8 ⟨cs, x8, hD, hC, hl8⟩
        have lx : (bs.map V.ref).length = us.length := by
          rw [List.length_map]
          exact hBE.len
        rw [lx, List.take_length] at hC
        refine ⟨D, us.map (·.take 2), rfl, ⟨cs, SqL.of hD, hC⟩, fun r hr => ?_, by rw [List.length_map]; omega, fun H9 x9 => ?_⟩
        · obtain ⟨r', hr2, rfl⟩ := List.mem_map.mp hr
          rw [List.length_take, hw r' hr2]
          decide
        have x49 := x47.trans (x8.trans x9)
        refine ⟨_, rfl, b, us, rfl, x49.rows hB, w2, by omega, fun H10 x10 => ?_⟩
        have x410 := x49.trans x10
        refine ⟨rfl, _, rfl, ?_⟩
        refine iteNS (by rw [count_cut hw]) ?_
        -- found = is_good(handed)
        refine ⟨_, rfl, h, us, rfl, x410.rows hH, hw, by omega, fun PX hPX => (x4.trans x410).t PX hPX (hTab PX hPX), fun H11 x11 => ?_⟩
        have x411 := x410.trans x11
        refine ⟨_, rfl, _, _, _, _, true, rfl, ClsV.ty _, .base (.bl _), kit_ty (by decide +kernel), _, rfl, iteF ?_⟩
        refine ⟨_, rfl, _, rfl, b, us, rfl, x411.rows hB, hw, by omega, fun H12 x12 => ?_⟩
        have x412 := x411.trans x12
        refine ⟨rfl, _, rfl, ?_⟩
        refine iteNS (by rw [good_due]) ?_
        refine ⟨_, rfl, _, rfl, _, _, dp_rows (x412.rows hH), dp_rows (x412.rows hB), shaped_rows _, shaped_rows _, _, rfl, ?_⟩
        rw [eqv_rows, decide_eq_true rfl]
        refine iteF ?_
        -- rows = rows[:len(rows) // 2 + 1]
        obtain ⟨bs2, hB2, hE2⟩ := x412.rows hB
        have lx2 : (bs2.map V.ref).length = us.length := by
          rw [List.length_map]
          exact hE2.len
        refine ⟨_, rfl, _, rfl, b, _, rfl, .inl hB2, _, _, rfl, rfl, ⟨by decide, by decide⟩, _, _, rfl, rfl, ((us.length / 2 + 1 : Nat) : Int), ?_, b, _, rfl, hB2, fun p13 np13 => ?_⟩
        · rw [lx2]
          show V.int (((us.length : Nat) : Int) / 2 + 1) = _
          congr 1
        rw [cut_j]
        have x13 : Ext [PT] H12 (upd H12 p13 (.lst ((bs2.map V.ref).take (us.length / 2 + 1)))) := .new np13
        have h13 : (upd H12 p13 (.lst ((bs2.map V.ref).take (us.length / 2 + 1)))) p13 = _ := upd_same
        revert x13 h13
        generalize upd H12 p13 (.lst ((bs2.map V.ref).take (us.length / 2 + 1))) = H13
        intro x13 h13
        refine ⟨_, rfl, p13, _, rfl, .inl (SqL.of h13), fun p14 np14 => ?_⟩
        have x14 : Ext [PT] H13 (upd H13 p14 (.lst ((bs2.map V.ref).take (us.length / 2 + 1)))) := .new np14
        have h14 : (upd H13 p14 (.lst ((bs2.map V.ref).take (us.length / 2 + 1)))) p14 = _ := upd_same
        revert x14 h14
        generalize upd H13 p14 (.lst ((bs2.map V.ref).take (us.length / 2 + 1))) = H14
        intro x14 h14
        have xe := x13.trans x14
        refine ⟨_, _, p13, p14, us.take (us.length / 2 + 1), rfl, x4.trans (x412.trans xe), ⟨bs2.take (us.length / 2 + 1), SqL.of ?_, (xe.each hE2).take _⟩, ⟨bs2.take (us.length / 2 + 1), SqL.of ?_, (xe.each hE2).take _⟩, fun r hr => hw r (List.mem_of_mem_take hr), ?_⟩
        · rw [List.map_take]
          exact x14.lst h13
        · rw [List.map_take]
          exact h14
        · rw [List.length_take]
          omega
    · rintro σ H4 ⟨v3, v4, b, h, us, rfl, x4, _⟩
      refine ⟨by show 0 ≤ sizeLine; decide, fun p5 np5 => ?_⟩
      have x5 : Ext [PT] H4 (upd H4 p5 (.lst [])) := .new np5
      have h5 : (upd H4 p5 (.lst [])) p5 = _ := upd_same
      revert x5 h5
      generalize upd H4 p5 (.lst []) = H5
      intro x5 h5
      refine ⟨p5, [], rfl, ⟨[], SqL.of h5, .nil⟩, fun r hr => absurd hr (by simp), by decide, fun PX hPX => (x4.trans x5).t PX hPX (hTab PX hPX), fun H6 x6 => ?_⟩
      refine ⟨_, _, rfl, rfl, _, rfl, iteT ?_⟩
      refine ⟨by show 0 ≤ sizeLine; decide, fun p7 np7 => ?_⟩
      have h7 : (upd H6 p7 (.lst [])) p7 = _ := upd_same
      revert h7
      generalize upd H6 p7 (.lst []) = H7
      intro h7
      refine ⟨p7, [], rfl, ⟨[], SqL.of h7, .nil⟩, fun r hr => absurd hr (by simp), by decide, fun H8 x8 => ?_⟩
      refine ⟨rfl, ?_⟩
      exact q _
end
end K08

set_option Elab.async false
set_option linter.all false
set_option maxRecDepth 100000
set_option maxHeartbeats 4000000
namespace K08
open PySem PySem.Spec PyProof.Rows L2 Own
theorem tab_mk {K : PySem.W.Frag} {x : Str} {f c PT : Addr} {oc ec : Value} {od dc : Option Addr} {fd : FuncData} {sl slc : Array (Option Value)} {vs : Array Value}
    (a : PySem.W.nsIn K mainGlobals x = some (some (.ref f))) (l : K.lookup f = some ⟨oc, od, .func fd, sl⟩) (hc : fd.code = .ref c)
    (lc : K.lookup c = some ⟨ec, dc, .fields vs, slc⟩) (v : vs[11]? = some (.ref PT)) : PySem.W.tabIn K x = some (c, PT) := by
  unfold PySem.W.tabIn
  simp only [a, l, hc, lc, v]
/-- the end of a law whose text holds a def with a table of code objects: the def's name is dn -/
theorem walk_tab {l : PySem.W.OpenLaw} {n k : Nat} {q : Program} {loose : List Str} {XP : (Str → Option Value) → Heap → Prop} {YP : World → Heap → Prop}
    {d : DefRec} {K : Params → PySem.W.Frag} {x dn : Str} {sp : World → List Addr → Sp}
    (hn : l.most = some n) (hn2 : n ≤ sizeLine) (hdf : d.params.defaults = []) (hr : Room k callerA)
    (hrec : ((recsOf q).any fun e => e.name == dn) = true) (hY : ∀ (w : World) (h : Heap), YP w h → (K w.params).In h)
    (F : ∀ (w : World) (mg : Str → Option Value) (fa : Addr) (h : Heap), (K w.params).In h → h.Ns mainGlobals mg → mg d.name = some (.ref fa) →
      ∃ (c PT : Addr) (fd : FuncData), PySem.W.tabIn (K w.params) dn = some (c, PT) ∧ (K w.params).lookup PT = none ∧
        (∀ (s : Shared) (v : Value), BindsTo s fd ⟨[v], []⟩ [(x, v)]) ∧
        ∀ base : Heap, (K w.params).In base → base.Ns mainGlobals mg → GxR.TabB base mg c PT → FnOk l.prog w (K w.params) mg base CX0 k fa fd [x] (sp w [PT]))
    (hsp : ∀ (w : World) (PT : Addr) (H : Hp) (a : Addr) (ns : List Int), ns.length ≤ n → (∀ z ∈ ns, Builtin.Int.intBits z ≤ 1048576) → H PT = some (.tbl #[]) →
      SqL (K w.params) H a (ns.map V.int) → sp w [PT] [.ref a] H (fun v _ => v = .bl true) fun _ _ _ => False) :
    PySem.W.WalkO q loose XP YP l.row.toRowW d [] (fun f vs => PySem.call f vs) := by
  refine Att.attach_callB hn hdf ?_
  intro w s₀ s₁ mg mb fa o pm cd doc a vs ns G Y ho hd hcd hmg hobj hints hlen hbits hg
  have KX := hY w _ Y
  obtain ⟨c, PT, fd, ht, hno, hb, hF⟩ := F w mg fa _ KX G.T.g hmg
  obtain ⟨e, he, hne⟩ := List.any_eq_true.mp hrec
  have hfind : ∃ e', (recsOf q).find? (fun e => e.name == dn) = some e' := by
    cases hf : (recsOf q).find? (fun e => e.name == dn) with
    | some e' => exact ⟨e', rfl⟩
    | none => exact absurd hne (List.find?_eq_none.mp hf e he)
  obtain ⟨e', he'⟩ := hfind
  obtain ⟨tc, tt⟩ := PySem.W.tab_of G.T KX he' ht
  refine LamX.law_callTs (cs := [(c, PT)]) (sp := sp w [PT]) (CX := CX0) KX G.T.g G.T.b G.T.builtins G.T.nolimit hg ?_ ?_ ?_ G.T.bmain hobj hints (Nat.le_trans hlen hn2) hr ?_ hb ?_ ?_
  · intro p hp
    rw [List.mem_singleton.mp hp]
    exact tt
  · intro p hp
    rw [List.mem_singleton.mp hp]
    exact hno
  · intro p hp
    rw [List.mem_singleton.mp hp]
    exact tc
  · intro base h1 h2 h3
    have t := h3 (c, PT) List.mem_cons_self
    exact hF base h1 h2 ⟨t.code, t.bm, t.gP⟩
  · intro H hH hS
    exact hsp w PT H a ns hlen hbits (hH (c, PT) List.mem_cons_self) hS
  · intro H e s' z
    exact z
/-! what the top has written, and the law's own head -/
theorem all_mk {l : PySem.W.OpenLaw} {w : World} {K : PySem.W.Frag} {h : Heap} {mg : Str → Option Value} {fa fC fG fM fH fA fX fW fR fS fN fU fL : Addr} {c PT : Addr} (X : K.In h) (G : h.Ns mainGlobals mg) (hfa : mg "law" = some (.ref fa))
    {odC anC odG anG odM anM odH anH odA anA odX anX odW anW odR anR odS anS odN anN odU anU odL anL : Option Addr} {slC slG slM slH slA slX slW slR slS slN slU slL : Array (Option Value)}
    {ocC kVC dcC pmC cdC ctC ocG kVG dcG pmG ctG ocM kVM dcM pmM cdM ctM ocH kVH dcH pmH cdH ctH ocA kVA dcA pmA cdA ctA ocX kVX dcX pmX cdX ctX ocW kVW dcW pmW cdW ctW ocR kVR dcR pmR cdR ctR ocS kVS dcS pmS cdS ctS ocN kVN dcN pmN cdN ctN ocU kVU dcU pmU cdU ctU ocL kVL dcL pmL cdL ctL : Value} {t0 t1 t2 : Tok}
    (aC : PySem.W.nsIn K mainGlobals "count_of" = some (some (.ref fC))) (lC : K.lookup fC = some ⟨ocC, odC, .func (PySem.W.fnOf "count_of" "count_of" (defArgs s_count_of) (defBody s_count_of) (defScope s_count_of) .none kVC dcC pmC anC cdC ctC), slC⟩) (cC : PySem.W.codeIn K cdC "count_of" = true) (kC : PySem.W.keepIn K (.ref fC) = true)
    (aG : PySem.W.nsIn K mainGlobals "is_good" = some (some (.ref fG))) (lG : K.lookup fG = some ⟨ocG, odG, .func (PySem.W.fnOf "is_good" "is_good" (defArgs s_is_good) (defBody s_is_good) (defScope s_is_good) .none kVG dcG pmG anG (.ref c) ctG), slG⟩) (cG : PySem.W.codeIn K (.ref c) "is_good" = true) (kG : PySem.W.keepIn K (.ref fG) = true)
    (aM : PySem.W.nsIn K mainGlobals "_most_at" = some (some (.ref fM))) (lM : K.lookup fM = some ⟨ocM, odM, .func (PySem.W.fnOf "_most_at" "_most_at" (defArgs s_most_at) (defBody s_most_at) (defScope s_most_at) .none kVM dcM pmM anM cdM ctM), slM⟩) (cM : PySem.W.codeIn K cdM "_most_at" = true) (kM : PySem.W.keepIn K (.ref fM) = true)
    (aH : PySem.W.nsIn K mainGlobals "_hues_differ" = some (some (.ref fH))) (lH : K.lookup fH = some ⟨ocH, odH, .func (PySem.W.fnOf "_hues_differ" "_hues_differ" (defArgs s_hues_differ) (defBody s_hues_differ) (defScope s_hues_differ) .none kVH dcH pmH anH cdH ctH), slH⟩) (cH : PySem.W.codeIn K cdH "_hues_differ" = true) (kH : PySem.W.keepIn K (.ref fH) = true)
    (aA : PySem.W.nsIn K mainGlobals "_law_cell_at" = some (some (.ref fA))) (lA : K.lookup fA = some ⟨ocA, odA, .func (PySem.W.fnOf "_law_cell_at" "_law_cell_at" (defArgs s_l_cell_at) (defBody s_l_cell_at) (defScope s_l_cell_at) .none kVA dcA pmA anA cdA ctA), slA⟩) (cA : PySem.W.codeIn K cdA "_law_cell_at" = true) (kA : PySem.W.keepIn K (.ref fA) = true)
    (aX : PySem.W.nsIn K mainGlobals "_law_mixed" = some (some (.ref fX))) (lX : K.lookup fX = some ⟨ocX, odX, .func (PySem.W.fnOf "_law_mixed" "_law_mixed" (defArgs s_l_mixed) (defBody s_l_mixed) (defScope s_l_mixed) .none kVX dcX pmX anX cdX ctX), slX⟩) (cX : PySem.W.codeIn K cdX "_law_mixed" = true) (kX : PySem.W.keepIn K (.ref fX) = true)
    (aW : PySem.W.nsIn K mainGlobals "_law_whole" = some (some (.ref fW))) (lW : K.lookup fW = some ⟨ocW, odW, .func (PySem.W.fnOf "_law_whole" "_law_whole" (defArgs s_l_whole) (defBody s_l_whole) (defScope s_l_whole) .none kVW dcW pmW anW cdW ctW), slW⟩) (cW : PySem.W.codeIn K cdW "_law_whole" = true) (kW : PySem.W.keepIn K (.ref fW) = true)
    (aR : PySem.W.nsIn K mainGlobals "_law_rows" = some (some (.ref fR))) (lR : K.lookup fR = some ⟨ocR, odR, .func (PySem.W.fnOf "_law_rows" "_law_rows" (defArgs s_l_rows) (defBody s_l_rows) (defScope s_l_rows) .none kVR dcR pmR anR cdR ctR), slR⟩) (cR : PySem.W.codeIn K cdR "_law_rows" = true) (kR : PySem.W.keepIn K (.ref fR) = true)
    (aS : PySem.W.nsIn K mainGlobals "_law_spoilt" = some (some (.ref fS))) (lS : K.lookup fS = some ⟨ocS, odS, .func (PySem.W.fnOf "_law_spoilt" "_law_spoilt" (defArgs s_l_spoilt) (defBody s_l_spoilt) (defScope s_l_spoilt) .none kVS dcS pmS anS cdS ctS), slS⟩) (cS : PySem.W.codeIn K cdS "_law_spoilt" = true) (kS : PySem.W.keepIn K (.ref fS) = true)
    (aN : PySem.W.nsIn K mainGlobals "_law_many" = some (some (.ref fN))) (lN : K.lookup fN = some ⟨ocN, odN, .func (PySem.W.fnOf "_law_many" "_law_many" (defArgs s_l_many) (defBody s_l_many) (defScope s_l_many) .none kVN dcN pmN anN cdN ctN), slN⟩) (cN : PySem.W.codeIn K cdN "_law_many" = true) (kN : PySem.W.keepIn K (.ref fN) = true)
    (aU : PySem.W.nsIn K mainGlobals "_law_due" = some (some (.ref fU))) (lU : K.lookup fU = some ⟨ocU, odU, .func (PySem.W.fnOf "_law_due" "_law_due" (defArgs s_l_due) (defBody s_l_due) (defScope s_l_due) .none kVU dcU pmU anU cdU ctU), slU⟩) (cU : PySem.W.codeIn K cdU "_law_due" = true) (kU : PySem.W.keepIn K (.ref fU) = true)
    (aL : PySem.W.nsIn K mainGlobals "law" = some (some (.ref fL))) (lL : K.lookup fL = some ⟨ocL, odL, .func (PySem.W.fnOf "law" "law" (defArgs s_law) (defBody s_law) (defScope s_law) .none kVL dcL pmL anL cdL ctL), slL⟩) (cL : PySem.W.codeIn K cdL "law" = true) (kL : PySem.W.keepIn K (.ref fL) = true)
    (z_all : PySem.W.nsIn K mainGlobals "all" = some none)
    (z_bool : PySem.W.nsIn K mainGlobals "bool" = some none)
    (z_enumerate : PySem.W.nsIn K mainGlobals "enumerate" = some none)
    (z_int : PySem.W.nsIn K mainGlobals "int" = some none)
    (z_isinstance : PySem.W.nsIn K mainGlobals "isinstance" = some none)
    (z_len : PySem.W.nsIn K mainGlobals "len" = some none)
    (z_list : PySem.W.nsIn K mainGlobals "list" = some none)
    (z_max : PySem.W.nsIn K mainGlobals "max" = some none)
    (z_min : PySem.W.nsIn K mainGlobals "min" = some none)
    (z_range : PySem.W.nsIn K mainGlobals "range" = some none)
    (c_LEFT : PySem.W.nsIn K mainGlobals "LEFT" = some (some (.int 0 t0)))
    (c_RIGHT : PySem.W.nsIn K mainGlobals "RIGHT" = some (some (.int 1 t1)))
    (c_HUE : PySem.W.nsIn K mainGlobals "HUE" = some (some (.int 2 t2)))
    {ec : Value} {dcc : Option Addr} {vsc : Array Value} {slc : Array (Option Value)} (lc : K.lookup c = some ⟨ec, dcc, .fields vsc, slc⟩) (vc : vsc[11]? = some (.ref PT)) (no : K.lookup PT = none)
    : ∃ (c PT : Addr) (fd : FuncData), PySem.W.tabIn K "is_good" = some (c, PT) ∧ K.lookup PT = none ∧ (∀ (s : Shared) (v : Value), BindsTo s fd ⟨[v], []⟩ [("_law_script", v)]) ∧ ∀ base : Heap, K.In base → base.Ns mainGlobals mg → GxR.TabB base mg c PT → FnOk l.prog w K mg base CX0 4 fa fd ["_law_script"] (spLaw K [PT]) := by
  have e := hfa.symm.trans (PySem.W.mg_of X G aL)
  cases e
  have FC := fun_mk (st := s_count_of) lC cC kC
  have FG := funC_mk (st := s_is_good) lG cG kG
  have FM := fun_mk (st := s_most_at) lM cM kM
  have FH := fun_mk (st := s_hues_differ) lH cH kH
  have FA := fun_mk (st := s_l_cell_at) lA cA kA
  have FX := fun_mk (st := s_l_mixed) lX cX kX
  have FW := fun_mk (st := s_l_whole) lW cW kW
  have FR := fun_mk (st := s_l_rows) lR cR kR
  have FS := fun_mk (st := s_l_spoilt) lS cS kS
  have FN := fun_mk (st := s_l_many) lN cN kN
  have FU := fun_mk (st := s_l_due) lU cU kU
  have FL := fun_mk (st := s_law) lL cL kL
  have bC := (FC).binds (ps := ["rows"]) fun _ _ _ _ _ _ us hl => match us, hl with | [_], _ => rfl
  have DC : Df K mg "count_of" s_count_of ["rows"] _ _ := ⟨FC, PySem.W.mg_of X G aC, bC⟩
  have bG := (FG.plain).binds (ps := ["rows"]) fun _ _ _ _ _ _ us hl => match us, hl with | [_], _ => rfl
  have DG : Df K mg "is_good" s_is_good ["rows"] _ _ := ⟨FG.plain, PySem.W.mg_of X G aG, bG⟩
  have bM := (FM).binds (ps := ["rows", "side"]) fun _ _ _ _ _ _ us hl => match us, hl with | [_, _], _ => rfl
  have DM : Df K mg "_most_at" s_most_at ["rows", "side"] _ _ := ⟨FM, PySem.W.mg_of X G aM, bM⟩
  have bH := (FH).binds (ps := ["rows", "side"]) fun _ _ _ _ _ _ us hl => match us, hl with | [_, _], _ => rfl
  have DH : Df K mg "_hues_differ" s_hues_differ ["rows", "side"] _ _ := ⟨FH, PySem.W.mg_of X G aH, bH⟩
  have bA := (FA).binds (ps := ["_law_script", "_law_k"]) fun _ _ _ _ _ _ us hl => match us, hl with | [_, _], _ => rfl
  have DA : Df K mg "_law_cell_at" s_l_cell_at ["_law_script", "_law_k"] _ _ := ⟨FA, PySem.W.mg_of X G aA, bA⟩
  have bX := (FX).binds (ps := ["_law_cell", "_law_k"]) fun _ _ _ _ _ _ us hl => match us, hl with | [_, _], _ => rfl
  have DX : Df K mg "_law_mixed" s_l_mixed ["_law_cell", "_law_k"] _ _ := ⟨FX, PySem.W.mg_of X G aX, bX⟩
  have bW := (FW).binds (ps := ["_law_found"]) fun _ _ _ _ _ _ us hl => match us, hl with | [_], _ => rfl
  have DW : Df K mg "_law_whole" s_l_whole ["_law_found"] _ _ := ⟨FW, PySem.W.mg_of X G aW, bW⟩
  have bR := (FR).binds (ps := ["_law_script"]) fun _ _ _ _ _ _ us hl => match us, hl with | [_], _ => rfl
  have DR : Df K mg "_law_rows" s_l_rows ["_law_script"] _ _ := ⟨FR, PySem.W.mg_of X G aR, bR⟩
  have bS := (FS).binds (ps := ["_law_rows_here", "_law_cell"]) fun _ _ _ _ _ _ us hl => match us, hl with | [_, _], _ => rfl
  have DS : Df K mg "_law_spoilt" s_l_spoilt ["_law_rows_here", "_law_cell"] _ _ := ⟨FS, PySem.W.mg_of X G aS, bS⟩
  have bN := (FN).binds (ps := ["_law_rows_here"]) fun _ _ _ _ _ _ us hl => match us, hl with | [_], _ => rfl
  have DN : Df K mg "_law_many" s_l_many ["_law_rows_here"] _ _ := ⟨FN, PySem.W.mg_of X G aN, bN⟩
  have bU := (FU).binds (ps := ["_law_rows_here"]) fun _ _ _ _ _ _ us hl => match us, hl with | [_], _ => rfl
  have DU : Df K mg "_law_due" s_l_due ["_law_rows_here"] _ _ := ⟨FU, PySem.W.mg_of X G aU, bU⟩
  have T : Bi mg t0 t1 t2 := ⟨PySem.W.mg_none_of X G z_all, PySem.W.mg_none_of X G z_bool, PySem.W.mg_none_of X G z_enumerate, PySem.W.mg_none_of X G z_int, PySem.W.mg_none_of X G z_isinstance, PySem.W.mg_none_of X G z_len, PySem.W.mg_none_of X G z_list, PySem.W.mg_none_of X G z_max, PySem.W.mg_none_of X G z_min, PySem.W.mg_none_of X G z_range, PySem.W.mg_of X G c_LEFT, PySem.W.mg_of X G c_RIGHT, PySem.W.mg_of X G c_HUE⟩
  exact ⟨c, PT, _, tab_mk aG lG rfl lc vc, no, fun s v => .of_eq rfl, fun base _ _ TB => ok_law FL T DA DX DW DR DS DN DU DC DG FG DM DH TB⟩
end K08
open PySem PySem.W PyProof.Rows
set_option maxRecDepth 100000 in
set_option maxHeartbeats 0 in
theorem PySem.Challenge.cw_pairhues_k08_rows_looked_at_holds : PySem.Challenge.rw_pairhues_k08_rows_looked_at.Holds := by
  w_on; o_law; k_head; (case hw => w_witness2)
  k_fill
  refine K08.walk_tab (l := PySem.Challenge.rw_pairhues_k08_rows_looked_at) (n := 63) (k := 4) (x := "_law_script") (dn := "is_good") (sp := fun w Ps => K08.spLaw _ Ps) rfl (by decide) rfl ⟨rfl, by decide, by decide⟩ (by decide +kernel) (fun w h Y => PySem.W.kIn_of Y) ?F (fun w PT H a ns hl _ hT hS => ⟨a, ns, rfl, hS, fun Q hQ => by rw [List.mem_singleton.mp hQ]; exact ⟨_, hT, trivial⟩, fun _ => rfl⟩)
  case F =>
    intro w mg fa h KX G hmg
    refine' K08.all_mk KX G hmg ?aC ?lC ?cC ?kC ?aG ?lG ?cG ?kG ?aM ?lM ?cM ?kM ?aH ?lH ?cH ?kH ?aA ?lA ?cA ?kA ?aX ?lX ?cX ?kX ?aW ?lW ?cW ?kW ?aR ?lR ?cR ?kR ?aS ?lS ?cS ?kS ?aN ?lN ?cN ?kN ?aU ?lU ?cU ?kU ?aL ?lL ?cL ?kL ?z_all ?z_bool ?z_enumerate ?z_int ?z_isinstance ?z_len ?z_list ?z_max ?z_min ?z_range ?c_LEFT ?c_RIGHT ?c_HUE ?lc ?vc ?no
    (case aC => k_is)
    (case lC => k_is)
    (case cC => k_is)
    (case kC => k_is)
    (case aG => k_is)
    (case lG => k_is)
    (case cG => k_is)
    (case kG => k_is)
    (case aM => k_is)
    (case lM => k_is)
    (case cM => k_is)
    (case kM => k_is)
    (case aH => k_is)
    (case lH => k_is)
    (case cH => k_is)
    (case kH => k_is)
    (case aA => k_is)
    (case lA => k_is)
    (case cA => k_is)
    (case kA => k_is)
    (case aX => k_is)
    (case lX => k_is)
    (case cX => k_is)
    (case kX => k_is)
    (case aW => k_is)
    (case lW => k_is)
    (case cW => k_is)
    (case kW => k_is)
    (case aR => k_is)
    (case lR => k_is)
    (case cR => k_is)
    (case kR => k_is)
    (case aS => k_is)
    (case lS => k_is)
    (case cS => k_is)
    (case kS => k_is)
    (case aN => k_is)
    (case lN => k_is)
    (case cN => k_is)
    (case kN => k_is)
    (case aU => k_is)
    (case lU => k_is)
    (case cU => k_is)
    (case kU => k_is)
    (case aL => k_is)
    (case lL => k_is)
    (case cL => k_is)
    (case kL => k_is)
    (case z_all => k_is)
    (case z_bool => k_is)
    (case z_enumerate => k_is)
    (case z_int => k_is)
    (case z_isinstance => k_is)
    (case z_len => k_is)
    (case z_list => k_is)
    (case z_max => k_is)
    (case z_min => k_is)
    (case z_range => k_is)
    (case c_LEFT => k_is)
    (case c_RIGHT => k_is)
    (case c_HUE => k_is)
    (case lc => k_is)
    (case vc => rfl)
    (case no => rfl)
