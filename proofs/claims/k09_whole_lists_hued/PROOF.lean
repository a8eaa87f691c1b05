import PyProof.Rows.All
import Wide.All
import OpenK.AllK
import Wide.FinOn
import HandS.ForMost
import HandS.Lambda
import HandS.AnyAll
import HandS.SetFor
import HandS.IsInst
import HandS.Style
import HandS.SortKw
import KE.DataMinKey
import HandS.Sort
import KE.DataMinMax
import KE.KDictList
import HandS.Walk
import HandS.More
import HandS.Conv
import HandS.Flow
import HandS.Star
import HandS.ForExc
import HandS.TryMany
import HandS.TupLen
import PyProof.TypeEq
import HandS.ExcIs
import HandS.TupSets
import HandS.SetBool
import KE.KDictZip
import HandS.Zip
import HandS.Set
import KE.KEqDeep
import HandS.EndTab
import KE.KNestM
import KE.KNest
import PySem.Challenge.RW_pairhues_k09_whole_lists_hued
set_option Elab.async false
set_option linter.all false
set_option maxRecDepth 100000
set_option maxHeartbeats 4000000
namespace Own
open PySem PySem.Spec PyProof.Rows L2 GxR
/-! generator expressions over a list: quiet elements, all(..), any(..) -/
section
variable {X : Cx} {pins : List (Addr × Obj)} {σ : L2.St} {H : Hp} {s : Shared}
/-- what is known in the generator's frame, at s2: x holds v; all that stood at s1 stands, but the table at P -/
structure GFr (X : Cx) (s1 : Shared) (P : Addr) (scope : Scope) (x : Str) (v : Value) (ce : Env) (s2 : Shared) : Prop where
  sc : ce.scope = scope
  cl : ce.cells = cloFrom X.env.cells scope.names []
  gl : ce.globals = mainGlobals
  bl : ce.builtins = builtinsNs
  ns : ∃ m, s2.heap.Ns ce.locals m ∧ m x = some v
  kp : ∀ b o, b ≠ P → s1.heap.get? b = some o → s2.heap.get? b = some o
theorem GFr.on {s1 s2 s3 : Shared} {P : Addr} {scope : Scope} {x : Str} {v : Value} {ce : Env} (F : GFr X s1 P scope x v ce s2) (k : Keeps s2 s3) : GFr X s1 P scope x v ce s3 := by
  obtain ⟨h', tk, rfl, kk⟩ := k
  obtain ⟨m, hn, hm⟩ := F.ns
  exact ⟨F.sc, F.cl, F.gl, F.bl, ⟨m, hn.keeps kk, hm⟩, fun b o n e => kk _ _ (F.kp b o n e)⟩
theorem kref (s : Shared) : Keeps s s := ⟨s.heap, s.toks, rfl, fun _ _ e => e⟩
theorem ktok (s : Shared) (t : Nat) : Keeps s { s with toks := t } := ⟨s.heap, t, rfl, fun _ _ e => e⟩
theorem ktrans {s1 s2 s3 : Shared} (a : Keeps s1 s2) (b : Keeps s2 s3) : Keeps s1 s3 := by
  obtain ⟨h, t, rfl, k⟩ := a
  obtain ⟨h', t', rfl, k'⟩ := b
  exact ⟨h', t', rfl, fun c o e => k' _ _ (k c o e)⟩
/-- the expression e gives y there, and changes nothing -/
def QE (X : Cx) (s1 : Shared) (P : Addr) (scope : Scope) (x : Str) (v : Value) (e : Expr) (y : V) : Prop :=
  ∀ (ce : Env) (A' : Around) (E' : Value → Shared → Prop) (s2 : Shared), A'.handled = none → GFr X s1 P scope x v ce s2 →
    wpAny (model X.prog X.w) A' (eval e ce) (fun u s3 => RelV y u ∧ Keeps s2 s3) E' s2
variable {s1 : Shared} {P : Addr} {scope : Scope} {x : Str} {v : Value}
theorem qe_var {y : V} {p : Pos} (hk : scope.kind = .function) (hl : scope.names.lookup x = some .local) (r : RelV y v)
    (hd : (x == ("__debug__" : Str)) = false := by decide) : QE X s1 P scope x v (.Name x p) y := by
  intro ce A' E' s2 hA F
  obtain ⟨m, hn, hm⟩ := F.ns
  have k1 : ce.scope.kind = .function := by rw [F.sc]; exact hk
  have k2 : ce.kindOf x = some .local := by
    show ce.scope.names.lookup x = some .local
    rw [F.sc]; exact hl
  exact wpAny_Name (wpAny_loadName_local k1 k2 hn hm ⟨r, kref _⟩) hd
theorem qe_int {i : Int} {j : Nat} {p : Pos} : QE X s1 P scope x v (.Constant (.int i) j p) (.int i) :=
  fun ce A' E' s2 hA F => wpAny_Constant_int ⟨⟨_, rfl⟩, ktok _ _⟩
theorem qe_glob {n : Str} {y : V} {u : Value} {p : Pos} (I : Inv X pins σ H s1) (ht : ∀ o, X.base.get? mainGlobals = some o → mainGlobals ≠ P)
    (hk : scope.kind = .function) (hl : scope.names.lookup n = some .globalImplicit) (hm : X.mg n = some u) (r : RelV y u)
    (hd : (n == ("__debug__" : Str)) = false := by decide) : QE X s1 P scope x v (.Name n p) y := by
  intro ce A' E' s2 hA F
  have k1 : ce.scope.kind = .function := by rw [F.sc]; exact hk
  have k2 : ce.kindOf n = some .globalImplicit := by
    show ce.scope.names.lookup n = some .globalImplicit
    rw [F.sc]; exact hl
  have k3 : s2.heap.Ns ce.globals X.mg := by
    rw [F.gl]
    obtain ⟨o, es, ep, e, r⟩ := I.mod.glob
    exact ⟨o, es, ep, F.kp _ _ (ht o e) (I.bk _ _ e), r⟩
  exact Calls.Name_function_global k1 k2 (Calls.loadGlobal_global k3 hm ⟨r, kref _⟩) hd
/-- a name that the generator has from the def around -/
theorem qe_free {n : Str} {i : Nat} {y : V} {p : Pos} (I : Inv X pins σ H s1) (hP : ∃ ps, H P = some (.tbl ps)) (hN : X.N[i]? = some n) (hσ : σ[i]? = some (some y))
    (hv : X.env.scope.names.lookup n = some .cell ∨ X.env.scope.names.lookup n = some .free)
    (hk : scope.kind = .function) (hl : scope.names.lookup n = some .free)
    (hd : (n == ("__debug__" : Str)) = false := by decide) (hcd : (n == ("__classdict__" : Str)) = false := by decide) : QE X s1 P scope x v (.Name n p) y := by
  intro ce A' E' s2 hA F
  have k1 : ce.scope.kind = .function := by rw [F.sc]; exact hk
  have k2 : ce.kindOf n = some .free := by
    show ce.scope.names.lookup n = some .free
    rw [F.sc]; exact hl
  obtain ⟨m, hm, look⟩ := I.loc
  obtain ⟨u, r, l⟩ := look i n y hN hσ (hv.elim (fun k => .inr (.inl k)) (fun k => .inr (.inr k)))
  have hc : ∃ c, X.env.cells.lookup n = some c ∧ s1.heap.IsCell c (some u) := by
    rcases l with ⟨k, _⟩ | ⟨_, c, h1, h2⟩
    · have k' : X.env.scope.names.lookup n = some .local := k
      rcases hv with h | h <;> (rw [h] at k'; cases k')
    · exact ⟨c, h1, h2⟩
  obtain ⟨c, h1, ob, ho, hdat⟩ := hc
  have mem : (n, NameKind.free) ∈ scope.names := PySem.mem_of_lookup hl
  obtain ⟨c', h3⟩ := mem_lookup (cloFrom_has (cells := X.env.cells) (acc := []) mem)
  have h4 : c' = c := by
    rcases cloFrom_mem (PySem.mem_of_lookup h3) with hm | ⟨_, h2⟩
    · cases hm
    · rw [h2, h1]
      rfl
  obtain ⟨ps, hP⟩ := hP
  have oP : s1.heap.get? P = some { cls := .none, data := .fields ps } := I.hok P _ hP
  have ncP : c ≠ P := by
    intro z
    rw [z, oP] at ho
    cases ho
    cases hdat
  refine wpAny_Name (wpAny_loadName_free (c := c) k1 k2 (by rw [F.cl, h3, h4]) ⟨ob, F.kp _ _ ncP ho, hdat⟩ ⟨r, kref _⟩ hcd) hd
theorem qe_ixT {a b : Expr} {t : Addr} {xs : List V} {i : Int} {y : V} {p : Pos} (I : Inv X pins σ H s1) (hP : ∃ ps, H P = some (.tbl ps))
    (ha : QE X s1 P scope x v a (.ref t)) (hb : QE X s1 P scope x v b (.int i)) (hq : SqT X.K H t xs) (he : atI xs i = some y) (hs : PlainIx b) :
    QE X s1 P scope x v (.Subscript a b p) y := by
  intro ce A' E' s2 hA F
  obtain ⟨its, r, pl, hz⟩ := I.tuple hq
  obtain ⟨j, g1, g2, g3, g4, g5⟩ := atI_get he
  obtain ⟨w, ew, rw'⟩ := r.get g2
  have hl := r.length
  have hn := line63
  obtain ⟨ps, hP⟩ := hP
  have oP : s1.heap.get? P = some { cls := .none, data := .fields ps } := I.hok P _ hP
  have ntP : t ≠ P := by
    obtain ⟨o, ho, hc, _⟩ := id pl
    intro z
    rw [z, oP] at ho
    cases ho
    cases hc
  refine Subscript_ (wpAny_mono (ha ce A' E' s2 hA F) (fun u s3 h => wpAny_mono (hb ce A' E' s3 hA (F.on h.2)) (fun u2 s4 h2 => ?_) fun _ _ e => e) fun _ _ e => e)
  obtain ⟨ru, k3⟩ := h
  obtain ⟨ru2, k4⟩ := h2
  cases ru
  obtain ⟨tk, rfl⟩ := ru2
  have F4 := (F.on k3).on k4
  have pl4 : IsTup s4.heap t its.toArray := by
    obtain ⟨o, ho, hr⟩ := pl
    exact ⟨o, F4.kp _ _ ntP ho, hr⟩
  exact subscriptTail_builtinR (x := w) (Q := fun u s5 => RelV y u ∧ Keeps s2 s5) pl4.typeIs slot_tuple_getitem.lookup
    (getItem_tuple (j := j) pl4 (by omega) (by omega) (by rw [List.size_toArray, ← hl]; exact g1) (by simpa using ew) ⟨rfl, rw', ktrans k3 k4⟩) (hs _ _)
theorem qe_lt {a b : Expr} {i j : Int} {p : Pos} (ha : QE X s1 P scope x v a (.int i)) (hb : QE X s1 P scope x v b (.int j))
    (hm : behindInMarks .Lt b = false := by with_unfolding_all rfl) : QE X s1 P scope x v (.Compare a [.Lt] [b] p) (.bl (decide (i < j))) := by
  intro ce A' E' s2 hA F
  refine wpAny_Compare1 (wpAny_mono (ha ce A' E' s2 hA F) (fun u s3 h => wpAny_mono (hb ce A' E' s3 hA (F.on h.2)) (fun u2 s4 h2 => ?_) fun _ _ e => e) fun _ _ e => e) hm
  obtain ⟨⟨t1, rfl⟩, k3⟩ := h
  obtain ⟨⟨t2, rfl⟩, k4⟩ := h2
  exact lt_int ⟨rfl, ktrans k3 k4⟩
end

/-! the generator itself -/
section
variable {X : Cx} {pins : List (Addr × Obj)} {σ : L2.St} {H : Hp} {s : Shared}
/-- g, ready at s5, will give n values, the j-th as F says; whoever walks it leaves the def's table alone perhaps grown -/
def GReady (X : Cx) (pins : List (Addr × Obj)) (σ : L2.St) (H1 : Hp) (P g : Addr) (n : Nat) (F : Nat → Value → Prop) (s5 : Shared) : Prop :=
  ∃ (fp wr : List Addr) (G : Array GenState → Array GenState → Prop) (St : Nat → Shared → Prop),
    WalksS X.prog X.w X.A.in1 g fp wr G n F St ∧ St 0 s5 ∧ (∀ b ∈ fp, b < s5.heap.objs.size) ∧
    ∀ s', Moved wr G s5 s' → ∃ H2, Tabbed P H1 H2 ∧ Inv X pins σ H2 s'
/-- the tests of a generator expression there -/
def QT (X : Cx) (s1 : Shared) (P : Addr) (scope : Scope) (x : Str) (v : Value) (ifs : List Expr) (b : Bool) : Prop :=
  ∀ (ce : Env) (A' : Around) (E' : Value → Shared → Prop) (s2 : Shared), A'.handled = none → GFr X s1 P scope x v ce s2 →
    wpAny (model X.prog X.w) A' (forIn ifs true fun c r => if r = true then do let ok ← isTrue c ce (eval c ce); pure (ForInStep.yield ok) else pure (ForInStep.yield r))
      (fun ok s3 => ok = b ∧ Keeps s2 s3) E' s2
theorem qt_nil {s1 : Shared} {P : Addr} {scope : Scope} {x : Str} {v : Value} : QT X s1 P scope x v [] true := by
  intro ce A' E' s2 hA F
  simp only [List.forIn_nil]
  exact wpAny_pure ⟨rfl, kref _⟩
theorem gen_list {c P : Addr} {elt iter : Expr} {ifs : List Expr} {x : Str} {px gpos : Pos} {scope : Scope} {te : TE} {k : Nat} {Q' : Value → Shared → Prop} {R : List V → Hp → Prop}
    (hr : Room k X.A) (TB : TabB X.base X.mg c P) (hcode : X.env.code = .ref c) (S : GenS X.env scope x) (hi : PE X iter te)
    (hs : ∀ v, genFold iter X.env v = pure v) (I : Inv X pins σ H s)
    (h : te σ H fun v H1 => ∃ (a : Addr) (xs : List V), v = .ref a ∧ SqL X.K H1 a xs ∧ TabG H1 P ∧ R xs H1)
    (hR : ∀ xs H1 s1, R xs H1 → Inv X pins σ H1 s1 →
      ∃ (pz : Nat → Bool) (F : Nat → V), (∀ i y v, xs[i]? = some y → RelV y v → QT X s1 P scope x v ifs (pz i) ∧ (pz i = true → QE X s1 P scope x v elt (F i))) ∧
      ∀ g s5, GReady X pins σ H1 P g (passing pz xs.length 0).length (fun j u => ∃ i, (passing pz xs.length 0)[j]? = some i ∧ i < xs.length ∧ RelV (F i) u) s5 → Q' (.ref g) s5) :
    wpAny (model X.prog X.w) X.A (eval (.GeneratorExp elt [⟨.Name x px, iter, ifs, 0⟩] scope gpos) X.env) Q' X.xe s := by
  refine wpAny_GeneratorExp_walksQ hr.hd S.co (closure_ok S.free) S.cell S.dot S.loc S.kind (by have := hr.dp; omega) ?_ hs
  refine thn (hi.run pins s σ H _ I h) fun w1 s1 ⟨v1, H1, I1, r1, q1⟩ => ?_
  obtain ⟨a, xs, rfl, hq, ⟨ps, hP, ht⟩, q1⟩ := q1
  obtain ⟨pz, F, hel, hQ⟩ := hR xs H1 s1 q1 I1
  cases r1
  obtain ⟨its, rv, pl, hz⟩ := I1.list hq
  have hlen := rv.length
  have oP : s1.heap.get? P = some { cls := .none, data := .fields ps } := I1.hok P _ hP
  have Plt : P < s1.heap.objs.size := Heap.lt_size oP
  obtain ⟨oa, hoa, hca, hda⟩ := id pl.isList
  have alt : a < s1.heap.objs.size := Heap.lt_size hoa
  have naP : a ≠ P := by
    intro z
    rw [z, oP] at hoa
    cases hoa
    cases hca
  obtain ⟨Q0, eQ0⟩ : ∃ Q0 : Nat, Q0 = s1.heap.objs.size := ⟨_, rfl⟩
  refine wpAny_pyIter_list pl.isList ?_
  obtain ⟨h2, eh2⟩ : ∃ h2 : Heap, h2 = s1.heap.push { cls := .type "list_iterator", data := .fields #[.ref a, .int 0 0] } := ⟨_, rfl⟩
  rw [← eh2]
  have k2 : ∀ b o, s1.heap.get? b = some o → h2.get? b = some o := fun b o e => by
    rw [eh2]
    exact Heap.get?_push_of_some _ e
  have sz2 : h2.objs.size = s1.heap.objs.size + 1 := by
    rw [eh2]
    exact Heap.size_push _ _
  have oP2 := k2 _ _ oP
  have itr2 : h2.IsListIter s1.heap.objs.size a 0 := by
    rw [eh2]
    exact ⟨_, Heap.get?_push_size _ rfl, rfl, rfl⟩
  have lim2 : h2.NoLimit := by
    rw [eh2]
    exact I1.nolimit.push _
  have code2 : PySem.W.CodeHd h2 c P := TB.code.keeps fun b u e => k2 _ _ (I1.bk b u e)
  have ncs : cStatics ≠ P ∧ cStatics < s1.heap.objs.size := by
    obtain ⟨_, hns, _⟩ := I1.nolimit
    refine ⟨fun z => ?_, hns.lt⟩
    obtain ⟨o, es, ep, ho, hd, _⟩ := hns
    rw [z, oP] at ho
    cases ho
    cases hd
  -- from the heap in which the code object stands
  have cont : ∀ (code : Value) (h3 : Heap) (tk : Nat) (ps' : Array Value), Heap.ExtBut P h2 h3 → h2.objs.size ≤ h3.objs.size →
      h3.get? P = some { cls := .none, data := .fields ps' } → (∃ more, ps' = ps ++ more) → TriplesOk ps'.toList →
      wpAny (model X.prog X.w) X.A (builtinsFor X.env.globals X.env.builtins) (fun bi s₄ =>
        ∃ Ia fp wr n₀ Pf St₀ pz' F', Value.ref s1.heap.objs.size = .ref Ia ∧ (∀ A' : Around, A'.handled = none → Walks X.prog X.w A' Ia fp wr n₀ Pf St₀) ∧
          St₀ 0 s₄.heap ∧ (∀ b ∈ fp, b < s₄.heap.objs.size) ∧ s₄.heap.NoLimit ∧ cStatics ∉ wr ∧
          (∀ href : Heap, (∀ b o, s₄.heap.get? b = some o → href.get? b = some o) →
            QuietGen X.prog X.w (genEnv scope (cloFrom X.env.cells scope.names []) s₄.heap.objs.size code bi X.env) x ifs elt (List.range s₄.heap.objs.size) wr Pf pz' F' href) ∧
          (∀ g h₅ tk gs, gs.bare = true → s₄.heap.objs.size < g → h₅.objs.size = g + 1 → (∀ b o, s₄.heap.get? b = some o → h₅.get? b = some o) →
            WalksS X.prog X.w X.A.in4 g (g :: s₄.heap.objs.size :: List.range s₄.heap.objs.size) (s₄.heap.objs.size :: wr) (GenOnlyQ s₄.gens.size) (passing pz' n₀ 0).length
              (fun j y => ∃ i, (passing pz' n₀ 0)[j]? = some i ∧ F' i y)
              (GenAt X.prog X.w X.A.in4 g s₄.gens.size s₄.heap.objs.size (List.range s₄.heap.objs.size) wr pz' n₀ F') →
            GenAt X.prog X.w X.A.in4 g s₄.gens.size s₄.heap.objs.size (List.range s₄.heap.objs.size) wr pz' n₀ F' 0 { s₄ with gens := s₄.gens.push gs, toks := tk, heap := h₅ } →
            Q' (.ref g) { s₄ with gens := s₄.gens.push gs, toks := tk, heap := h₅ })) X.xe { s1 with heap := h3, toks := tk } := by
    intro code h3 tk ps' hx hsz hP3 hmore ht3
    have k3 : ∀ b o, b ≠ P → s1.heap.get? b = some o → h3.get? b = some o := fun b o n e => hx b o n (k2 _ _ e)
    obtain ⟨bm, ob, e1, e2, e3, e4, e5, e6, e7, e8⟩ := TB.bm
    have globK : h3.Ns X.env.globals X.mg := by
      rw [I1.ok.glob]
      obtain ⟨og, esg, epg, eg, rg⟩ := I1.mod.glob
      exact ⟨og, esg, epg, k3 _ _ TB.gP (I1.bk _ _ eg), rg⟩
    refine wpAny_builtinsFor (m := X.mg) globK e1 e2 (k3 _ _ e4 (I1.bk _ _ e5)) e6 e7 e8 ?_
    have ne0 : a ≠ s1.heap.objs.size := Nat.ne_of_lt alt
    have itr3 : h3.IsListIter s1.heap.objs.size a 0 := by
      obtain ⟨o, ho, r⟩ := itr2
      exact ⟨o, hx _ _ (Nat.ne_of_gt Plt) ho, r⟩
    have lst3 : h3.IsList a its.toArray := ⟨oa, k3 _ _ naP hoa, hca, hda⟩
    refine ⟨s1.heap.objs.size, _, _, its.toArray.size, _, _, pz, fun i u => RelV (F i) u ∧ i < xs.length, rfl,
      fun A' hA => Walks.list hA s1.heap.objs.size a ne0 its.toArray, ⟨itr3, lst3⟩, ?_, lim2.extBut hx ncs.1, ?_, ?_, ?_⟩
    · intro b hb
      show b < h3.objs.size
      have low : s1.heap.objs.size < h3.objs.size := by omega
      rcases List.mem_cons.mp hb with z | z
      · rw [z]
        exact low
      · rw [List.mem_singleton.mp z]
        exact Nat.lt_trans alt low
    · intro z
      have z' : cStatics = s1.heap.objs.size := List.mem_singleton.mp z
      exact Nat.ne_of_lt ncs.2 z'
    · intro href hhref
      have fr : ∀ (u : Value) (s₂ : Shared) (m₂ : Str → Option Value), s₂.heap.Ns h3.objs.size m₂ → m₂ x = some u →
          (∀ b ∈ List.range h3.objs.size, b ∉ [s1.heap.objs.size] → ∀ o, href.get? b = some o → s₂.heap.get? b = some o) →
          GFr X s1 P scope x u (genEnv scope (cloFrom X.env.cells scope.names []) h3.objs.size code builtinsNs X.env) s₂ := by
        intro u s₂ m₂ hn hm hk
        refine ⟨rfl, rfl, I1.ok.glob, rfl, ⟨m₂, hn, hm⟩, fun b o n e => ?_⟩
        have e3 := k3 b o n e
        refine hk b (List.mem_range.mpr (Heap.lt_size e3)) (fun z => ?_) o (hhref _ _ e3)
        have z' : b = s1.heap.objs.size := List.mem_singleton.mp z
        exact Nat.ne_of_lt (Heap.lt_size e) z'
      have nth : ∀ (i : Nat) (u : Value), its.toArray[i]? = some u → ∃ y, xs[i]? = some y ∧ RelV y u := by
        intro i u hu
        have hu' : its[i]? = some u := by simpa using hu
        cases hx : xs[i]? with
        | none =>
          rw [Vals.none_of rv hx] at hu'
          cases hu'
        | some y =>
          obtain ⟨u', h1, h2⟩ := rv.get hx
          rw [h1] at hu'
          cases hu'
          exact ⟨y, rfl, h2⟩
      refine ⟨fun A' E' i u s₂ m₂ hA hPv hn hm hk => ?_, fun A' E' i u s₂ m₂ hA hPv hp hn hm hk => ?_⟩
      · obtain ⟨y, g1, g2⟩ := nth i u hPv
        exact (hel i y u g1 g2).1 _ A' E' s₂ hA (fr u s₂ m₂ hn hm hk)
      · obtain ⟨y, g1, g2⟩ := nth i u hPv
        have lt : i < xs.length := (List.getElem?_eq_some_iff.mp g1).1
        exact wpAny_mono ((hel i y u g1 g2).2 hp _ A' E' s₂ hA (fr u s₂ m₂ hn hm hk)) (fun _ _ z => ⟨⟨z.1, lt⟩, z.2⟩) fun _ _ e => e
    · intro g h5 tk5 gs hgb hag hsz5 hk5 W5 hat
      have en : its.toArray.size = xs.length := by rw [List.size_toArray, hlen]
      rw [en] at W5 hat
      obtain ⟨more, em⟩ := hmore
      have W5' := (W5.in4_1)
      refine hQ g _ ⟨_, _, _, _, ⟨W5'.sub, W5'.grefl, W5'.gtrans, W5'.frame, fun i s' Q'' E'' hi hst hh => W5'.item i s' Q'' E'' hi hst fun v s'' ⟨i', h1, h2, h3⟩ => hh v s'' ⟨i', h1, h3, h2⟩, W5'.done, W5'.self⟩, hat, ?_, ?_⟩
      · intro b hb
        show b < h5.objs.size
        rw [hsz5]
        rcases List.mem_cons.mp hb with z | z
        · rw [z]
          exact Nat.lt_succ_self _
        · rcases List.mem_cons.mp z with z | z
          · rw [z]
            exact Nat.lt_succ_of_lt hag
          · exact Nat.lt_succ_of_lt (Nat.lt_trans (List.mem_range.mp z) hag)
      · intro s' mv
        have nw : ∀ b o, s1.heap.get? b = some o → b ∉ h3.objs.size :: [s1.heap.objs.size] := by
          intro b o e hb
          have lt := Heap.lt_size e
          rcases List.mem_cons.mp hb with z | z
          · rw [z] at lt
            exact absurd lt (Nat.not_lt.mpr (by omega))
          · rw [List.mem_singleton.mp z] at lt
            exact Nat.lt_irrefl _ lt
        have J := inv_tab (more := more) (h' := s'.heap) (g' := s'.gens) (d' := s'.drawn) (t' := s'.toks) I1 hP
          (fun b u hb e => mv.heap b u (nw b u e) (hk5 b u (k3 b u hb e)))
          (by rw [← em]; exact mv.heap P _ (nw P _ oP) (hk5 P _ hP3)) (AllBare.movedS (I1.bare.push hgb) mv)
        rw [sh_eta s1 s' mv.os] at J
        exact ⟨_, ⟨⟨ps ++ more, upd_same, by rw [← em]; exact ht3⟩, fun b hb => upd_ne hb⟩, J⟩
  refine ⟨lim2, ?_⟩
  cases hf : codeAmong gpos ps.toList with
  | none =>
    refine wpAny_genexprCodeX hcode (code2.code oP2 ht) (code2.tab oP2) hf ?_
    intro c' h' tk hx hge hlt hco' _ htab' _
    obtain ⟨_, _, _, _, _, _, _, _, _, _, _, _, _, _, _, _, _, _, _, htr, _⟩ := hco'
    exact cont _ h' tk _ hx (Nat.le_trans hge (Nat.le_of_lt hlt)) htab'.2 ⟨_, rfl⟩ htr
  | some cv =>
    refine wpAny_genexprCode_hit hcode (code2.code oP2 ht) hf ?_
    exact cont cv h2 s1.toks ps (Heap.ExtBut.refl _ _) (Nat.le_refl _) oP2 ⟨#[], by simp⟩ ht
end

/-! all(..), any(..) -/
section
variable {X : Cx} {pins : List (Addr × Obj)} {σ : L2.St} {H : Hp} {s : Shared}
def pick (l : List Nat) (p : Nat → Bool) (j : Nat) : Bool := match l[j]? with | some i => p i | none => false
theorem range_all (l : List Nat) (p : Nat → Bool) : (List.range l.length).all (pick l p) = l.all p := by
  rw [Bool.eq_iff_iff, List.all_eq_true, List.all_eq_true]
  constructor
  · intro h b hb
    obtain ⟨j, hj, e⟩ := List.getElem_of_mem hb
    have q := h j (List.mem_range.mpr hj)
    unfold pick at q
    rw [List.getElem?_eq_getElem hj, e] at q
    exact q
  · intro h j hj
    have hj' := List.mem_range.mp hj
    unfold pick
    rw [List.getElem?_eq_getElem hj']
    exact h _ (List.getElem_mem hj')
theorem range_any (l : List Nat) (p : Nat → Bool) : (List.range l.length).any (pick l p) = l.any p := by
  rw [Bool.eq_iff_iff, List.any_eq_true, List.any_eq_true]
  constructor
  · rintro ⟨j, hj, q⟩
    have hj' := List.mem_range.mp hj
    unfold pick at q
    rw [List.getElem?_eq_getElem hj'] at q
    exact ⟨_, List.getElem_mem hj', q⟩
  · rintro ⟨b, hb, q⟩
    obtain ⟨j, hj, e⟩ := List.getElem_of_mem hb
    refine ⟨j, List.mem_range.mpr hj, ?_⟩
    unfold pick
    rw [List.getElem?_eq_getElem hj, e]
    exact q
theorem truth_pick {prog : Program} {w : World} {A : Around} {l : List Nat} {p : Nat → Bool} {n : Nat} :
    TruthOf prog w A (fun j u => ∃ i, l[j]? = some i ∧ i < n ∧ RelV (.bl (p i)) u) (pick l p) := by
  intro j u s Q E hp hq
  obtain ⟨i, h1, _, h2⟩ := hp
  cases h2
  unfold pick at hq
  rw [h1] at hq
  exact wpAny_truthy_bool hq
/-- what a test over a list, item by item, asks: pz keeps the i-th, pb is what it gives -/
def tGen (X : Cx) (P : Addr) (scope : Scope) (x : Str) (ifs : List Expr) (elt : Expr) (f : List Nat → (Nat → Bool) → Bool) (te : TE) : TE :=
  fun σ H Q => te σ H fun v H1 => ∃ (a : Addr) (xs : List V), v = .ref a ∧ SqL X.K H1 a xs ∧ TabG H1 P ∧ ∃ (pz pb : Nat → Bool),
    (∀ pins s1, Inv X pins σ H1 s1 → ∀ i y v, xs[i]? = some y → RelV y v → QT X s1 P scope x v ifs (pz i) ∧ (pz i = true → QE X s1 P scope x v elt (.bl (pb i)))) ∧
    ∀ H2, Tabbed P H1 H2 → Q (.bl (f ((List.range xs.length).filter pz) pb)) H2
theorem pe_allL {c P : Addr} {elt iter : Expr} {ifs : List Expr} {x : Str} {px p pos gpos : Pos} {scope : Scope} {te : TE} {k : Nat}
    (hr : Room k X.A) (hg : Gl X "all") (hm : X.mg "all" = none) (hb : bootBuiltins "all" = some (.builtin "all"))
    (TB : TabB X.base X.mg c P) (hcode : X.env.code = .ref c) (S : GenS X.env scope x) (hi : PE X iter te)
    (hs : ∀ v, genFold iter X.env v = pure v)
    (he : starEach [.GeneratorExp elt [⟨.Name x px, iter, ifs, 0⟩] scope gpos] X.env =
      (false, eval (.GeneratorExp elt [⟨.Name x px, iter, ifs, 0⟩] scope gpos) X.env) :: starEach [] X.env := by rfl) :
    PE X (.Call (.Name "all" p) [.GeneratorExp elt [⟨.Name x px, iter, ifs, 0⟩] scope gpos] [] pos) (tGen X P scope x ifs elt List.all te) := by
  refine ⟨fun pins s σ H Q I h => ?_⟩
  refine wpAny_Call_Name_kw (ld_blt I hg hm hb ?_)
  refine PyProof.Rows.callWith_builtin1 ?_ he (by rfl)
  rw [he]
  refine Calls.spliced_cons (gen_list hr TB hcode S hi hs I h fun xs H1 s1 ⟨pz, pb, hel, q⟩ I1 => ?_)
  refine ⟨pz, fun i => .bl (pb i), fun i y v g1 g2 => hel pins s1 I1 i y v g1 g2, fun g s5 hG => ?_⟩
  obtain ⟨fp, wr, G, St, W, hst, _, hI⟩ := hG
  refine Calls.spliced_nil ?_
  refine call_all_walkS (W.self 0 _ _ _ hst ⟨g, fp, wr, G, _, _, St, _, rfl, W, hst, truth_pick, fun s' mv => ?_⟩)
  obtain ⟨H2, hT, J⟩ := hI s' mv
  refine ⟨.bl _, H2, J, rfl, ?_⟩
  rw [range_all]
  exact q H2 hT
theorem pe_anyL {c P : Addr} {elt iter : Expr} {ifs : List Expr} {x : Str} {px p pos gpos : Pos} {scope : Scope} {te : TE} {k : Nat}
    (hr : Room k X.A) (hg : Gl X "any") (hm : X.mg "any" = none)
    (TB : TabB X.base X.mg c P) (hcode : X.env.code = .ref c) (S : GenS X.env scope x) (hi : PE X iter te)
    (hs : ∀ v, genFold iter X.env v = pure v)
    (he : starEach [.GeneratorExp elt [⟨.Name x px, iter, ifs, 0⟩] scope gpos] X.env =
      (false, eval (.GeneratorExp elt [⟨.Name x px, iter, ifs, 0⟩] scope gpos) X.env) :: starEach [] X.env := by rfl) :
    PE X (.Call (.Name "any" p) [.GeneratorExp elt [⟨.Name x px, iter, ifs, 0⟩] scope gpos] [] pos) (tGen X P scope x ifs elt List.any te) := by
  refine ⟨fun pins s σ H Q I h => ?_⟩
  refine wpAny_Call_Name_kw (ld_blt I hg hm boot_any ?_)
  refine PyProof.Rows.callWith_builtin1 ?_ he (by rfl)
  rw [he]
  refine Calls.spliced_cons (gen_list hr TB hcode S hi hs I h fun xs H1 s1 ⟨pz, pb, hel, q⟩ I1 => ?_)
  refine ⟨pz, fun i => .bl (pb i), fun i y v g1 g2 => hel pins s1 I1 i y v g1 g2, fun g s5 hG => ?_⟩
  obtain ⟨fp, wr, G, St, W, hst, _, hI⟩ := hG
  refine Calls.spliced_nil ?_
  refine call_any_walkS (W.self 0 _ _ _ hst ⟨g, fp, wr, G, _, _, St, _, rfl, W, hst, truth_pick, fun s' mv => ?_⟩)
  obtain ⟨H2, hT, J⟩ := hI s' mv
  refine ⟨.bl _, H2, J, rfl, ?_⟩
  rw [range_any]
  exact q H2 hT
end

/-! a def that holds generator expressions: its code object is told -/
def genB (sc scope : Scope) (x : Str) : Bool :=
  decide (scope.kind = .function) && !scope.isCoroutine && (scope.names.all fun y => !decide (y.2 = .cell)) &&
  decide (scope.names.lookup (".0" : Str) = some NameKind.local) && decide (scope.names.lookup x = some NameKind.local) &&
  scope.names.all fun y => !decide (y.2 = .free) || decide (sc.names.lookup y.1 = some .cell)
theorem genS_by {qual : Str} {sc scope : Scope} {L f : Addr} {cd : Value} {x : Str} (h : genB sc scope x = true) : GenS (envOfC qual sc L f cd) scope x := by
  unfold genB at h
  simp only [Bool.and_eq_true, Bool.or_eq_true, Bool.not_eq_true', decide_eq_true_eq, decide_eq_false_iff_not, List.all_eq_true] at h
  obtain ⟨⟨⟨⟨⟨h1, h2⟩, h3⟩, h4⟩, h5⟩, h6⟩ := h
  refine ⟨h1, h2, h3, h4, h5, fun y hy e => ?_⟩
  rcases h6 y hy with z | z
  · exact absurd e z
  · exact cell_has z
structure FunC (K : PySem.W.Frag) (x qual : Str) (st : Stmt) (f : Addr) (fd : FuncData) (c : Addr) : Prop where
  ex : ∃ (oc : Value) (od : Option Addr) (kV doc pm : Value) (an : Option Addr) (ct : Value) (osl : Array (Option Value)),
    fd = PySem.W.fnOf x qual (defArgs st) (defBody st) (defScope st) .none kV doc pm an (.ref c) ct ∧ K.lookup f = some ⟨oc, od, .func fd, osl⟩ ∧ PySem.W.codeIn K (.ref c) qual = true
  kp : PySem.W.keepIn K (.ref f) = true
theorem FunC.plain {K : PySem.W.Frag} {x qual : Str} {st : Stmt} {f : Addr} {fd : FuncData} {c : Addr} (F : FunC K x qual st f fd c) : Fun K x qual st f fd := by
  obtain ⟨oc, od, kV, doc, pm, an, ct, osl, e, l, h⟩ := F.ex
  exact ⟨⟨oc, od, kV, doc, pm, an, _, ct, osl, e, l, h⟩, F.kp⟩
theorem funC_mk {K : PySem.W.Frag} {x qual : Str} {st : Stmt} {f c : Addr} {oc : Value} {od an : Option Addr} {osl : Array (Option Value)} {kV doc pm ct : Value}
    (l : K.lookup f = some ⟨oc, od, .func (PySem.W.fnOf x qual (defArgs st) (defBody st) (defScope st) .none kV doc pm an (.ref c) ct), osl⟩)
    (h : PySem.W.codeIn K (.ref c) qual = true) (k : PySem.W.keepIn K (.ref f) = true) :
    FunC K x qual st f (PySem.W.fnOf x qual (defArgs st) (defBody st) (defScope st) .none kV doc pm an (.ref c) ct) c :=
  ⟨⟨oc, od, kV, doc, pm, an, ct, osl, rfl, l, h⟩, k⟩
theorem FunC.ok {P : Program} {w : World} {K : PySem.W.Frag} {mg : Str → Option Value} {base : Heap} {x qual : Str} {st : Stmt} {f : Addr} {fd : FuncData} {c : Addr}
    {N ps : List Str} {k : Nat} {sp : Sp} (F : FunC K x qual st f fd c) (S : FnScope N ps (defScope st)) (len : ∀ vs H Q E, sp vs H Q E → vs.length = ps.length)
    (hbody : ∀ (A : Around) (outer : List Env) (s : Shared) (H : Hp) (vs : List V) (Q : VK) (E : XK),
      Room k (A.deeper (envOfC qual (defScope st) s.heap.objs.size f (.ref c))) → sp vs H Q E →
      ∃ t, PSs (cxOf CX0 P w K mg base N qual (defScope st) f (.ref c) A outer s H E).nox (defBody st) t ∧ t { nx := fun _ H' => Q .non H', rt := Q } (start N vs) H) :
    FnOk P w K mg base CX0 (k + 1) f fd ps sp := by
  obtain ⟨oc, od, kV, doc, pm, an, ct, osl, rfl, lk, hcd⟩ := F.ex
  refine fn_of lk hcd S len ?_
  intro A outer s H vs Q E hr hsp
  obtain ⟨t, h, q⟩ := hbody A outer s H vs Q E hr hsp
  exact ⟨t, h.nox, q⟩
end Own

set_option Elab.async false
set_option linter.all false
set_option maxRecDepth 100000
set_option maxHeartbeats 4000000
namespace Own
open PySem PySem.Spec PyProof.Rows L2
/-! min(xs, key=lambda x: len(x[k])) -/
/-- the name of a lambda's code object, made in a def -/
abbrev lamQ (X : Cx) : Str := X.env.qual ++ "<lambda>"
/-- what the making of a lambda does to the heap -/
def LamNew (P : Addr) (q : Str) (H H1 : Hp) : Prop :=
  H1 = H ∨ ∃ (ps more : Array Value) (c : Addr), H P = some (.tbl ps) ∧ H c = none ∧ H1 = upd (upd H P (.tbl (ps ++ more))) c (LamX.CodeO c q)
section
variable {X : Cx} {pins : List (Addr × Obj)} {σ : L2.St} {H : Hp} {s : Shared}
theorem lam_new {c P : Addr} {pr : Arguments} {bd : Expr} {sco : Scope} {lp : Pos} {E Q : Value → Shared → Prop}
    (I : Inv X pins σ H s) (TB : LamX.TabB X.base X.mg c P) (hcode : X.env.code = .ref c) (hT : LamX.TabS H P (lamQ X))
    (hdef : defaultsOf pr X.env = ([], [])) (hfree : ∀ y ∈ sco.names, y.2 = .free → ∃ c, X.env.cells.lookup y.1 = some c)
    (h : ∀ (f c' : Addr) (pm ctv : Value) (H1 : Hp) (h' : Heap) (tk : Nat), Inv X pins σ H1 { s with heap := h', toks := tk } → LamNew P (lamQ X) H H1 → LamX.TabS H1 P (lamQ X) →
      h'.get? f = some (PySem.W.kla_obj "<lambda>" (lamQ X) pr bd sco (cloFrom X.env.cells sco.names []) pm c' ctv) →
      H1 c' = some (LamX.CodeO c' (lamQ X)) → Q (.ref f) { s with heap := h', toks := tk }) :
    wpAny (model X.prog X.w) X.A (eval (.Lambda pr bd sco lp) X.env) Q E s := by
  obtain ⟨ps, tP, t3, told⟩ := hT
  have obP : s.heap.get? P = some { cls := .none, data := .fields ps } := I.hok P _ tP
  have glob := I.mod.glob.keeps I.bk
  have head := TB.code.keeps I.bk
  have blt : s.heap.BuiltinsAt X.mg P := TB.bm.keeps I.bk
  refine PySem.W.kla_eval hdef ?_
  cases hf : codeAmong lp ps.toList with
  | some cv =>
    obtain ⟨c', rfl, known⟩ := told lp cv hf
    refine PySem.W.kla_makeFunctionHit (closure_ok hfree) I.ok.glob glob hcode head obP t3 hf blt fun ctv h' tk keep size => ?_
    have J := I.kept (t' := tk) (h' := h'.push (PySem.W.kla_obj "<lambda>" (lamQ X) pr bd sco (cloFrom X.env.cells sco.names []) ((X.mg "__name__").getD .none) c' ctv)) fun b o e => Heap.get?_push_of_some _ (keep b o e)
    exact h _ c' _ ctv H _ tk J (.inl rfl) ⟨ps, tP, t3, told⟩ (Heap.get?_push_size _ rfl) known
  | none =>
    refine PySem.W.kla_makeFunction (closure_ok hfree) I.ok.glob glob hcode head obP t3 hf TB.gP blt fun c' ctv h' tk ext low high rec_ tab => ?_
    obtain ⟨_, oc, vs, t, e0, r1, r2, r3⟩ := rec_
    cases e0
    have fresh : H c' = none := I.hok.fresh low
    have neP : P ≠ c' := ne_of_none tP fresh
    have J := LamX.inv_table (q := lamQ X) (t' := tk) (more := #[rawInt lp.line, rawInt lp.col, .ref c'])
      (h' := h'.push (PySem.W.kla_obj "<lambda>" (lamQ X) pr bd sco (cloFrom X.env.cells sco.names []) ((X.mg "__name__").getD .none) c' ctv)) I tP
      (fun b o n e => Heap.get?_push_of_some _ (ext b o n e)) (Heap.get?_push_of_some _ tab) low ⟨oc, vs, t, Heap.get?_push_of_some _ r1, r2, r3⟩
    refine h _ c' _ ctv _ _ tk J (.inr ⟨ps, _, c', tP, fresh, rfl⟩) ⟨_, by rw [upd_ne neP, upd_same], ?_, fun lp' cv' g => ?_⟩ (Heap.get?_push_size _ rfl) upd_same
    · rw [Array.toList_append]
      exact PySem.TriplesOk_snoc _ _ _ _ t3
    · rw [Array.toList_append] at g
      rcases LamX.among_app _ t3 g with z | z
      · obtain ⟨c0, e0, k0⟩ := told lp' cv' z
        refine ⟨c0, e0, ?_⟩
        rw [upd_ne (ne_of_none k0 fresh), upd_ne (fun z => ?_)]
        · exact k0
        · rw [z, tP] at k0
          exact LamX.codeO_ne _ (Option.some.inj k0).symm
      · exact ⟨c', z, upd_same⟩
/-- len(e), e a list -/
theorem qe_len {s1 : Shared} {P : Addr} {scope : Scope} {x : Str} {v : Value} {e : Expr} {l : Addr} {zs : List V} {p pos : Pos} (I : Inv X pins σ H s1) (hP : ∃ ps, H P = some (.tbl ps))
    (hk : scope.kind = .function) (hl : scope.names.lookup ("len" : Str) = some .globalImplicit) (hm : X.mg "len" = none)
    (he : QE X s1 P scope x v e (.ref l)) (hq : SqL X.K H l zs) (hse : ∀ ce, starEach [e] ce = [(false, eval e ce)]) :
    QE X s1 P scope x v (.Call (.Name "len" p) [e] [] pos) (.int zs.length) := by
  intro ce A' E' s2 hA F
  obtain ⟨its, r, pl, hz⟩ := I.list hq
  have hn := line63
  have hlen := r.length
  obtain ⟨ps, hP⟩ := hP
  have oP : s1.heap.get? P = some { cls := .none, data := .fields ps } := I.hok P _ hP
  have nlP : l ≠ P := by
    obtain ⟨o, ho, hc, _⟩ := id pl.isList
    intro z
    rw [z, oP] at ho
    cases ho
    cases hc
  have notP : ∀ b o, s1.heap.get? b = some o → (∃ es ep, o.data = .dict es ep) → b ≠ P := fun b o e ⟨es, ep, d⟩ z => by
    rw [z, oP] at e
    cases e
    cases d
  have k1 : ce.scope.kind = .function := by rw [F.sc]; exact hk
  have k2 : ce.kindOf "len" = some .globalImplicit := by
    show ce.scope.names.lookup ("len" : Str) = some .globalImplicit
    rw [F.sc]; exact hl
  have k3 : s2.heap.Ns ce.globals X.mg := by
    rw [F.gl]
    obtain ⟨o, es, ep, e, r⟩ := I.mod.glob
    exact ⟨o, es, ep, F.kp _ _ (notP _ _ (I.bk _ _ e) ⟨_, _, r.1⟩) (I.bk _ _ e), r⟩
  obtain ⟨mb, b1, b2⟩ := I.mod.blt
  have k4 : s2.heap.Ns ce.builtins mb := by
    rw [F.bl]
    obtain ⟨o, es, ep, e, r⟩ := b1
    exact ⟨o, es, ep, F.kp _ _ (notP _ _ (I.bk _ _ e) ⟨_, _, r.1⟩) (I.bk _ _ e), r⟩
  refine wpAny_Call_Name_kw (Calls.Name_function_global k1 k2 (Calls.loadGlobal_builtin k3 hm k4 ((b2 "len" (by decide)).trans PySem.boot_len) ?_) (by decide))
  refine PyProof.Rows.callWith_builtin1 ?_ (hse ce) (by rfl)
  rw [hse ce]
  refine Calls.spliced_cons (wpAny_mono (he ce A' E' s2 hA F) (fun u s3 h => ?_) fun _ _ e => e)
  obtain ⟨ru, kk⟩ := h
  cases ru
  refine Calls.spliced_nil ?_
  have F3 := F.on kk
  have pl3 : s3.heap.IsList l its.toArray := by
    obtain ⟨o, ho, hc, hd⟩ := pl.isList
    exact ⟨o, F3.kp _ _ nlP ho, hc, hd⟩
  refine Calls.call_len_list pl3 (by simp only [List.size_toArray] <;> omega) ⟨⟨s3.toks + 1, by rw [List.size_toArray, hlen]⟩, ktrans kk (ktok _ _)⟩
/-- the lambda's own object -/
def LamO (f : Addr) (q : Str) (pr : Arguments) (bd : Expr) (sco : Scope) (cl : List (Str × Addr)) (c' : Addr) : HO :=
  .ext fun h => ∃ pm ctv : Value, h.get? f = some (PySem.W.kla_obj "<lambda>" q pr bd sco cl pm c' ctv)
theorem lamO_ok {P : Program} {w : World} {H : Hp} {h : Heap} {f : Addr} {q : Str} {pr : Arguments} {bd : Expr} {sco : Scope} {cl : List (Str × Addr)} {c' : Addr} {pm ctv : Value}
    (e : h.get? f = some (PySem.W.kla_obj "<lambda>" q pr bd sco cl pm c' ctv)) : ObjOk P w H h f (LamO f q pr bd sco cl c') :=
  ⟨⟨pm, ctv, e⟩, ⟨_, e⟩, fun _ _ ⟨pm, ctv, z⟩ k => ⟨pm, ctv, k _ z⟩⟩
def tLamV (P : Addr) (q : Str) (pr : Arguments) (bd : Expr) (sco : Scope) (cl : List (Str × Addr)) : TE := fun _ H Q =>
  LamX.TabS H P q ∧ ∀ (H1 : Hp) (f c' : Addr), LamNew P q H H1 → LamX.TabS H1 P q → H1 c' = some (LamX.CodeO c' q) → H1 f = none → Q (.ref f) (upd H1 f (LamO f q pr bd sco cl c'))
theorem pe_lam {c P : Addr} {pr : Arguments} {bd : Expr} {sco : Scope} {lp : Pos} (TB : LamX.TabB X.base X.mg c P) (hcode : X.env.code = .ref c)
    (hdef : defaultsOf pr X.env = ([], [])) (hfree : ∀ y ∈ sco.names, y.2 ≠ .free) :
    PE X (.Lambda pr bd sco lp) (tLamV P (lamQ X) pr bd sco (cloFrom X.env.cells sco.names [])) := by
  refine ⟨fun pins s σ H Q I h => ?_⟩
  obtain ⟨hT, q⟩ := h
  obtain ⟨ps, tP, t3, told⟩ := hT
  have obP : s.heap.get? P = some { cls := .none, data := .fields ps } := I.hok P _ tP
  have glob := I.mod.glob.keeps I.bk
  have head := TB.code.keeps I.bk
  have blt : s.heap.BuiltinsAt X.mg P := TB.bm.keeps I.bk
  have hfr : ∀ y ∈ sco.names, y.2 = .free → ∃ c, X.env.cells.lookup y.1 = some c := fun y hy e => absurd e (hfree y hy)
  refine PySem.W.kla_eval hdef ?_
  cases hf : codeAmong lp ps.toList with
  | some cv =>
    obtain ⟨c', rfl, known⟩ := told lp cv hf
    refine PySem.W.kla_makeFunctionHit (closure_ok hfr) I.ok.glob glob hcode head obP t3 hf blt fun ctv h' tk keep size => ?_
    have fn : H h'.objs.size = none := I.hok.fresh size
    refine ⟨.ref _, _, I.laid (t' := tk) (fun b o e => Heap.get?_push_of_some _ (keep b o e)) size (lamO_ok (Heap.get?_push_size _ rfl)), rfl, q H _ c' (.inl rfl) ⟨ps, tP, t3, told⟩ known fn⟩
  | none =>
    refine PySem.W.kla_makeFunction (closure_ok hfr) I.ok.glob glob hcode head obP t3 hf TB.gP blt fun c' ctv h' tk ext low high rec_ tab => ?_
    obtain ⟨_, oc, vs, t, e0, r1, r2, r3⟩ := rec_
    cases e0
    have fresh : H c' = none := I.hok.fresh low
    have neP : P ≠ c' := ne_of_none tP fresh
    have J := LamX.inv_table (q := lamQ X) (t' := tk) (more := #[rawInt lp.line, rawInt lp.col, .ref c']) (h' := h') I tP ext tab low ⟨oc, vs, t, r1, r2, r3⟩
    have fn := J.hok.fresh (Nat.le_refl _)
    have fnc : h'.objs.size ≠ c' := Nat.ne_of_gt high
    refine ⟨.ref _, _, J.laid (t' := tk) (fun b o e => Heap.get?_push_of_some _ e) (Nat.le_refl _) (lamO_ok (Heap.get?_push_size _ rfl)), rfl,
      q _ _ c' (.inr ⟨ps, _, c', tP, fresh, rfl⟩) ⟨_, by rw [upd_ne neP, upd_same], ?_, fun lp' cv' g => ?_⟩ upd_same fn⟩
    · rw [Array.toList_append]
      exact PySem.TriplesOk_snoc _ _ _ _ t3
    · rw [Array.toList_append] at g
      rcases LamX.among_app _ t3 g with z | z
      · obtain ⟨c0, e0, k0⟩ := told lp' cv' z
        refine ⟨c0, e0, ?_⟩
        rw [upd_ne (ne_of_none k0 fresh), upd_ne (fun z => ?_)]
        · exact k0
        · rw [z, tP] at k0
          exact LamX.codeO_ne _ (Option.some.inj k0).symm
      · exact ⟨c', z, upd_same⟩
/-- a lambda of one parameter, that takes no name from around -/
structure LamP (sco : Scope) (x : Str) : Prop where
  kind : sco.kind = .function
  co : sco.isCoroutine = false
  gen : sco.isGenerator = false
  cell : ∀ y ∈ sco.names, y.2 ≠ .cell
  loc : sco.names.lookup x = some .local
def rMinKey (X : Cx) (P : Addr) (q : Str) (pr : Arguments) (bd : Expr) (sco : Scope) (cl : List (Str × Addr)) (x : Str) : List V → List V → Hp → VK → Prop := fun xs zs H Q =>
  ∃ (a f c' : Addr) (ys : List V) (ln : Nat → Nat), xs = [.ref a] ∧ zs = [.ref f] ∧ H f = some (LamO f q pr bd sco cl c') ∧ H c' = some (LamX.CodeO c' q) ∧ SqL X.K H a ys ∧ 0 < ys.length ∧
    (∀ (pins : List (Addr × Obj)) (σ : L2.St) (s1 : Shared), Inv X pins σ H s1 → ∀ (i : Nat) (y : V) (v : Value), ys[i]? = some y → RelV y v → QE X s1 P sco x v bd (.int (ln i : Nat))) ∧
    ∀ y, ys[argBest (fun i j => decide (((ln i : Nat) : Int) < ((ln j : Nat) : Int))) (ys.length - 1)]? = some y → Q y H
theorem cr_minKey {k : Nat} {P : Addr} {q : Str} {pr : Arguments} {bd : Expr} {sco : Scope} {x : Str} (hr : Room (k + 1) X.A) (hq : q = lamQ X) (S : LamP sco x)
    (hb : ∀ (pm cv ctv u : Value), bindArgs (PySem.W.kla_fn "<lambda>" q pr bd sco (cloFrom X.env.cells sco.names []) pm cv ctv) ⟨[u], []⟩ = pure [(x, u)]) :
    CallRK X (.builtin "min") ["key"] (rMinKey X P q pr bd sco (cloFrom X.env.cells sco.names []) x) := by
  intro pins s σ H xs zs us ws Q I r r2 h
  obtain ⟨a, f, c', ys, ln, rfl, rfl, hf, hc, hl, pos, hbody, hQ⟩ := h
  obtain ⟨u, rfl, ru⟩ := vals1 r
  obtain ⟨u2, rfl, ru2⟩ := vals1 r2
  cases ru
  cases ru2
  show wpAny _ _ (call (.builtin "min") [.ref a] [(Str.ofString "key", .ref f)]) _ _ s
  obtain ⟨its, rv, pl, hz⟩ := I.list hl
  have hlen := rv.length
  obtain ⟨⟨pm, ctv, of⟩, _, _⟩ := I.hok f _ hf
  obtain ⟨⟨oc, vs, t, hoc, hdc, hvc⟩, _, _⟩ := I.hok c' _ hc
  obtain ⟨oa, hoa, hca, hda⟩ := id pl.isList
  have alt : a < s.heap.objs.size := Heap.lt_size hoa
  refine call_min_walkK (wpAny_pyIter_list pl.isList ?_)
  obtain ⟨s2, es2⟩ : ∃ s2 : Shared, s2 = { s with heap := s.heap.push { cls := .type "list_iterator", data := .fields #[.ref a, .int 0 0] } } := ⟨_, rfl⟩
  rw [← es2]
  have k2 : ∀ b o, s.heap.get? b = some o → s2.heap.get? b = some o := fun b o e => by
    rw [es2]
    exact Heap.get?_push_of_some _ e
  have sz2 : s2.heap.objs.size = s.heap.objs.size + 1 := by
    rw [es2]
    exact Heap.size_push _ _
  have itr2 : s2.heap.IsListIter s.heap.objs.size a 0 := by
    rw [es2]
    exact ⟨_, Heap.get?_push_size _ rfl, rfl, rfl⟩
  have m0 : Moved [s.heap.objs.size] (fun a b => b = a) s s2 := by
    rw [es2]
    exact ⟨fun b o _ e => Heap.get?_push_of_some _ e, rfl, rfl, rfl, Nat.le_refl _⟩
  have ne0 : a ≠ s.heap.objs.size := Nat.ne_of_lt alt
  have hsz : its.toArray.size = ys.length := by rw [List.size_toArray, hlen]
  have hh : X.A.in1.handled = none := hr.hd
  have W := (Walks.list (prog := X.prog) (w := X.w) (A := X.A.in1) hh s.heap.objs.size a ne0 its.toArray).toS
  -- what stands at s stands
  let J : Shared → Prop := fun s' => (∀ b o, s.heap.get? b = some o → s'.heap.get? b = some o) ∧ s'.gens = s.gens ∧ s'.drawn = s.drawn ∧ s'.os = s.os
  have back : ∀ s', J s' → Inv X pins σ H s' := fun s' ⟨j1, j2, j3, j4⟩ => by
    have I' := I.kept (t' := s'.toks) j1
    have e : ({ s with heap := s'.heap, toks := s'.toks } : Shared) = s' := by
      cases s'
      cases s
      simp only at j2 j3 j4
      subst j2 j3 j4
      rfl
    rw [e] at I'
    exact I'
  have lowS : ∀ b o, s.heap.get? b = some o → b ∉ [s2.heap.objs.size, s.heap.objs.size] := fun b o e hm => by
    have lt := Heap.lt_size e
    rcases List.mem_cons.mp hm with z | z
    · rw [z, sz2] at lt
      exact absurd lt (Nat.not_lt.mpr (Nat.le_succ _))
    · rw [List.mem_singleton.mp z] at lt
      exact Nat.lt_irrefl _ lt
  refine ⟨s.heap.objs.size, _, _, _, its.toArray.size, _, _, J, fun i u _ => ∃ t, u = Value.int (ln i : Nat) t, fun i j => decide (((ln i : Nat) : Int) < ((ln j : Nat) : Int)), rfl, W,
    ⟨itr2, oa, k2 _ _ hoa, hca, hda⟩, fun b hb => ?_, by rw [hsz]; exact pos, ⟨fun s3 s4 j mv => ?_, fun i k s3 s4 z _ => z, ?_, ?_⟩, ⟨k2, by rw [es2], by rw [es2], by rw [es2]⟩, fun v s' hv j => ?_⟩
  · show b < s2.heap.objs.size
    rw [sz2]
    rcases List.mem_cons.mp hb with z | z
    · rw [z]
      exact Nat.lt_succ_self _
    · rw [List.mem_singleton.mp z]
      exact Nat.lt_succ_of_lt alt
  · obtain ⟨j1, j2, j3, j4⟩ := j
    exact ⟨fun b o e => mv.heap b o (lowS b o e) (j1 b o e), mv.gens.trans j2, mv.drawn.trans j3, mv.os.trans j4⟩
  · intro i v s3 o Qk Ek hi hv j hst hS hk
    have hv' : its[i]? = some v := by simpa using hv
    obtain ⟨y, hy, ry⟩ : ∃ y, ys[i]? = some y ∧ RelV y v := by
      cases e : ys[i]? with
      | none =>
        rw [Vals.none_of rv e] at hv'
        cases hv'
      | some y =>
        obtain ⟨u', g1, g2⟩ := rv.get e
        rw [g1] at hv'
        cases hv'
        exact ⟨y, rfl, g2⟩
    have I3 := back s3 j
    have of3 := j.1 _ _ of
    refine wpAny_call (PySem.W.kla_callFunE (by have := hr.depth; exact this) of3 rfl S.co S.gen rfl ⟨c', oc, vs, t, rfl, j.1 _ _ hoc, hdc, hvc⟩ ?_)
    rw [hb]
    refine wpAny_pure (wpAny_newFunctionEnv S.cell (fun z hz => by rw [List.mem_singleton.mp hz]; exact S.loc) (fun h1 hns hsb => ⟨I3.nolimit.fresh _ hsb, ?_⟩) S.kind)
    have kp : ∀ b o, s3.heap.get? b = some o → h1.get? b = some o := fun b o e => hsb.extBut b o (Nat.ne_of_lt (Heap.lt_size e)) (Heap.get?_push_of_some _ e)
    refine PySem.W.kla_codeExpr (wpAny_mono (hbody pins σ s3 I3 i y v hy ry _ _ _ _ ?_ ⟨rfl, rfl, rfl, rfl, ⟨_, hns, ?_⟩, fun b o _ e => kp b o e⟩) (fun u' s5 hu => ?_) fun _ _ e => e)
    · exact hr.hd
    · simp
    · obtain ⟨ru', hk5⟩ := hu
      obtain ⟨h5, tk5, rfl, kk⟩ := hk5
      obtain ⟨t', rfl⟩ := ru'
      have all : ∀ b o, s3.heap.get? b = some o → h5.get? b = some o := fun b o e => kk b o (kp b o e)
      exact hk _ _ ⟨fun b o e => all b o (j.1 b o e), j.2.1, j.2.2.1, j.2.2.2⟩ ⟨let ⟨o, z1, z2⟩ := hst.1; ⟨o, all _ _ z1, z2⟩, let ⟨o, z1, z2⟩ := hst.2; ⟨o, all _ _ z1, z2⟩⟩ (all _ _ hS) ⟨t', rfl⟩ fun _ _ z => z
  · intro i j ki kj s3 Qk Ek _ hi hj hq'
    exact CmpOf.ints_lt (P := fun i v => ∃ t, v = Value.int (ln i : Nat) t) (fun i => ((ln i : Nat) : Int)) (fun _ _ z => z) i j ki kj s3 Qk Ek hi hj hq'
  · have hv' : its[argBest (fun i j => decide (((ln i : Nat) : Int) < ((ln j : Nat) : Int))) (ys.length - 1)]? = some v := by
      have := hv
      rw [hsz] at this
      simpa using this
    cases e : ys[argBest (fun i j => decide (((ln i : Nat) : Int) < ((ln j : Nat) : Int))) (ys.length - 1)]? with
    | none =>
      rw [Vals.none_of rv e] at hv'
      cases hv'
    | some y =>
      obtain ⟨u', g1, g2⟩ := rv.get e
      rw [g1] at hv'
      cases hv'
      exact ⟨y, H, back s' j, g2, hQ y e⟩
/-- min(e, key=lambda x: body) -/
theorem pe_minLam {k : Nat} {c P : Addr} {pr : Arguments} {bd e : Expr} {sco : Scope} {lp kpos p pos : Pos} {x : Str} {te : TE} (hr : Room (k + 1) X.A) (hc : X.calm = true) (hg : Gl X "min") (hm : X.mg "min" = none)
    (TB : LamX.TabB X.base X.mg c P) (hcode : X.env.code = .ref c) (hdef : defaultsOf pr X.env = ([], [])) (hfree : ∀ y ∈ sco.names, y.2 ≠ .free) (S : LamP sco x)
    (hb : ∀ (pm cv ctv u : Value), bindArgs (PySem.W.kla_fn "<lambda>" (lamQ X) pr bd sco (cloFrom X.env.cells sco.names []) pm cv ctv) ⟨[u], []⟩ = pure [(x, u)]) (ha : PE X e te)
    (he : backTo pos (starEach [e] X.env) = (false, eval e X.env) :: backTo pos (starEach [] X.env) := by rfl) (hpl : (backTo pos (starEach [e] X.env)).any (·.1) = false := by rfl) (hst : starEach [e] X.env = (false, eval e X.env) :: starEach [] X.env := by rfl) :
    PE X (.Call (.Name "min" p) [e] [⟨some "key", .Lambda pr bd sco lp, kpos⟩] pos)
      (tCKw (rMinKey X P (lamQ X) pr bd sco (cloFrom X.env.cells sco.names []) x) (tCons te tNil) (tCons (tLamV P (lamQ X) pr bd sco (cloFrom X.env.cells sco.names [])) tNil)) :=
  pe_callBK (ks := ["key"]) (cr_minKey hr rfl S hb) hg hm (by decide +kernel) (pa_cons ha pa_nil (hs := hst)) (pk_cons (pe_lam TB hcode hdef hfree) pk_nil) (he := he) (hpl := hpl)
end
end Own

set_option Elab.async false
set_option linter.all false
set_option maxRecDepth 100000
set_option maxHeartbeats 2000000
namespace Own
open PySem PySem.Spec PyProof.Rows L2
theorem nlt {b n : Nat} (e : b = n) (h : b < n) : False := by omega
theorem up1 {b n : Nat} (e : b = n) : b < n + 1 := by omega
theorem up2 {b c n : Nat} (e : b = c) (h : c < n) : b < n + 1 := by omega
/-! the view d.values() as a value; the greatest of such a view, with default= -/
abbrev vwObj (a : Addr) : Obj := { cls := .type "dict_values", data := .fields #[.ref a] }
def VwO (v a : Addr) : HO := .ext fun h => h.get? v = some (vwObj a)
theorem vw_ok {P : Program} {w : World} {H : Hp} {h : Heap} {v a : Addr} (e : h.get? v = some (vwObj a)) : ObjOk P w H h v (VwO v a) :=
  ⟨e, ⟨_, e⟩, fun _ _ p k => k _ p⟩
section
variable {X : Cx}
def rVals : V → List V → Hp → VK → Prop := fun x xs H Q =>
  ∃ (a : Addr) (kvs : List (Key × V)), x = .ref a ∧ xs = [] ∧ H a = some (.dK kvs) ∧ ∀ v, H v = none → Q (.ref v) (upd H v (VwO v a))
theorem mt_vals : MtR X "dict.values" rVals := by
  intro pins s σ H x xs v us Q I rx rxs h
  obtain ⟨a, kvs, rfl, rfl, ha, q⟩ := h
  cases rx
  cases rxs
  obtain ⟨_, hsys, vs, rel, dof⟩ := dk_of I.hok ha
  obtain ⟨ep, dat⟩ := dof.dictAt
  obtain ⟨ob, es, ho, ex, _⟩ := id dat
  refine call_meetsIn F.slot_dict_values ⟨ob, ho, ex.1⟩ F.entry_dict_values (F.args_dict_values_1 _)
    (meets_dict_values (mixKind X.prog X.w) a hsys) ⟨⟨vs, dof⟩, ?_⟩
  refine ⟨.ref s.heap.objs.size, _, I.laid (t' := s.toks) (o := VwO s.heap.objs.size a)
    (fun b u e => Heap.get?_push_of_some _ e) (Nat.le_refl _) (vw_ok (Heap.get?_push_size _ rfl)), rfl, q _ (I.hok.fresh (Nat.le_refl _))⟩
def rMaxD : List V → List V → Hp → VK → Prop := fun xs zs H Q => ∃ (v a : Addr) (kvs : List (Key × V)) (is : List Int) (d : Int),
  xs = [.ref v] ∧ zs = [.int d] ∧ H v = some (VwO v a) ∧ H a = some (.dK kvs) ∧ kvs.map (·.2) = is.map V.int ∧
  (is = [] → Q (.int d) H) ∧ ∀ m, m ∈ is → (∀ j ∈ is, j ≤ m) → Q (.int m) H
theorem cr_maxD (hc : X.calm = true) : CallRK X (.builtin "max") ["default"] rMaxD := by
  intro pins s σ H xs zs us ws Q I r r2 h
  obtain ⟨v, a, kvs, is, d, rfl, rfl, hv, ha, he, q0, q1⟩ := h
  obtain ⟨u, rfl, ru⟩ := vals1 r
  obtain ⟨u2, rfl, ru2⟩ := vals1 r2
  cases ru
  obtain ⟨t, rfl⟩ := ru2
  show wpAny _ _ (call (.builtin "max") [.ref v] [(Str.ofString "default", .int d t)]) _ _ s
  have hview : s.heap.get? v = some (vwObj a) := (I.hok v _ hv).1
  obtain ⟨_, hsys, vs, rel, dof⟩ := dk_of I.hok ha
  obtain ⟨ep, dat⟩ := dof.dictAt
  obtain ⟨ob, es, ho, ex, _⟩ := id dat
  have alt : a < s.heap.objs.size := Heap.lt_size ho
  have hne : a ≠ s.heap.objs.size := Nat.ne_of_lt alt
  have lens : vs.length = is.length := by
    have e1 := congrArg List.length he
    simp only [List.length_map] at e1
    rw [← e1, KV.length rel]
  have hval : ∀ (i : Nat) (x : Value), (∃ k, vs[i]? = some (k, x)) → ∃ t, x = Value.int (is.getD i 0) t := by
    intro i x ⟨k, hk⟩
    obtain ⟨y, h1, h2⟩ := KV.at' rel hk
    have e1 : (is.map V.int)[i]? = some y := by rw [← he, List.getElem?_map, h1]; rfl
    rw [List.getElem?_map] at e1
    obtain ⟨j, hj, rfl⟩ := Option.map_eq_some_iff.mp e1
    obtain ⟨t, rfl⟩ := h2
    exact ⟨t, by rw [List.getD_eq_getElem?_getD, hj]; rfl⟩
  refine call_max_walkD (wpAny_pyIter_values (v := v) (d := a) ⟨_, hview, rfl, rfl⟩ dat ?_)
  have gone : ∀ s' : Shared, Moved [s.heap.objs.size] (fun a b => b = a) { s with heap := s.heap.push { cls := .type "dict_valueiterator", data := .fields #[.ref a, .int 0 0, .int vs.length 0, .int ep 0] } } s' →
      Inv X pins σ H s' := by
    intro s' mv
    have k : ∀ b o, s.heap.get? b = some o → s'.heap.get? b = some o := fun b o e => by
      refine mv.heap b o ?_ (Heap.get?_push_of_some _ e)
      intro hm
      have e2 : b = s.heap.objs.size := List.mem_singleton.mp hm
      exact nlt e2 (Heap.lt_size e)
    have J := I.kept (t' := s'.toks) k
    have eg : s'.gens = s.gens := mv.gens
    have ed : s'.drawn = s.drawn := mv.drawn
    have eo : s'.os = s.os := mv.os
    have es : ({ s with heap := s'.heap, toks := s'.toks } : Shared) = s' := by
      cases s'
      cases s
      simp only at eg ed eo
      subst eg ed eo
      rfl
    rw [es] at J
    exact J
  refine ⟨s.heap.objs.size, _, _, _, vs.length, _, _, s.heap, fun i j => decide (is.getD i 0 > is.getD j 0), rfl,
    (Walks.dictValues (knd := mixKind X.prog X.w) (A := X.A.in1) (I.ok.hd hc) s.heap.objs.size a hne vs ep).toS,
    ⟨⟨_, Heap.get?_push_size _ rfl, rfl, rfl⟩, dat.keep fun b u e => Heap.get?_push_of_some _ e⟩, fun b hb => ?_, fun b o e hm => ?_, fun b o e => Heap.get?_push_of_some _ e, fun h0 s' mv => ?_, fun hn => ⟨?_, fun x s' hP mv => ?_⟩⟩
  · show b < (s.heap.push _).objs.size
    rw [Heap.size_push]
    rcases List.mem_cons.mp hb with e | hb
    · exact up1 e
    · exact up2 (List.mem_singleton.mp hb) alt
  · exact nlt (List.mem_singleton.mp hm) (Heap.lt_size e)
  · have e0 : is = [] := List.length_eq_zero_iff.mp (by omega)
    exact ⟨.int d, H, gone s' mv, ⟨t, rfl⟩, q0 e0⟩
  · intro i j vi vj s2 Q2 E2 _ hi hj hq
    exact CmpOf.ints_gt (fun i => is.getD i 0) hval i j vi vj s2 Q2 E2 hi hj hq
  · obtain ⟨t2, rfl⟩ := hval _ x hP
    obtain ⟨b1, b2⟩ := argBest_gt (fun i => is.getD i 0) (vs.length - 1)
    refine ⟨.int _, H, gone s' mv, ⟨t2, rfl⟩, q1 _ ?_ fun j hj => ?_⟩
    · have hb : argBest (fun i j => decide (is.getD i 0 > is.getD j 0)) (vs.length - 1) < is.length := by omega
      rw [List.getD_eq_getElem?_getD, List.getElem?_eq_getElem hb]
      exact List.getElem_mem hb
    · obtain ⟨i, hi, e⟩ := List.mem_iff_getElem.mp hj
      have e2 : is.getD i 0 = j := by rw [List.getD_eq_getElem?_getD, List.getElem?_eq_getElem hi, ← e]; rfl
      rw [← e2]
      exact b2 i (by omega)
end
end Own

set_option Elab.async false
set_option linter.all false
set_option maxRecDepth 100000
set_option maxHeartbeats 2000000
namespace Own
open PySem PySem.Spec PyProof.Rows L2
/-! list(d.values()) -/
def rListVw : List V → Hp → VK → Prop := fun xs H Q => ∃ (v a : Addr) (kvs : List (Key × V)), xs = [.ref v] ∧ H v = some (VwO v a) ∧ H a = some (.dK kvs) ∧ ∀ l, H l = none → Q (.ref l) (upd H l (.lst (kvs.map (·.2))))
section
variable {X : Cx}
theorem call_listVw (hc : X.calm = true) : CallR X (.type "list") rListVw := by
  intro pins s σ H xs us Q I r h
  obtain ⟨v, a, kvs, rfl, hv, ha, q⟩ := h
  obtain ⟨u, rfl, ru⟩ := vals1 r
  cases ru
  have view : s.heap.get? v = some (vwObj a) := (I.hok v _ hv).1
  obtain ⟨few, hsys, vs, rel, dof⟩ := dk_of I.hok ha
  obtain ⟨ep, dat⟩ := dof.dictAt
  have lens : kvs.length = vs.length := KV.length rel
  refine PySem.W.kdl_call (PySem.W.kdl_values (knd := mixKind X.prog X.w) (kvs := vs) (ep := ep) (r := v) (d := a)) (I.ok.hd hc) ⟨⟨_, view, rfl, rfl⟩, dat⟩ (by omega) fun h' tk acc c' keep new items => ?_
  have ok : Vals (kvs.map (·.2)) acc.toList := by
    obtain ⟨n1, n2⟩ := items
    have n1' : acc.toList.length = vs.length := by rw [Array.length_toList]; exact n1
    have go : ∀ (kvs : List (Key × V)) (vs : List (Key × Value)) (l : List Value), KV kvs vs → l.length = vs.length → (∀ (i : Nat) (x : Value), l[i]? = some x → ∃ k, vs[i]? = some (k, x)) → Vals (kvs.map (·.2)) l := by
      intro kvs
      induction kvs with
      | nil =>
        intro vs l r e _
        cases r
        rw [List.length_eq_zero_iff.mp e]
        exact .nil
      | cons p kvs ih =>
        intro vs l r e g
        cases r with
        | @cons _ q _ qs hpq r' =>
          cases l with
          | nil => cases e
          | cons x l =>
            obtain ⟨k, hk⟩ := g 0 x rfl
            have hq : q = (k, x) := Option.some.inj hk
            refine .cons ?_ (ih qs l r' (Nat.succ.inj e) fun i y hy => g (i + 1) y hy)
            have := hpq.2
            rw [hq] at this
            exact this
    exact go kvs vs acc.toList rel n1' fun i x hx => n2 i x (by rw [← Array.getElem?_toList]; exact hx)
  refine ⟨.ref _, _, I.laid (t' := tk) keep (Nat.le_refl _) (show ObjOk X.prog X.w _ h' _ (.lst (kvs.map (·.2))) from ⟨by rw [List.length_map]; exact few, acc.toList, c', ok, ?_⟩), rfl, q _ (I.hok.fresh (Nat.le_refl _))⟩
  rw [Array.toArray_toList]
  exact new
end
end Own

set_option Elab.async false
set_option linter.all false
set_option maxRecDepth 100000
namespace Own
open PySem PySem.Spec PyProof.Rows L2
/-! what goes on from heap to heap -/
/-- the tables of code objects: of generator expressions, of lambdas -/
structure Tbs where
  g : List Addr
  l : List (Addr × Str)
/-- what may be written without a word of tables, code objects, tuples -/
def plainO : HO → Bool
  | .lst _ => true
  | .dK _ => true
  | .dT _ => true
  | .ins _ _ _ => true
  | .own _ => true
  | .frz _ (.lst _) => true
  | .frz _ (.dK _) => true
  | .frz _ (.dT _) => true
  | _ => false
def tupO : HO → Bool
  | .tup _ => true
  | .frz _ (.tup _) => true
  | _ => false
theorem plain_tbl {o : HO} (h : plainO o = true) (ps : Array Value) : o ≠ .tbl ps := by
  intro z
  rw [z] at h
  cases h
theorem plain_ext {o : HO} (h : plainO o = true) (φ : Heap → Prop) : o ≠ .ext φ := by
  intro z
  rw [z] at h
  cases h
theorem plain_tup {o u : HO} (h : plainO o = true) (g : tupO u = true) : u ≠ o := by
  intro z
  rw [z] at g
  cases o with
  | tup xs => cases h
  | frz ob v => cases v <;> first | (cases h; done) | (cases g; done)
  | _ => cases g
/-- of H1 to H2: what S names may have changed; tuples, tables, all else stand; nothing known is forgotten -/
structure Fx (W : Tbs) (S : List Addr) (H H' : Hp) : Prop where
  o : ∀ b o, b ∉ S → H b = some o → (∀ ps, o ≠ .tbl ps) → H' b = some o
  u : ∀ b o, tupO o = true → H b = some o → H' b = some o
  g : ∀ P ∈ W.g, GxR.TabG H P → GxR.TabG H' P
  l : ∀ p ∈ W.l, LamX.TabS H p.1 p.2 → LamX.TabS H' p.1 p.2
  f : ∀ b, H' b = none → H b = none
abbrev Ext (W : Tbs) (H H' : Hp) : Prop := Fx W [] H H'
section
variable {W : Tbs} {S S' : List Addr} {H H1 H2 H' : Hp} {K : PySem.W.Frag}
theorem Fx.refl : Fx W S H H := ⟨fun _ _ _ e _ => e, fun _ _ _ e => e, fun _ _ h => h, fun _ _ h => h, fun _ h => h⟩
theorem Fx.trans (a : Fx W S H H1) (b : Fx W S H1 H2) : Fx W S H H2 :=
  ⟨fun c o hc e n => b.o c o hc (a.o c o hc e n) n, fun c o t e => b.u c o t (a.u c o t e), fun P hP h => b.g P hP (a.g P hP h), fun p hp h => b.l p hp (a.l p hp h), fun c h => a.f c (b.f c h)⟩
theorem Fx.wk (a : Fx W S H H1) (h : ∀ x ∈ S, x ∈ S') : Fx W S' H H1 := ⟨fun c o hc => a.o c o fun z => hc (h c z), a.u, a.g, a.l, a.f⟩
theorem Fx.up (a : Ext W H H1) : Fx W S H H1 := a.wk fun x hx => absurd hx (by simp)
/-- what S names was not there at first -/
theorem Fx.down (a : Fx W S H H1) (h : ∀ x ∈ S, H x = none) : Ext W H H1 :=
  ⟨fun c o _ e n => a.o c o (fun z => by rw [h c z] at e; cases e) e n, a.u, a.g, a.l, a.f⟩
theorem Fx.of (s : Same H H') : Fx W S H H' := ⟨fun b o _ e _ => s b o e, fun b o _ e => s b o e, fun P _ ⟨ps, h1, h2⟩ => ⟨ps, s _ _ h1, h2⟩, fun p _ h => h.ext s, fun _ h => s.free h⟩
theorem same_new {p : Addr} {o : HO} (h : H p = none) : Same H (upd H p o) := fun b x e => by
  rw [upd_ne (ne_of_none e h)]
  exact e
theorem Fx.new {p : Addr} {o : HO} (h : H p = none) : Fx W S H (upd H p o) := .of (same_new h)
theorem tabS_write {p P : Addr} {o o1 : HO} {q : Str} (h1 : H p = some o1) (t1 : ∀ ps, o1 ≠ .tbl ps) (t2 : ∀ q, o1 ≠ LamX.CodeO p q) (h : LamX.TabS H P q) : LamX.TabS (upd H p o) P q := by
  obtain ⟨ps, a, b, c⟩ := h
  refine ⟨ps, by rw [upd_ne (fun z => t1 ps (by rw [z, h1] at a; exact Option.some.inj a))]; exact a, b, fun pos cv e => ?_⟩
  obtain ⟨d, e1, e2⟩ := c pos cv e
  refine ⟨d, e1, ?_⟩
  rw [upd_ne (fun z => t2 q (by rw [z, h1] at e2; exact Option.some.inj e2))]
  exact e2
theorem tabG_write {p P : Addr} {o o1 : HO} (h1 : H p = some o1) (t1 : ∀ ps, o1 ≠ .tbl ps) (h : GxR.TabG H P) : GxR.TabG (upd H p o) P := by
  obtain ⟨ps, a, b⟩ := h
  exact ⟨ps, by rw [upd_ne (fun z => t1 ps (by rw [z, h1] at a; exact Option.some.inj a))]; exact a, b⟩
/-- something is written: what was not there at first, or what S names -/
theorem Fx.putG {p : Addr} {o o1 : HO} (e : Fx W S H H1) (h : H p = none ∨ p ∈ S) (h1 : H1 p = some o1) (t1 : ∀ ps, o1 ≠ .tbl ps) (t2 : ∀ q, o1 ≠ LamX.CodeO p q) (t3 : tupO o1 = false) : Fx W S H (upd H1 p o) := by
  refine ⟨fun b x hb q n => ?_, fun b x t q => ?_, fun P hP hT => tabG_write h1 t1 (e.g P hP hT), fun P hP hT => tabS_write h1 t1 t2 (e.l P hP hT), fun b q => ?_⟩
  · rw [upd_ne (fun z => ?_)]
    · exact e.o b x hb q n
    · rw [z] at q hb
      rcases h with h | h
      · rw [h] at q; cases q
      · exact hb h
  · have q' := e.u b x t q
    rw [upd_ne (fun z => ?_)]
    · exact q'
    · rw [z, h1] at q'
      rw [← Option.some.inj q', t3] at t
      cases t
  · by_cases z : b = p
    · rw [z, upd_same] at q
      cases q
    · rw [upd_ne z] at q
      exact e.f b q
theorem plain_tupF {o : HO} (h : plainO o = true) : tupO o = false := by
  cases e : tupO o with
  | false => rfl
  | true => exact absurd rfl (plain_tup h e)
theorem Fx.put {p : Addr} {o o1 : HO} (e : Fx W S H H1) (h : H p = none ∨ p ∈ S) (h1 : H1 p = some o1) (t : plainO o1 = true := by rfl) : Fx W S H (upd H1 p o) :=
  e.putG h h1 (plain_tbl t) (fun q => plain_ext t _) (plain_tupF t)
/-- a thing is locked, walked, unlocked -/
theorem Fx.locked {d : Addr} {od : Obj} {u : HO} (hd : H d = some u) (t : plainO u = true) (t' : plainO (.frz od u) = true) (x : Fx W S (upd H d (.frz od u)) H') (hd' : H' d = some (.frz od u)) : Fx W S H (upd H' d u) := by
  refine ⟨fun b o hb e n => ?_, fun b o tu e => ?_, fun P hP h => tabG_write hd' (plain_tbl t') (x.g P hP (tabG_write hd (plain_tbl t) h)),
    fun p hp h => tabS_write hd' (plain_tbl t') (fun q => plain_ext t' _) (x.l p hp (tabS_write hd (plain_tbl t) (fun q => plain_ext t _) h)), fun b e => ?_⟩
  · by_cases z : b = d
    · rw [z, upd_same]
      rw [z, hd] at e
      exact e
    · rw [upd_ne z]
      exact x.o b o hb (by rw [upd_ne z]; exact e) n
  · have z : b ≠ d := fun z => plain_tup t tu (by rw [z, hd] at e; exact (Option.some.inj e).symm)
    rw [upd_ne z]
    exact x.u b o tu (by rw [upd_ne z]; exact e)
  · by_cases z : b = d
    · rw [z, upd_same] at e
      cases e
    · rw [upd_ne z] at e
      have := x.f b e
      rw [upd_ne z] at this
      exact this
/-- a generator expression's table is written -/
theorem Fx.tab {P : Addr} (hT : GxR.TabG H P) (h : GxR.Tabbed P H H') (nl : ∀ p ∈ W.l, p.1 ≠ P) : Fx W S H H' := by
  obtain ⟨h1, h2⟩ := h
  have nP : ∀ b o, H b = some o → (∀ ps, o ≠ .tbl ps) → b ≠ P := fun b o e n z => by
    obtain ⟨ps, g, _⟩ := hT
    rw [z, g] at e
    exact n ps (Option.some.inj e).symm
  refine ⟨fun b o _ e n => by rw [h2 b (nP b o e n)]; exact e, fun b o t e => by rw [h2 b (nP b o e (fun ps z => by rw [z] at t; cases t))]; exact e, fun Q hQ hTQ => ?_, fun p hp hS => ?_, fun b q => ?_⟩
  · by_cases z : Q = P
    · rw [z]
      exact h1
    · obtain ⟨ps, g1, g2⟩ := hTQ
      exact ⟨ps, by rw [h2 Q z]; exact g1, g2⟩
  · obtain ⟨ps, a, b, c⟩ := hS
    refine ⟨ps, by rw [h2 _ (nl p hp)]; exact a, b, fun pos cv e => ?_⟩
    obtain ⟨d, e1, e2⟩ := c pos cv e
    exact ⟨d, e1, by rw [h2 d (nP d _ e2 (fun ps => LamX.codeO_ne ps))]; exact e2⟩
  · by_cases z : b = P
    · obtain ⟨ps, g, _⟩ := h1
      rw [z, g] at q
      cases q
    · rw [h2 b z] at q
      exact q
/-- a lambda is made -/
theorem Fx.lam {P : Addr} {q : Str} (h : LamNew P q H H') (hS : LamX.TabS H' P q) (hl : ∀ p ∈ W.l, p.1 = P → p.2 = q) : Fx W S H H' := by
  rcases h with h | ⟨ps, more, c, hP, hc, h⟩
  · rw [h]
    exact .refl
  · have at_ : ∀ b, b ≠ P → b ≠ c → H' b = H b := fun b h1 h2 => by rw [h, upd_ne h2, upd_ne h1]
    have nP : ∀ b o, H b = some o → (∀ ps, o ≠ .tbl ps) → b ≠ P := fun b o e n z => by
      rw [z, hP] at e
      exact n ps (Option.some.inj e).symm
    have keep : ∀ b o, H b = some o → (∀ ps, o ≠ .tbl ps) → H' b = some o := fun b o e n => by
      rw [at_ b (nP b o e n) (ne_of_none e hc)]
      exact e
    refine ⟨fun b o _ => keep b o, fun b o t e => keep b o e (fun ps z => by rw [z] at t; cases t), fun Q hQ hTQ => ?_, fun p hp hS2 => ?_, fun b e => ?_⟩
    · by_cases z : Q = P
      · obtain ⟨qs, a, b, _⟩ := hS
        rw [z]
        exact ⟨qs, a, b⟩
      · obtain ⟨qs, a, b⟩ := hTQ
        exact ⟨qs, by rw [at_ Q z (ne_of_none a hc)]; exact a, b⟩
    · by_cases z : p.1 = P
      · rw [hl p hp z, z]
        exact hS
      · obtain ⟨qs, a, b, k⟩ := hS2
        refine ⟨qs, by rw [at_ _ z (ne_of_none a hc)]; exact a, b, fun pos cv e => ?_⟩
        obtain ⟨d, e1, e2⟩ := k pos cv e
        exact ⟨d, e1, keep d _ e2 (fun ps => LamX.codeO_ne ps)⟩
    · by_cases z : b = P
      · obtain ⟨qs, a, _⟩ := hS
        rw [z, a] at e
        cases e
      · by_cases y : b = c
        · rw [y]
          exact hc
        · rw [at_ b z y] at e
          exact e
theorem Fx.seq {a : Addr} {xs : List V} (e : Fx W S H H') (h : SqL K H a xs) (ha : a ∉ S := by simp) : SqL K H' a xs := by
  rcases h with (h | ⟨o, h⟩) | h
  · exact .inl (.inl (e.o _ _ ha h (fun _ z => by cases z)))
  · exact .inl (.inr ⟨o, e.o _ _ ha h (fun _ z => by cases z)⟩)
  · exact .inr h
theorem Fx.tup {a : Addr} {xs : List V} (e : Fx W S H H') (h : SqT K H a xs) : SqT K H' a xs := by
  rcases h with (h | ⟨o, h⟩) | h
  · exact .inl (.inl (e.u _ _ rfl h))
  · exact .inl (.inr ⟨o, e.u _ _ rfl h⟩)
  · exact .inr h
theorem Fx.lst {a : Addr} {xs : List V} (e : Fx W S H H') (h : H a = some (.lst xs)) (ha : a ∉ S := by simp) : H' a = some (.lst xs) := e.o _ _ ha h (fun _ z => by cases z)
theorem Fx.dk {a : Addr} {kvs : List (Key × V)} (e : Fx W S H H') (h : H a = some (.dK kvs)) (ha : a ∉ S := by simp) : H' a = some (.dK kvs) := e.o _ _ ha h (fun _ z => by cases z)
theorem Fx.dt {a : Addr} {kvs : List (List Key × V)} (e : Fx W S H H') (h : H a = some (.dT kvs)) (ha : a ∉ S := by simp) : H' a = some (.dT kvs) := e.o _ _ ha h (fun _ z => by cases z)
theorem Fx.fz {a : Addr} {od : Obj} {v : HO} (e : Fx W S H H') (h : H a = some (.frz od v)) (ha : a ∉ S := by simp) : H' a = some (.frz od v) := e.o _ _ ha h (fun _ z => by cases z)
theorem Fx.tp {a : Addr} {xs : List V} (e : Fx W S H H') (h : H a = some (.tup xs)) : H' a = some (.tup xs) := e.u _ _ rfl h
theorem Fx.ins {a C dx : Addr} {fs : List (Str × V)} (e : Fx W S H H') (h : H a = some (.ins C dx fs)) (ha : a ∉ S := by simp) : H' a = some (.ins C dx fs) := e.o _ _ ha h (fun _ z => by cases z)
/-! new objects: the heap behind is given a name -/
@[elab_as_elim] theorem newO {motive : Hp → Prop} {p : Addr} {o : HO} (W : Tbs) (np : H p = none) (h : ∀ H', Ext W H H' → H' p = some o → motive H') : motive (upd H p o) := h _ (.new np) upd_same
/-- a list of things, each told of by its own word -/
def Each (K : PySem.W.Frag) (H : Hp) (as : List Addr) (ts : List (List Int)) : Prop := Paired (fun b r => SqT K H b (r.map V.int)) as ts
/-- a list of tuples of ints -/
def Rows (K : PySem.W.Frag) (H : Hp) (a : Addr) (ts : List (List Int)) : Prop := ∃ as : List Addr, SqL K H a (as.map V.ref) ∧ Each K H as ts
theorem Fx.each (e : Fx W S H H') : ∀ {as : List Addr} {ts : List (List Int)}, Each K H as ts → Each K H' as ts
  | _, _, .nil => .nil
  | _, _, .cons h t => .cons (e.tup h) (Fx.each e t)
theorem Fx.rows {a : Addr} {ts : List (List Int)} (e : Fx W S H H') (h : Rows K H a ts) (ha : a ∉ S := by simp) : Rows K H' a ts := by
  obtain ⟨as, h1, h2⟩ := h
  exact ⟨as, e.seq h1 ha, e.each h2⟩
theorem Each.len {as : List Addr} {ts : List (List Int)} (h : Each K H as ts) : as.length = ts.length := Paired.length h
theorem Each.at : ∀ {as : List Addr} {ts : List (List Int)} {i : Nat} {r : List Int}, Each K H as ts → ts[i]? = some r → ∃ b, as[i]? = some b ∧ SqT K H b (r.map V.int)
  | _, _, _, _, .nil, h => by simp at h
  | b :: _, t :: _, 0, r, .cons h _, e => by
    have e' : t = r := Option.some.inj e
    subst e'
    exact ⟨b, rfl, h⟩
  | _ :: _, _ :: _, i + 1, r, .cons _ t, e => by
    obtain ⟨b, h1, h2⟩ := Each.at (i := i) (r := r) t (by simpa using e)
    exact ⟨b, by simpa using h1, h2⟩
theorem Each.on : ∀ {as : List Addr} {ts : List (List Int)} {i : Nat} {b : Addr}, Each K H as ts → as[i]? = some b → ∃ r, ts[i]? = some r ∧ SqT K H b (r.map V.int)
  | _, _, _, _, .nil, h => by simp at h
  | c :: _, t :: _, 0, b, .cons h _, e => by
    have e' : c = b := Option.some.inj e
    subst e'
    exact ⟨t, rfl, h⟩
  | _ :: _, _ :: _, i + 1, b, .cons _ t, e => by
    obtain ⟨r, h1, h2⟩ := Each.on (i := i) (b := b) t (by simpa using e)
    exact ⟨r, by simpa using h1, h2⟩
theorem Each.snoc : ∀ {as : List Addr} {ts : List (List Int)} {b : Addr} {r : List Int}, Each K H as ts → SqT K H b (r.map V.int) → Each K H (as ++ [b]) (ts ++ [r])
  | _, _, _, _, .nil, h => .cons h .nil
  | _, _, _, _, .cons q t, h => .cons q (Each.snoc t h)
theorem Each.app : ∀ {as bs : List Addr} {ts us : List (List Int)}, Each K H as ts → Each K H bs us → Each K H (as ++ bs) (ts ++ us)
  | _, _, _, _, .nil, h => h
  | _, _, _, _, .cons q t, h => .cons q (Each.app t h)
theorem Each.take : ∀ {as : List Addr} {ts : List (List Int)} (n : Nat), Each K H as ts → Each K H (as.take n) (ts.take n)
  | _, _, 0, _ => .nil
  | _, _, _ + 1, .nil => .nil
  | _, _, n + 1, .cons q t => .cons q (Each.take n t)
theorem Each.drop : ∀ {as : List Addr} {ts : List (List Int)} (n : Nat), Each K H as ts → Each K H (as.drop n) (ts.drop n)
  | _, _, 0, h => h
  | _, _, _ + 1, .nil => .nil
  | _, _, n + 1, .cons _ t => Each.drop n t
/-- the i-th value of such a list -/
theorem Each.val {as : List Addr} {ts : List (List Int)} {i : Nat} {x : V} (h : Each K H as ts) (e : (as.map V.ref)[i]? = some x) : ∃ b r, x = .ref b ∧ as[i]? = some b ∧ ts[i]? = some r ∧ SqT K H b (r.map V.int) := by
  rw [List.getElem?_map] at e
  obtain ⟨b, hb, rfl⟩ := Option.map_eq_some_iff.mp e
  obtain ⟨r, h1, h2⟩ := h.on hb
  exact ⟨b, r, rfl, hb, h1, h2⟩
end

section
variable {X : Cx}
/-- a constant of the module: an int, a text -/
theorem pe_ci {x : Str} {i : Int} {t : Tok} {pos : Pos} (hg : Gl X x) (hm : X.mg x = some (.int i t)) (hd : (x == ("__debug__" : Str)) = false := by decide) :
    PE X (.Name x pos) (tC (.int i)) := pe_glob hg hm ⟨t, rfl⟩ hd
theorem pe_cs {x : Str} {z : Str} {t : Tok} {pos : Pos} (hg : Gl X x) (hm : X.mg x = some (.str z t)) (hd : (x == ("__debug__" : Str)) = false := by decide) :
    PE X (.Name x pos) (tC (.str z)) := pe_glob hg hm ⟨t, rfl⟩ hd
end
section
/-! the rules with the written part named: for use within a comprehension's block -/
theorem ixL (K : PySem.W.Frag) {X : Cx} (h : X.K = K := by rfl) : IxR X (rIxL K) := by
  subst h
  exact ix_list
theorem ixT (K : PySem.W.Frag) {X : Cx} (h : X.K = K := by rfl) : IxR X (rIxT K) := by
  subst h
  exact ix_tup
theorem slL (K : PySem.W.Frag) {X : Cx} (h : X.K = K := by rfl) : SlR X (rSlL K) := by
  subst h
  exact sl_list
theorem slT (K : PySem.W.Frag) {X : Cx} (h : X.K = K := by rfl) : SlR X (rSlT K) := by
  subst h
  exact sl_tup
def rLenQ (K : PySem.W.Frag) : List V → Hp → VK → Prop := fun xs H Q => ∃ p ys, xs = [.ref p] ∧ (SqL K H p ys ∨ SqT K H p ys) ∧ Q (.int ys.length) H
theorem lenQ (K : PySem.W.Frag) {X : Cx} (h : X.K = K := by rfl) : CallR X (.builtin "len") (rLenQ K) := by
  subst h
  exact call_len_seq
theorem minL (K : PySem.W.Frag) {X : Cx} (hc : X.calm = true) (h : X.K = K := by rfl) : CallR X (.builtin "min") (rMin K) := by
  subst h
  exact cr_min hc
theorem maxL (K : PySem.W.Frag) {X : Cx} (hc : X.calm = true) (h : X.K = K := by rfl) : CallR X (.builtin "max") (rMax K) := by
  subst h
  exact cr_max hc
theorem sumL (K : PySem.W.Frag) {X : Cx} (hc : X.calm = true) (h : X.K = K := by rfl) : CallR X (.builtin "sum") (rSum K) := by
  subst h
  exact cr_sum hc
theorem inS (K : PySem.W.Frag) {X : Cx} (h : X.K = K := by rfl) : OpR X (compareOp .In) (rIn K false) := by
  subst h
  exact op_in_seq
theorem ninS (K : PySem.W.Frag) {X : Cx} (h : X.K = K := by rfl) : OpR X (compareOp .NotIn) (rIn K true) := by
  subst h
  exact op_notIn_seq
theorem eqD (K : PySem.W.Frag) {X : Cx} (hu : X.A.units + 64 < cLine) (h : X.K = K := by rfl) : OpR X (compareOp .Eq) (rEqD K) := by
  subst h
  exact op_eqD hu
theorem neD (K : PySem.W.Frag) {X : Cx} (hu : X.A.units + 64 < cLine) (h : X.K = K := by rfl) : OpR X (compareOp .NotEq) (rNeD K) := by
  subst h
  exact op_neD hu
theorem cntL (K : PySem.W.Frag) {X : Cx} (h : X.K = K := by rfl) : MtR X "list.count" (rCntI K) := by
  subst h
  exact mt_lcount
def rListOf (K : PySem.W.Frag) : List V → Hp → VK → Prop := fun xs H Q => ∃ p ys, xs = [.ref p] ∧ (SqL K H p ys ∨ SqT K H p ys) ∧ ∀ l, H l = none → Q (.ref l) (upd H l (.lst ys))
theorem listOf (K : PySem.W.Frag) {X : Cx} (h : X.K = K := by rfl) : CallR X (.type "list") (rListOf K) := by
  subst h
  exact call_list_of
theorem isiO (K : PySem.W.Frag) {X : Cx} (h : X.K = K := by rfl) : CallR X (.builtin "isinstance") (rIsi K) := by
  subst h
  exact call_isi
theorem catT (K : PySem.W.Frag) {X : Cx} (h : X.K = K := by rfl) : OpR X (binaryOp .Add) (rCatT K) := by
  subst h
  exact op_catT
theorem bmC (K : PySem.W.Frag) {X : Cx} {e : Expr} {T : String} {to : TE} {t : TA} {r : V → List V → Hp → VK → Prop}
    (p : PE X e (tBM X.K T r to t)) (h : X.K = K := by rfl) : PE X e (tBM K T r to t) := by
  subst h
  exact p
theorem bm0C (K : PySem.W.Frag) {X : Cx} {e : Expr} {T : String} {to : TE} {r : V → List V → Hp → VK → Prop}
    (p : PE X e (tBM0 X.K T r to)) (h : X.K = K := by rfl) : PE X e (tBM0 K T r to) := by
  subst h
  exact p
theorem fldC (K : PySem.W.Frag) {X : Cx} {e : Expr} {f : Str} {ta : TE}
    (p : PE X e (tFld X.K ta f)) (h : X.K = K := by rfl) : PE X e (tFld K ta f) := by
  subst h
  exact p
end
theorem yesT {σ : L2.St} {H : Hp} {A B : Hp → Prop} (h : A H) : tYes σ H (fun b H3 => if b = true then A H3 else B H3) := by
  show if true = true then A H else B H
  rw [if_pos rfl]
  exact h
/-- a tuple stays where something that is no tuple is written -/
theorem tup_upd {K : PySem.W.Frag} {H : Hp} {a D : Addr} {o u : HO} {xs : List V} (hD : H D = some u) (h1 : ∀ ys, u ≠ .tup ys) (h2 : ∀ o ys, u ≠ .frz o (.tup ys)) (h : SqT K H a xs) : SqT K (upd H D o) a xs := by
  rcases h with (h | ⟨ob, h⟩) | h
  · exact .inl (.inl (by rw [upd_ne (fun z => by rw [z, hD] at h; exact h1 _ (Option.some.inj h))]; exact h))
  · exact .inl (.inr ⟨ob, by rw [upd_ne (fun z => by rw [z, hD] at h; exact h2 _ _ (Option.some.inj h))]; exact h⟩)
  · exact .inr h
/-! slices by places -/
theorem cut_ij (xs : List V) (i j : Nat) : cutV xs (some (i : Int)) (some (j : Int)) = (xs.drop i).take (j - i) := by
  unfold cutV
  rw [HT.sIx_nat, HT.sIx_nat]
  by_cases h : i ≤ xs.length
  · rw [Nat.min_eq_left h]
    by_cases g : j ≤ xs.length
    · rw [Nat.min_eq_left g]
    · rw [Nat.min_eq_right (by omega), List.take_of_length_le (by rw [List.length_drop]; exact Nat.le_refl _), List.take_of_length_le (by rw [List.length_drop]; omega)]
  · rw [List.drop_of_length_le (by omega), List.drop_of_length_le (by omega), List.take_nil, List.take_nil]
theorem cut_j (xs : List V) (j : Nat) : cutV xs none (some (j : Int)) = xs.take j := by
  unfold cutV
  rw [HT.sIx_nat, HT.sIx_none, List.drop_zero, Nat.sub_zero]
  by_cases g : j ≤ xs.length
  · rw [Nat.min_eq_left g]
  · rw [Nat.min_eq_right (by omega), List.take_of_length_le (Nat.le_refl _), List.take_of_length_le (by omega)]
theorem cut_i (xs : List V) (i : Nat) : cutV xs (some (i : Int)) none = xs.drop i := by
  unfold cutV
  rw [HT.sIx_nat, HT.sIx_none]
  by_cases h : i ≤ xs.length
  · rw [Nat.min_eq_left h, List.take_of_length_le (by rw [List.length_drop]; exact Nat.le_refl _)]
  · rw [List.drop_of_length_le (by omega), List.drop_of_length_le (by omega), List.take_nil]
/-- for i, x in enumerate(a list that the body leaves as it is) -/
theorem for_enum {K : PySem.W.Frag} {a : Addr} {xs : List V} {g : TG} {tb : TS} {D : Ends} {σ : L2.St} {H : Hp} (Pv : Nat → L2.St → Hp → Prop)
    (h0 : Pv 0 σ H) (hl : ∀ i σ H, i ≤ xs.length → Pv i σ H → SqL K H a xs)
    (hs : ∀ i x σ H T, xs[i]? = some x → Pv i σ H → H T = none → g (.ref T) σ (upd H T (.tup [.int (i : Nat), x])) fun σ2 H2 =>
      tb { D with nx := Pv (i + 1), ct := Pv (i + 1), bk := D.nx } σ2 H2)
    (hd : ∀ σ H, Pv xs.length σ H → D.nx σ H) :
    ∃ W : Nat → Nat → L2.St → Hp → Prop, (∃ m, W 0 m σ H) ∧ ∀ i m σ H, W i m σ H → ((Ite K a).stop i H ∧ D.nx σ H) ∨
      ((Ite K a).go i H ∧ ∃ N : L2.St → Hp → Prop, (∀ σ' H', N σ' H' → ∃ m', m' < m ∧ W (i + 1) m' σ' H') ∧
        ∀ x H', (Ite K a).yld i H x H' → g x σ H' fun σ2 H2 => tb { D with nx := N, ct := N, bk := D.nx } σ2 H2) := by
  refine ⟨fun i m σ H => m + i = xs.length ∧ Pv i σ H, ⟨_, Nat.add_zero _, h0⟩, fun i m σ H hw => ?_⟩
  obtain ⟨hm, p⟩ := hw
  have here := hl i σ H (by omega) p
  rcases Nat.lt_or_ge i xs.length with lt | ge
  · refine .inr ⟨⟨xs, xs[i], here, List.getElem?_eq_getElem lt⟩, Pv (i + 1), fun σ' H' p' => ⟨m - 1, by omega, by omega, p'⟩, ?_⟩
    rintro v H' ⟨T, x, rfl, hT, rfl, hx⟩
    exact hs i x σ H T (hx xs here) p hT
  · have e : i = xs.length := by omega
    rw [e] at p
    exact .inl ⟨⟨xs, here, ge⟩, hd σ H p⟩
end Own

set_option Elab.async false
set_option linter.all false
namespace K08
/-! the mathematics: ends, the count, goodness -/
abbrev Row := List Int
def ends (ts : List Row) (sd : Nat) : List Int := ts.map (·.getD sd 0)
def most (es : List Int) : Nat := (es.map es.count).foldl max 0
theorem foldl_max_ge (l : List Nat) : ∀ a, a ≤ l.foldl max a := by
  induction l with
  | nil => intro a; exact Nat.le_refl _
  | cons x r ih => intro a; exact Nat.le_trans (Nat.le_max_left a x) (ih (max a x))
theorem foldl_max_mem (l : List Nat) : ∀ a x, x ∈ l → x ≤ l.foldl max a := by
  induction l with
  | nil => intro a x h; cases h
  | cons y r ih =>
    intro a x h
    rcases List.mem_cons.mp h with e | h
    · subst e
      exact Nat.le_trans (Nat.le_max_right a x) (foldl_max_ge r _)
    · exact ih _ x h
theorem foldl_max_in (l : List Nat) : ∀ a, l.foldl max a = a ∨ l.foldl max a ∈ l := by
  induction l with
  | nil => intro a; exact .inl rfl
  | cons y r ih =>
    intro a
    rcases ih (max a y) with e | e
    · rcases Nat.le_total a y with h | h
      · right
        show r.foldl max (max a y) ∈ y :: r
        rw [e, Nat.max_eq_right h]
        exact List.mem_cons_self
      · left
        show r.foldl max (max a y) = a
        rw [e, Nat.max_eq_left h]
    · exact .inr (List.mem_cons_of_mem _ e)
theorem most_ge {es : List Int} {e : Int} (h : e ∈ es) : es.count e ≤ most es := foldl_max_mem _ _ _ (List.mem_map.mpr ⟨e, h, rfl⟩)
theorem most_in (es : List Int) : most es = 0 ∨ ∃ e ∈ es, most es = es.count e := by
  rcases foldl_max_in (es.map es.count) 0 with h | h
  · exact .inl h
  · obtain ⟨e, he, q⟩ := List.mem_map.mp h
    exact .inr ⟨e, he, q.symm⟩
/-- a number that is the count of some end, and no end's is greater -/
theorem most_is {es : List Int} {m : Int} (h0 : es = [] → m = 0) (h1 : es ≠ [] → (∃ e ∈ es, m = (es.count e : Nat)) ∧ ∀ e ∈ es, ((es.count e : Nat) : Int) ≤ m) : m = (most es : Nat) := by
  by_cases e : es = []
  · rw [h0 e, e]
    rfl
  · obtain ⟨⟨x, hx, rfl⟩, hg⟩ := h1 e
    have a := most_ge hx
    rcases most_in es with z | ⟨y, hy, q⟩
    · omega
    · have := hg y hy
      omega
def count (ts : List Row) : Nat := max (most (ends ts 0)) (most (ends ts 1))
def keys (ts : List Row) (sd : Nat) : List Row := ts.map fun r => [r.getD sd 0, r.getD 2 0]
def good (ts : List Row) : Bool := (ts.all fun r => decide (r.getD 2 0 < (count ts : Nat))) && decide (keys ts 0).Nodup && decide (keys ts 1).Nodup
def meets (a b : Row) : Bool := decide (a.getD 2 0 = b.getD 2 0) && (decide (a.getD 0 0 = b.getD 0 0) || decide (a.getD 1 0 = b.getD 1 0))
/-- the law's own look: no later row meets an earlier one with the same hue -/
def apart (ts : List Row) : Bool := (List.range ts.length).all fun k => (ts.take k).all fun o => !meets o (ts.getD k [])
def due (ts : List Row) : Bool := apart ts && ts.all fun r => decide (r.getD 2 0 < (count ts : Nat))
theorem nodup_keys {ts : List Row} {sd : Nat} : (keys ts sd).Nodup ↔ ∀ (k : Nat) (a : Row), ts[k]? = some a → ∀ o ∈ ts.take k, ¬ (o.getD 2 0 = a.getD 2 0 ∧ o.getD sd 0 = a.getD sd 0) := by
  unfold keys
  rw [List.nodup_iff_pairwise_ne, List.pairwise_map, List.pairwise_iff_getElem]
  constructor
  · intro h k a hk o ho ⟨e1, e2⟩
    obtain ⟨i, hi, e⟩ := List.getElem_of_mem ho
    obtain ⟨hk', ek⟩ := List.getElem?_eq_some_iff.mp hk
    rw [List.length_take] at hi
    rw [List.getElem_take] at e
    refine h i k (by omega) hk' (by omega) ?_
    rw [e, ek, e1, e2]
  · intro h i j hi hj hij e
    have e1 := (List.cons.inj e).1
    have e2 := (List.cons.inj (List.cons.inj e).2).1
    exact h j ts[j] (List.getElem?_eq_getElem hj) ts[i] (List.mem_take_iff_getElem.mpr ⟨i, by omega, rfl⟩) ⟨e2, e1⟩
theorem good_due (ts : List Row) : good ts = due ts := by
  have key : (decide (keys ts 0).Nodup && decide (keys ts 1).Nodup) = apart ts := by
    rw [Bool.eq_iff_iff, Bool.and_eq_true, decide_eq_true_eq, decide_eq_true_eq, nodup_keys, nodup_keys]
    unfold apart
    rw [List.all_eq_true]
    constructor
    · rintro ⟨h0, h1⟩ k hk
      have hk' := List.mem_range.mp hk
      rw [List.all_eq_true]
      intro o ho
      have ek : ts[k]? = some ts[k] := List.getElem?_eq_getElem hk'
      have g : ts.getD k [] = ts[k] := by rw [List.getD_eq_getElem?_getD, ek]; rfl
      have a := h0 k _ ek o ho
      have b := h1 k _ ek o ho
      rw [g]
      unfold meets
      simp only [Bool.not_eq_true', Bool.and_eq_false_iff, decide_eq_false_iff_not, Bool.or_eq_false_iff]
      by_cases c : o.getD 2 0 = ts[k].getD 2 0
      · exact .inr ⟨fun z => a ⟨c, z⟩, fun z => b ⟨c, z⟩⟩
      · exact .inl c
    · intro h
      have one : ∀ (k : Nat) (a : Row), ts[k]? = some a → ∀ o ∈ ts.take k, meets o a = false := by
        intro k a hk o ho
        obtain ⟨hk', ek⟩ := List.getElem?_eq_some_iff.mp hk
        have q := List.all_eq_true.mp (h k (List.mem_range.mpr hk')) o ho
        have g : ts.getD k [] = a := by rw [List.getD_eq_getElem?_getD, hk]; rfl
        rw [g] at q
        simpa using q
      refine ⟨fun k a hk o ho ⟨e1, e2⟩ => ?_, fun k a hk o ho ⟨e1, e2⟩ => ?_⟩
      · have q := one k a hk o ho
        unfold meets at q
        rw [decide_eq_true e1, decide_eq_true e2] at q
        cases q
      · have q := one k a hk o ho
        unfold meets at q
        rw [decide_eq_true e1, decide_eq_true e2, Bool.or_true] at q
        cases q
  unfold good due
  rw [Bool.and_assoc, key, Bool.and_comm]
end K08

set_option Elab.async false
set_option linter.all false
namespace Mt
/-! pairs, chains, turning: the mathematics -/
structure Pr where
  n : Nat
  l : Nat
  r : Nat
  h : Nat
deriving DecidableEq
def Pr.e (p : Pr) (s : Nat) : Nat := if s = 0 then p.l else p.r
def Proper (R : List Pr) : Prop := ∀ p ∈ R, ∀ q ∈ R, ∀ s, s < 2 → p.e s = q.e s → p.h = q.h → p = q
/-- which pair has the hue at the end: the last one -/
def at_ (R : List Pr) (s e h : Nat) : Option Pr := R.reverse.find? fun p => decide (p.e s = e) && decide (p.h = h)
theorem at_nil (s e h : Nat) : at_ [] s e h = none := rfl
theorem at_snoc (R : List Pr) (p : Pr) (s e h : Nat) : at_ (R ++ [p]) s e h = if p.e s = e ∧ p.h = h then some p else at_ R s e h := by
  unfold at_
  rw [List.reverse_append]
  simp only [List.reverse_cons, List.reverse_nil, List.nil_append, List.cons_append, List.find?_cons]
  by_cases c : p.e s = e ∧ p.h = h
  · rw [if_pos c, c.1, c.2]
    simp
  · rw [if_neg c]
    have : (decide (p.e s = e) && decide (p.h = h)) = false := by
      rw [Bool.and_eq_false_iff, decide_eq_false_iff_not, decide_eq_false_iff_not]
      by_cases d : p.e s = e
      · exact .inr fun z => c ⟨d, z⟩
      · exact .inl d
    rw [this]
theorem at_some {R : List Pr} {s e h : Nat} {p : Pr} (a : at_ R s e h = some p) : p ∈ R ∧ p.e s = e ∧ p.h = h := by
  have h1 := List.mem_of_find?_eq_some a
  have h2 := List.find?_some a
  simp only [Bool.and_eq_true, decide_eq_true_eq] at h2
  exact ⟨List.mem_reverse.mp h1, h2⟩
theorem at_none {R : List Pr} {s e h : Nat} (a : at_ R s e h = none) : ∀ p ∈ R, p.e s = e → p.h ≠ h := by
  intro p hp e1 e2
  have := List.find?_eq_none.mp a p (List.mem_reverse.mpr hp)
  simp [e1, e2] at this
theorem at_is {R : List Pr} (P : Proper R) {s e h : Nat} (hs : s < 2) {p : Pr} (hp : p ∈ R) (e1 : p.e s = e) (e2 : p.h = h) : at_ R s e h = some p := by
  cases a : at_ R s e h with
  | none => exact absurd e2 (at_none a p hp e1)
  | some q =>
    obtain ⟨hq, f1, f2⟩ := at_some a
    rw [P q hq p hp s hs (f1.trans e1.symm) (f2.trans e2.symm)]
theorem at_no {R : List Pr} {s e h : Nat} (a : ∀ p ∈ R, p.e s = e → p.h ≠ h) : at_ R s e h = none := by
  cases c : at_ R s e h with
  | none => rfl
  | some q =>
    obtain ⟨hq, f1, f2⟩ := at_some c
    exact absurd f2 (a q hq f1)
/-! ### chains -/
def chainF (R : List Pr) : Nat → Nat → Nat → Nat → Nat → List Pr
  | 0, _, _, _, _ => []
  | k + 1, s, e, h, g => match at_ R s e h with
    | none => []
    | some p => p :: chainF R k (1 - s) (p.e (1 - s)) g h
def chain (R : List Pr) (s e one other : Nat) : List Pr := chainF R (R.length + 1) s e other one
theorem Proper.sub {R R' : List Pr} (P : Proper R) (h : ∀ p ∈ R', p ∈ R) : Proper R' := fun p hp q hq => P p (h p hp) q (h q hq)
theorem chainF_mem {R : List Pr} : ∀ {k s e h g : Nat} {q : Pr}, q ∈ chainF R k s e h g → q ∈ R ∧ (q.h = h ∨ q.h = g)
  | 0, _, _, _, _, _, hq => by simp [chainF] at hq
  | k + 1, s, e, h, g, q, hq => by
    unfold chainF at hq
    split at hq
    · simp at hq
    · rename_i p hp
      rcases List.mem_cons.mp hq with z | z
      · rw [z]
        obtain ⟨h1, _, h3⟩ := at_some hp
        exact ⟨h1, .inl h3⟩
      · obtain ⟨h1, h2⟩ := chainF_mem z
        exact ⟨h1, h2.symm⟩
/-- without a pair that it never meets a chain is as it is -/
theorem chainF_skip {R : List Pr} (P : Proper R) {p : Pr} (hp : p ∈ R) {s e h g : Nat} (hs : s < 2) (hg : h ≠ g) (e1 : p.e s = e) (e2 : p.h = h) (fr : ∀ q ∈ R, q.e s = e → q.h ≠ g) :
    ∀ (k s' e' h' g' : Nat), (h' = h ∧ g' = g ∧ s' = s ∧ e' ≠ e) ∨ (h' = g ∧ g' = h ∧ s' = 1 - s) → chainF R k s' e' h' g' = chainF (R.filter (fun q => decide (q ≠ p))) k s' e' h' g' := by
  have P' : Proper (R.filter (fun q => decide (q ≠ p))) := P.sub fun q hq => (List.mem_filter.mp hq).1
  have same : ∀ s' e' h', s' < 2 → (p.e s' = e' → p.h ≠ h') → at_ (R.filter (fun q => decide (q ≠ p))) s' e' h' = at_ R s' e' h' := by
    intro s' e' h' hs' hn
    cases a : at_ R s' e' h' with
    | none => exact at_no fun q hq => at_none a q (List.mem_filter.mp hq).1
    | some q =>
      obtain ⟨h1, h2, h3⟩ := at_some a
      refine at_is P' hs' (List.mem_filter.mpr ⟨h1, decide_eq_true fun z => ?_⟩) h2 h3
      rw [z] at h2 h3
      exact hn h2 h3
  intro k
  induction k with
  | zero => intros; rfl
  | succ k ih =>
    intro s' e' h' g' hc
    have hs' : s' < 2 := by omega
    have hn : p.e s' = e' → p.h ≠ h' := by
      intro z1 z2
      rcases hc with ⟨c1, c2, c3, c4⟩ | ⟨c1, c2, c3⟩
      · rw [c3, e1] at z1
        exact c4 z1.symm
      · omega
    unfold chainF
    rw [same s' e' h' hs' hn]
    cases a : at_ R s' e' h' with
    | none => rfl
    | some q =>
      obtain ⟨h1, h2, h3⟩ := at_some a
      show q :: _ = q :: _
      congr 1
      refine ih _ _ _ _ ?_
      rcases hc with ⟨c1, c2, c3, c4⟩ | ⟨c1, c2, c3⟩
      · exact .inr ⟨c2, c1, by rw [c3]⟩
      · have cs : 1 - s' = s := by omega
        refine .inl ⟨c2, c1, cs, ?_⟩
        rw [cs]
        exact fun z => fr q h1 z (h3.trans c1)
theorem chainF_nodup : ∀ (k : Nat) {R : List Pr} (_ : Proper R) {s e h g : Nat} (_ : s < 2) (_ : h ≠ g) (_ : ∀ q ∈ R, q.e s = e → q.h ≠ g), (chainF R k s e h g).Nodup
  | 0, _, _, _, _, _, _, _, _, _ => by simp [chainF]
  | k + 1, R, P, s, e, h, g, hs, hg, fr => by
    unfold chainF
    split
    · exact List.nodup_nil
    · rename_i p hp
      obtain ⟨h1, h2, h3⟩ := at_some hp
      rw [chainF_skip P h1 hs hg h2 h3 fr k (1 - s) (p.e (1 - s)) g h (.inr ⟨rfl, rfl, rfl⟩)]
      refine List.nodup_cons.mpr ⟨fun m => ?_, ?_⟩
      · have := (List.mem_filter.mp (chainF_mem m).1).2
        simp at this
      · refine chainF_nodup k (P.sub fun q hq => (List.mem_filter.mp hq).1) (by omega) (Ne.symm hg) fun q hq e1 e2 => ?_
        obtain ⟨g1, g2⟩ := List.mem_filter.mp hq
        have := P q g1 p h1 (1 - s) (by omega) e1 (e2.trans h3.symm)
        simp [this] at g2
theorem nodup_len {α : Type} [DecidableEq α] : ∀ {l m : List α}, l.Nodup → (∀ x ∈ l, x ∈ m) → l.length ≤ m.length
  | [], _, _, _ => Nat.zero_le _
  | x :: l, m, h, s => by
    obtain ⟨h1, h2⟩ := List.nodup_cons.mp h
    have hx := s x List.mem_cons_self
    have ih := nodup_len (m := m.erase x) h2 fun y hy => by
      have := s y (List.mem_cons_of_mem _ hy)
      exact (List.mem_erase_of_ne fun z => h1 (by rw [← z]; exact hy)).mpr this
    rw [List.length_erase_of_mem hx] at ih
    have := List.length_pos_of_mem hx
    rw [List.length_cons]
    omega
theorem chainF_more {R : List Pr} : ∀ {k s e h g : Nat}, (chainF R k s e h g).length < k → chainF R (k + 1) s e h g = chainF R k s e h g
  | 0, _, _, _, _, h => by simp at h
  | k + 1, s, e, h, g, hl => by
    unfold chainF at hl
    rw [chainF]
    conv => rhs; rw [chainF]
    cases a : at_ R s e h with
    | none => rfl
    | some p =>
      rw [a] at hl
      show p :: _ = p :: _
      congr 1
      refine chainF_more ?_
      simp only [List.length_cons] at hl
      omega
theorem chainF_le {R : List Pr} {k s e h g : Nat} (P : Proper R) (hs : s < 2) (hg : h ≠ g) (fr : ∀ q ∈ R, q.e s = e → q.h ≠ g) : (chainF R k s e h g).length ≤ R.length :=
  nodup_len (chainF_nodup k P hs hg fr) fun _ hq => (chainF_mem hq).1
theorem chainF_enough {R : List Pr} {s e h g : Nat} (P : Proper R) (hs : s < 2) (hg : h ≠ g) (fr : ∀ q ∈ R, q.e s = e → q.h ≠ g) (k : Nat) :
    chainF R (R.length + 1 + k) s e h g = chainF R (R.length + 1) s e h g := by
  induction k with
  | zero => rfl
  | succ k ih =>
    rw [← ih]
    refine chainF_more (k := R.length + 1 + k) ?_
    have := chainF_le (k := R.length + 1 + k) P hs hg fr
    omega
/-- how a pair of the chain is come to -/
theorem chainF_entry {R : List Pr} : ∀ {k s e h g : Nat} {q : Pr}, s < 2 → q ∈ chainF R k s e h g →
    (q.h = h ∧ (q.e s = e ∨ ∃ p ∈ chainF R k s e h g, p.h = g ∧ p.e s = q.e s)) ∨ (q.h = g ∧ ∃ p ∈ chainF R k s e h g, p.h = h ∧ p.e (1 - s) = q.e (1 - s))
  | 0, _, _, _, _, _, _, hq => by simp [chainF] at hq
  | k + 1, s, e, h, g, q, hs, hq => by
    rw [chainF] at hq ⊢
    cases a : at_ R s e h with
    | none =>
      rw [a] at hq
      simp at hq
    | some p =>
      rw [a] at hq
      simp only at hq ⊢
      obtain ⟨h1, h2, h3⟩ := at_some a
      have ss : 1 - (1 - s) = s := by omega
      rcases List.mem_cons.mp hq with z | z
      · rw [z]
        exact .inl ⟨h3, .inl h2⟩
      · rcases chainF_entry (by omega) z with ⟨c1, c2⟩ | ⟨c1, p', c2, c3, c4⟩
        · refine .inr ⟨c1, ?_⟩
          rcases c2 with c2 | ⟨p', c2, c3, c4⟩
          · exact ⟨p, List.mem_cons_self, h3, c2.symm⟩
          · exact ⟨p', List.mem_cons_of_mem _ c2, c3, c4⟩
        · rw [ss] at c4
          exact .inl ⟨c1, .inr ⟨p', List.mem_cons_of_mem _ c2, c3, c4⟩⟩
/-- where a pair of the chain leads on to -/
theorem chainF_exit {R : List Pr} : ∀ {k s e h g : Nat} {q q' : Pr}, s < 2 → chainF R (k + 1) s e h g = chainF R k s e h g → q ∈ chainF R k s e h g →
    (q.h = h → at_ R (1 - s) (q.e (1 - s)) g = some q' → h ≠ g → q' ∈ chainF R k s e h g) ∧ (q.h = g → at_ R s (q.e s) h = some q' → h ≠ g → q' ∈ chainF R k s e h g)
  | 0, _, _, _, _, _, _, _, _, hq => by simp [chainF] at hq
  | k + 1, s, e, h, g, q, q', hs, he, hq => by
    rw [chainF] at hq he ⊢
    conv at he => rhs; rw [chainF]
    cases a : at_ R s e h with
    | none =>
      rw [a] at hq
      simp at hq
    | some p =>
      rw [a] at hq he
      simp only at hq he ⊢
      have he' := (List.cons.inj he).2
      obtain ⟨h1, h2, h3⟩ := at_some a
      have ss : 1 - (1 - s) = s := by omega
      rcases List.mem_cons.mp hq with z | z
      · rw [z]
        refine ⟨fun _ b _ => List.mem_cons_of_mem _ ?_, fun c _ n => absurd (h3.symm.trans c) n⟩
        rw [← he', chainF, b]
        exact List.mem_cons_self
      · obtain ⟨i1, i2⟩ := chainF_exit (q' := q') (by omega : 1 - s < 2) he' z
        rw [ss] at i1
        exact ⟨fun c b n => List.mem_cons_of_mem _ (i2 c b n.symm), fun c b n => List.mem_cons_of_mem _ (i1 c b n.symm)⟩
end Mt

set_option Elab.async false
set_option linter.all false
namespace Mt
/-! ### turning a chain -/
def Pr.put (p : Pr) (h : Nat) : Pr := ⟨p.n, p.l, p.r, h⟩
def Pr.flip (p : Pr) (one other : Nat) : Pr := p.put (if p.h = one then other else one)
theorem flip_e (p : Pr) (a b s : Nat) : (p.flip a b).e s = p.e s := rfl
theorem flip_n (p : Pr) (a b : Nat) : (p.flip a b).n = p.n := rfl
/-- the pairs of the numbers ns have their hues exchanged -/
def turn (R : List Pr) (ns : List Nat) (one other : Nat) : List Pr := R.map fun p => if p.n ∈ ns then p.flip one other else p
theorem turn_mem {R : List Pr} {ns : List Nat} {a b : Nat} {q : Pr} (h : q ∈ turn R ns a b) : ∃ p ∈ R, q = if p.n ∈ ns then p.flip a b else p := by
  obtain ⟨p, hp, e⟩ := List.mem_map.mp h
  exact ⟨p, hp, e.symm⟩
theorem turn_n (R : List Pr) (ns : List Nat) (a b : Nat) : (turn R ns a b).map (·.n) = R.map (·.n) := by
  unfold turn
  rw [List.map_map]
  refine List.map_congr_left fun p _ => ?_
  show (if p.n ∈ ns then p.flip a b else p).n = p.n
  split <;> rfl
theorem turn_e (R : List Pr) (ns : List Nat) (a b s : Nat) : (turn R ns a b).map (·.e s) = R.map (·.e s) := by
  unfold turn
  rw [List.map_map]
  refine List.map_congr_left fun p _ => ?_
  show (if p.n ∈ ns then p.flip a b else p).e s = p.e s
  split <;> rfl
theorem n_inj {R : List Pr} (N : (R.map (·.n)).Nodup) {p q : Pr} (hp : p ∈ R) (hq : q ∈ R) (e : p.n = q.n) : p = q := by
  induction R with
  | nil => cases hp
  | cons a r ih =>
    have N' : (a.n :: r.map (·.n)).Nodup := N
    obtain ⟨h1, h2⟩ := List.nodup_cons.mp N'
    rcases List.mem_cons.mp hp with z | z
    · rcases List.mem_cons.mp hq with y | y
      · rw [z, y]
      · exact absurd (List.mem_map.mpr ⟨q, y, by rw [← e, z]⟩) h1
    · rcases List.mem_cons.mp hq with y | y
      · exact absurd (List.mem_map.mpr ⟨p, z, by rw [e, y]⟩) h1
      · exact ih h2 z y
/-- the chain from an end where one is free, beginning with other: where it is turned, and a pair comes to that end and to an end at the far side where other is free, no two that meet have one hue -/
theorem turn_proper {R : List Pr} (P : Proper R) (N : (R.map (·.n)).Nodup) {s e e2 one other : Nat} {x : Pr} (hs : s < 2) (ho : other ≠ one)
    (fr : at_ R s e one = none) (fr2 : at_ R (1 - s) e2 other = none) (x1 : x.e s = e) (x2 : x.e (1 - s) = e2) (xh : x.h = other) :
    Proper (turn R ((chain R s e one other).map (·.n)) other one ++ [x]) := by
  have fr' := at_none fr
  have fr2' := at_none fr2
  have ss : 1 - (1 - s) = s := by omega
  have en : chainF R (R.length + 1 + 1) s e other one = chainF R (R.length + 1) s e other one := chainF_enough P hs ho fr' 1
  have inC : ∀ p ∈ R, (p.n ∈ (chain R s e one other).map (·.n)) ↔ p ∈ chain R s e one other := by
    intro p hp
    constructor
    · intro h
      obtain ⟨q, hq, e⟩ := List.mem_map.mp h
      rw [← n_inj N (chainF_mem hq).1 hp e]
      exact hq
    · exact fun h => List.mem_map.mpr ⟨p, h, rfl⟩
  generalize hC : chain R s e one other = C at *
  have memC : ∀ q ∈ C, q ∈ R ∧ (q.h = other ∨ q.h = one) := fun q hq => by
    rw [← hC] at hq
    exact chainF_mem hq
  have start : ∀ q ∈ R, q.e s = e → q.h = other → q ∈ C := fun q hq e1 e2 => by
    rw [← hC]
    unfold chain chainF
    rw [at_is P hs hq e1 e2]
    exact List.mem_cons_self
  have entry : ∀ q ∈ C, (q.h = other ∧ (q.e s = e ∨ ∃ p ∈ C, p.h = one ∧ p.e s = q.e s)) ∨ (q.h = one ∧ ∃ p ∈ C, p.h = other ∧ p.e (1 - s) = q.e (1 - s)) := fun q hq => by
    rw [← hC] at hq ⊢
    exact chainF_entry hs hq
  have exit : ∀ q ∈ C, ∀ q', (q.h = other → at_ R (1 - s) (q.e (1 - s)) one = some q' → q' ∈ C) ∧ (q.h = one → at_ R s (q.e s) other = some q' → q' ∈ C) := fun q hq q' => by
    rw [← hC] at hq ⊢
    obtain ⟨a, b⟩ := chainF_exit (q' := q') hs en hq
    exact ⟨fun c d => a c d ho, fun c d => b c d ho⟩
  -- a pair that meets one of the chain, with the other of the two hues, is of the chain
  have closed : ∀ p ∈ C, ∀ q ∈ R, ∀ t, t < 2 → p.e t = q.e t → (p.h = other → q.h = one → q ∈ C) ∧ (p.h = one → q.h = other → q ∈ C) := by
    intro p hp q hq t ht et
    have pR := (memC p hp).1
    refine ⟨fun c d => ?_, fun c d => ?_⟩
    · by_cases hts : t = s
      · rw [hts] at et
        rcases entry p hp with ⟨_, z | ⟨p', z1, z2, z3⟩⟩ | ⟨z, _⟩
        · exact absurd d (fr' q hq (et.symm.trans z))
        · rw [P q hq p' (memC p' z1).1 s hs (et.symm.trans z3.symm) (d.trans z2.symm)]
          exact z1
        · omega
      · have t1 : t = 1 - s := by omega
        rw [t1] at et
        exact (exit p hp q).1 c (at_is P (by omega) hq et.symm d)
    · by_cases hts : t = s
      · rw [hts] at et
        exact (exit p hp q).2 c (at_is P hs hq et.symm d)
      · have t1 : t = 1 - s := by omega
        rw [t1] at et
        rcases entry p hp with ⟨z, _⟩ | ⟨_, p', z1, z2, z3⟩
        · omega
        · rw [P q hq p' (memC p' z1).1 (1 - s) (by omega) (et.symm.trans z3.symm) (d.trans z2.symm)]
          exact z1
  have fh : ∀ p ∈ C, (p.h = other ∧ (p.flip other one).h = one) ∨ (p.h = one ∧ (p.flip other one).h = other) := by
    intro p hp
    show (p.h = other ∧ (if p.h = other then one else other) = one) ∨ (p.h = one ∧ (if p.h = other then one else other) = other)
    rcases (memC p hp).2 with z | z
    · exact .inl ⟨z, if_pos z⟩
    · exact .inr ⟨z, if_neg (by omega)⟩
  have new : ∀ q' ∈ turn R (C.map (·.n)) other one, ∀ t, t < 2 → x.e t = q'.e t → x.h ≠ q'.h := by
    intro q' hq' t ht et hh
    obtain ⟨q, hq, e'⟩ := turn_mem hq'
    rw [xh] at hh
    by_cases c : q.n ∈ C.map (·.n)
    · have qC := (inC q hq).mp c
      rw [if_pos c] at e'
      rw [e'] at et hh
      rw [flip_e] at et
      have q1 : q.h = one := by
        rcases fh q qC with ⟨_, z⟩ | ⟨z, _⟩
        · omega
        · exact z
      by_cases hts : t = s
      · rw [hts, x1] at et
        exact fr' q hq et.symm q1
      · have t1 : t = 1 - s := by omega
        rw [t1, x2] at et
        rcases entry q qC with ⟨z, _⟩ | ⟨_, p', z1, z2, z3⟩
        · omega
        · exact fr2' p' (memC p' z1).1 (z3.trans et.symm) z2
    · rw [if_neg c] at e'
      rw [e'] at et hh
      by_cases hts : t = s
      · rw [hts, x1] at et
        exact c ((inC q hq).mpr (start q hq et.symm hh.symm))
      · have t1 : t = 1 - s := by omega
        rw [t1, x2] at et
        exact fr2' q hq et.symm hh.symm
  have old : Proper (turn R (C.map (·.n)) other one) := by
    intro p' hp' q' hq' t ht et hh
    obtain ⟨p, hp, e1⟩ := turn_mem hp'
    obtain ⟨q, hq, e2⟩ := turn_mem hq'
    by_cases cp : p.n ∈ C.map (·.n)
    · have pC := (inC p hp).mp cp
      rw [if_pos cp] at e1
      by_cases cq : q.n ∈ C.map (·.n)
      · have qC := (inC q hq).mp cq
        rw [if_pos cq] at e2
        have : p.h = q.h := by
          rw [e1, e2] at hh
          rcases fh p pC with ⟨a, b⟩ | ⟨a, b⟩ <;> rcases fh q qC with ⟨c, d⟩ | ⟨c, d⟩ <;> omega
        rw [e1, e2] at et ⊢
        rw [P p hp q hq t ht et this]
      · rw [if_neg cq] at e2
        rw [e1, e2] at et hh
        rw [flip_e] at et
        refine absurd ((inC q hq).mpr ?_) cq
        obtain ⟨k1, k2⟩ := closed p pC q hq t ht et
        rcases fh p pC with ⟨a, b⟩ | ⟨a, b⟩
        · exact k1 a (by omega)
        · exact k2 a (by omega)
    · rw [if_neg cp] at e1
      by_cases cq : q.n ∈ C.map (·.n)
      · have qC := (inC q hq).mp cq
        rw [if_pos cq] at e2
        rw [e1, e2] at et hh
        rw [flip_e] at et
        refine absurd ((inC p hp).mpr ?_) cp
        obtain ⟨k1, k2⟩ := closed q qC p hp t ht et.symm
        rcases fh q qC with ⟨a, b⟩ | ⟨a, b⟩
        · exact k1 a (by omega)
        · exact k2 a (by omega)
      · rw [if_neg cq] at e2
        rw [e1, e2] at et hh ⊢
        exact P p hp q hq t ht et hh
  intro p hp q hq t ht et hh
  rcases List.mem_append.mp hp with a | a
  · rcases List.mem_append.mp hq with b | b
    · exact old p a q b t ht et hh
    · rw [List.mem_singleton.mp b] at et hh
      exact absurd hh.symm (new p a t ht et.symm)
  · rcases List.mem_append.mp hq with b | b
    · rw [List.mem_singleton.mp a] at et hh
      exact absurd hh (new q b t ht et)
    · rw [List.mem_singleton.mp a, List.mem_singleton.mp b]
/-- a pair that comes with a hue that is free at both ends -/
theorem snoc_proper {R : List Pr} (P : Proper R) {x : Pr} (f0 : at_ R 0 x.l x.h = none) (f1 : at_ R 1 x.r x.h = none) : Proper (R ++ [x]) := by
  have no : ∀ q ∈ R, ∀ t, t < 2 → x.e t = q.e t → x.h ≠ q.h := by
    intro q hq t ht et
    by_cases z : t = 0
    · rw [z] at et
      exact fun e => at_none f0 q hq et.symm e.symm
    · have t1 : t = 1 := by omega
      rw [t1] at et
      exact fun e => at_none f1 q hq et.symm e.symm
  intro p hp q hq t ht et hh
  rcases List.mem_append.mp hp with a | a
  · rcases List.mem_append.mp hq with b | b
    · exact P p a q b t ht et hh
    · rw [List.mem_singleton.mp b] at et hh
      exact absurd hh.symm (no p a t ht et.symm)
  · rcases List.mem_append.mp hq with b | b
    · rw [List.mem_singleton.mp a] at et hh
      exact absurd hh (no q b t ht et)
    · rw [List.mem_singleton.mp a, List.mem_singleton.mp b]
end Mt

set_option Elab.async false
set_option linter.all false
namespace Mt
open K08 (count most ends)
/-! ### free hues, ways, a pair's place -/
def free (R : List Pr) (s e m : Nat) : List Nat := (List.range m).filter fun h => (at_ R s e h).isNone
theorem mem_free {R : List Pr} {s e m h : Nat} : h ∈ free R s e m ↔ h < m ∧ at_ R s e h = none := by
  unfold free
  rw [List.mem_filter, List.mem_range, Option.isNone_iff_eq_none]
structure Way where
  hue : Nat
  other : Nat
  c : List Nat
def ways (R : List Pr) (l r m : Nat) : List Way :=
  (free R 0 l m).flatMap fun a => (free R 1 r m).flatMap fun b => [⟨a, b, (chain R 1 r b a).map (·.n)⟩, ⟨b, a, (chain R 0 l a b).map (·.n)⟩]
theorem mem_ways {R : List Pr} {l r m : Nat} {w : Way} : w ∈ ways R l r m ↔ ∃ a ∈ free R 0 l m, ∃ b ∈ free R 1 r m, w = ⟨a, b, (chain R 1 r b a).map (·.n)⟩ ∨ w = ⟨b, a, (chain R 0 l a b).map (·.n)⟩ := by
  unfold ways
  constructor
  · intro h
    obtain ⟨a, ha, h⟩ := List.mem_flatMap.mp h
    obtain ⟨b, hb, h⟩ := List.mem_flatMap.mp h
    refine ⟨a, ha, b, hb, ?_⟩
    rcases List.mem_cons.mp h with z | z
    · exact .inl z
    · exact .inr (List.mem_singleton.mp z)
  · rintro ⟨a, ha, b, hb, h⟩
    refine List.mem_flatMap.mpr ⟨a, ha, List.mem_flatMap.mpr ⟨b, hb, ?_⟩⟩
    rcases h with z | z
    · rw [z]; exact List.mem_cons_self
    · rw [z]; exact List.mem_cons_of_mem _ List.mem_cons_self
def bestI (f : Nat → Nat) : Nat → Nat
  | 0 => 0
  | k + 1 => if f (k + 1) < f (bestI f k) then k + 1 else bestI f k
theorem bestI_le (f : Nat → Nat) : ∀ k, bestI f k ≤ k
  | 0 => Nat.le_refl _
  | k + 1 => by
    unfold bestI
    have := bestI_le f k
    split <;> omega
theorem bestI_min (f : Nat → Nat) : ∀ k j, j ≤ k → f (bestI f k) ≤ f j
  | 0, j, h => by
    have : j = 0 := by omega
    rw [this]
    exact Nat.le_refl _
  | k + 1, j, h => by
    unfold bestI
    by_cases e : j = k + 1
    · rw [e]
      split <;> omega
    · have := bestI_min f k j (by omega)
      split <;> omega
def best (ws : List Way) : Way := ws.getD (bestI (fun i => (ws.getD i ⟨0, 0, []⟩).c.length) (ws.length - 1)) ⟨0, 0, []⟩
theorem best_mem {ws : List Way} (h : ws ≠ []) : best ws ∈ ws := by
  unfold best
  have := bestI_le (fun i => (ws.getD i ⟨0, 0, []⟩).c.length) (ws.length - 1)
  have := List.length_pos_iff.mpr h
  rw [List.getD_eq_getElem?_getD, List.getElem?_eq_getElem (by omega)]
  exact List.getElem_mem _
theorem best_min {ws : List Way} {w : Way} (h : w ∈ ws) : (best ws).c.length ≤ w.c.length := by
  obtain ⟨i, hi, e⟩ := List.getElem_of_mem h
  have := bestI_min (fun i => (ws.getD i ⟨0, 0, []⟩).c.length) (ws.length - 1) i (by omega)
  unfold best
  have g : ws.getD i ⟨0, 0, []⟩ = w := by rw [List.getD_eq_getElem?_getD, List.getElem?_eq_getElem hi, e]; rfl
  simp only [g] at this
  exact this
/-- what is told of a pair: its number, its hue, the other hue of the chain that was turned, its numbers -/
structure Told where
  n : Nat
  hue : Nat
  other : Option Nat
  c : List Nat
def both (R : List Pr) (l r m : Nat) : List Nat := (free R 0 l m).filter fun h => decide (h ∈ free R 1 r m)
def place (R : List Pr) (n l r m : Nat) : Told × List Pr :=
  match both R l r m with
  | h :: _ => (⟨n, h, none, []⟩, R ++ [⟨n, l, r, h⟩])
  | [] => (⟨n, (best (ways R l r m)).hue, some (best (ways R l r m)).other, (best (ways R l r m)).c⟩,
      turn R (best (ways R l r m)).c (best (ways R l r m)).hue (best (ways R l r m)).other ++ [⟨n, l, r, (best (ways R l r m)).hue⟩])
theorem place_both {R : List Pr} {n l r m h : Nat} {t : List Nat} (e : both R l r m = h :: t) : place R n l r m = (⟨n, h, none, []⟩, R ++ [⟨n, l, r, h⟩]) := by
  unfold place
  rw [e]
theorem place_way {R : List Pr} {n l r m : Nat} (e : both R l r m = []) : place R n l r m = (⟨n, (best (ways R l r m)).hue, some (best (ways R l r m)).other, (best (ways R l r m)).c⟩,
      turn R (best (ways R l r m)).c (best (ways R l r m)).hue (best (ways R l r m)).other ++ [⟨n, l, r, (best (ways R l r m)).hue⟩]) := by
  unfold place
  rw [e]
/-- what a way is -/
theorem way_is {R : List Pr} {l r m : Nat} (f0 : free R 0 l m ≠ []) (f1 : free R 1 r m ≠ []) : best (ways R l r m) ∈ ways R l r m := by
  refine best_mem ?_
  obtain ⟨a, ha⟩ := List.exists_mem_of_ne_nil _ f0
  obtain ⟨b, hb⟩ := List.exists_mem_of_ne_nil _ f1
  exact List.ne_nil_of_mem (mem_ways.mpr ⟨a, ha, b, hb, .inl rfl⟩)
theorem both_nil {R : List Pr} {l r m a b : Nat} (e : both R l r m = []) (ha : a ∈ free R 0 l m) (hb : b ∈ free R 1 r m) : a ≠ b := by
  intro z
  have : a ∈ both R l r m := List.mem_filter.mpr ⟨ha, decide_eq_true (by rw [z]; exact hb)⟩
  rw [e] at this
  cases this
/-- a pair finds its place: still no two that meet have one hue -/
theorem place_proper {R : List Pr} (P : Proper R) (N : (R.map (·.n)).Nodup) {n l r m : Nat} (f0 : free R 0 l m ≠ []) (f1 : free R 1 r m ≠ []) : Proper (place R n l r m).2 := by
  cases e : both R l r m with
  | cons h t =>
    rw [place_both e]
    have hm : h ∈ both R l r m := by rw [e]; exact List.mem_cons_self
    obtain ⟨h1, h2⟩ := List.mem_filter.mp hm
    exact snoc_proper P (mem_free.mp h1).2 (mem_free.mp (of_decide_eq_true h2)).2
  | nil =>
    rw [place_way e]
    obtain ⟨a, ha, b, hb, z⟩ := mem_ways.mp (way_is f0 f1)
    have ab := both_nil e ha hb
    have a0 := (mem_free.mp ha).2
    have b1 := (mem_free.mp hb).2
    rcases z with z | z
    · rw [z]
      exact turn_proper P N (s := 1) (e := r) (e2 := l) (one := b) (other := a) (x := ⟨n, l, r, a⟩) (by decide) ab b1 a0 rfl rfl rfl
    · rw [z]
      exact turn_proper P N (s := 0) (e := l) (e2 := r) (one := a) (other := b) (x := ⟨n, l, r, b⟩) (by decide) (Ne.symm ab) a0 b1 rfl rfl rfl
theorem place_ns {R : List Pr} {n l r m : Nat} : (place R n l r m).2.map (·.n) = R.map (·.n) ++ [n] := by
  cases e : both R l r m with
  | cons h t => rw [place_both e, List.map_append]; rfl
  | nil => rw [place_way e, List.map_append, turn_n]; rfl
theorem place_es {R : List Pr} {n l r m s : Nat} : (place R n l r m).2.map (·.e s) = R.map (·.e s) ++ [(⟨n, l, r, 0⟩ : Pr).e s] := by
  cases e : both R l r m with
  | cons h t => rw [place_both e, List.map_append]; rfl
  | nil => rw [place_way e, List.map_append, turn_e]; rfl
/-- a pair whose number is of the chain of the way has one of its two hues -/
theorem way_c {R : List Pr} (N : (R.map (·.n)).Nodup) {l r m : Nat} {w : Way} (h : w ∈ ways R l r m) {p : Pr} (hp : p ∈ R) (c : p.n ∈ w.c) : p.h = w.hue ∨ p.h = w.other := by
  obtain ⟨a, ha, b, hb, z⟩ := mem_ways.mp h
  rcases z with z | z
  · rw [z] at c ⊢
    obtain ⟨c', h1, h2⟩ := List.mem_map.mp c
    obtain ⟨h3, h4⟩ := chainF_mem h1
    rw [n_inj N h3 hp h2] at h4
    exact h4
  · rw [z] at c ⊢
    obtain ⟨c', h1, h2⟩ := List.mem_map.mp c
    obtain ⟨h3, h4⟩ := chainF_mem h1
    rw [n_inj N h3 hp h2] at h4
    exact h4
theorem way_lt {R : List Pr} {l r m : Nat} {w : Way} (h : w ∈ ways R l r m) : w.hue < m ∧ w.other < m := by
  obtain ⟨a, ha, b, hb, z⟩ := mem_ways.mp h
  have a0 := (mem_free.mp ha).1
  have b0 := (mem_free.mp hb).1
  rcases z with z | z <;> rw [z] <;> exact ⟨by assumption, by assumption⟩
theorem way_nodup {R : List Pr} (P : Proper R) (N : (R.map (·.n)).Nodup) {l r m : Nat} (e : both R l r m = []) {w : Way} (h : w ∈ ways R l r m) : w.c.Nodup ∧ ∀ x ∈ w.c, x ∈ R.map (·.n) := by
  have key : ∀ (s e one other : Nat), s < 2 → other ≠ one → at_ R s e one = none → ((chain R s e one other).map (·.n)).Nodup ∧ ∀ x ∈ (chain R s e one other).map (·.n), x ∈ R.map (·.n) := by
    intro s e one other hs ho fr
    have nd := chainF_nodup (R.length + 1) P hs ho (at_none fr)
    refine ⟨?_, fun x hx => ?_⟩
    · rw [List.nodup_iff_pairwise_ne, List.pairwise_map]
      refine List.Pairwise.imp_of_mem (fun ha hb hn z => hn ?_) (List.nodup_iff_pairwise_ne.mp nd)
      exact n_inj N (chainF_mem ha).1 (chainF_mem hb).1 z
    · obtain ⟨p, hp, rfl⟩ := List.mem_map.mp hx
      exact List.mem_map.mpr ⟨p, (chainF_mem hp).1, rfl⟩
  obtain ⟨a, ha, b, hb, z⟩ := mem_ways.mp h
  have ab := both_nil e ha hb
  have a0 := (mem_free.mp ha).2
  have b1 := (mem_free.mp hb).2
  rcases z with z | z
  · rw [z]
    exact key 1 r b a (by decide) ab b1
  · rw [z]
    exact key 0 l a b (by decide) (Ne.symm ab) a0
/-- whose hue is none of the first m keeps it; others stay below m; the new one gets one of these -/
theorem place_hues {R : List Pr} (N : (R.map (·.n)).Nodup) {n l r m : Nat} (f0 : free R 0 l m ≠ []) (f1 : free R 1 r m ≠ []) {q : Pr} (hq : q ∈ (place R n l r m).2) :
    (q.n = n ∧ q.l = l ∧ q.r = r ∧ q.h < m) ∨ q ∈ R ∨ (∃ p ∈ R, p.n = q.n ∧ p.l = q.l ∧ p.r = q.r ∧ p.h < m ∧ q.h < m) := by
  cases e : both R l r m with
  | cons h t =>
    rw [place_both e] at hq
    have hm : h ∈ both R l r m := by rw [e]; exact List.mem_cons_self
    have := (mem_free.mp (List.mem_filter.mp hm).1).1
    rcases List.mem_append.mp hq with z | z
    · exact .inr (.inl z)
    · rw [List.mem_singleton.mp z]
      exact .inl ⟨rfl, rfl, rfl, this⟩
  | nil =>
    rw [place_way e] at hq
    have W := way_is f0 f1
    have hw := way_lt W
    rcases List.mem_append.mp hq with y | y
    · obtain ⟨p, hp, ep⟩ := turn_mem y
      by_cases c : p.n ∈ (best (ways R l r m)).c
      · rw [if_pos c] at ep
        refine .inr (.inr ⟨p, hp, by rw [ep]; rfl, by rw [ep]; rfl, by rw [ep]; rfl, ?_, ?_⟩)
        · rcases way_c N W hp c with z | z <;> rw [z]
          · exact hw.1
          · exact hw.2
        · rw [ep]
          show (if p.h = (best (ways R l r m)).hue then (best (ways R l r m)).other else (best (ways R l r m)).hue) < m
          split
          · exact hw.2
          · exact hw.1
      · rw [if_neg c] at ep
        rw [ep]
        exact .inr (.inl hp)
    · rw [List.mem_singleton.mp y]
      exact .inl ⟨rfl, rfl, rfl, hw.1⟩
/-- an old pair of a hue beyond the first m stays as it is -/
theorem place_far {R : List Pr} (N : (R.map (·.n)).Nodup) {n l r m : Nat} (f0 : free R 0 l m ≠ []) (f1 : free R 1 r m ≠ []) {p : Pr} (hp : p ∈ R) (hm : m ≤ p.h) : p ∈ (place R n l r m).2 := by
  cases e : both R l r m with
  | cons h t =>
    rw [place_both e]
    exact List.mem_append_left _ hp
  | nil =>
    rw [place_way e]
    have W := way_is f0 f1
    have hw := way_lt W
    refine List.mem_append_left _ (List.mem_map.mpr ⟨p, hp, ?_⟩)
    show (if p.n ∈ (best (ways R l r m)).c then _ else p) = p
    by_cases c : p.n ∈ (best (ways R l r m)).c
    · have := way_c N W hp c
      omega
    · rw [if_neg c]
/-! ### how full -/
def deg (R : List Pr) (s e : Nat) : Nat := (R.map (·.e s)).count e
def row (p : Pr) : List Int := [(p.l : Int), (p.r : Int), (p.h : Int)]
def cnt (R : List Pr) : Nat := count (R.map row)
theorem count_cast (l : List Nat) (x : Nat) : (l.map (fun n : Nat => (n : Int))).count (x : Int) = l.count x := by
  induction l with
  | nil => rfl
  | cons a l ih =>
    rw [List.map_cons, List.count_cons, List.count_cons, ih]
    congr 1
    by_cases h : a = x
    · rw [h]
      simp
    · have : ¬ (a : Int) = (x : Int) := by omega
      simp [h, this]
theorem ends_row (R : List Pr) : ends (R.map row) 0 = (R.map (·.e 0)).map (fun n : Nat => (n : Int)) ∧ ends (R.map row) 1 = (R.map (·.e 1)).map (fun n : Nat => (n : Int)) := by
  unfold ends
  rw [List.map_map, List.map_map, List.map_map, List.map_map]
  exact ⟨rfl, rfl⟩
theorem most_le {l : List Nat} {x : Nat} : l.count x ≤ most (l.map (fun n : Nat => (n : Int))) := by
  rw [← count_cast]
  by_cases h : (x : Int) ∈ l.map (fun n : Nat => (n : Int))
  · exact K08.most_ge h
  · rw [List.count_eq_zero.mpr h]
    exact Nat.zero_le _
theorem most_at {l : List Nat} : most (l.map (fun n : Nat => (n : Int))) = 0 ∨ ∃ x ∈ l, most (l.map (fun n : Nat => (n : Int))) = l.count x := by
  rcases K08.most_in (l.map (fun n : Nat => (n : Int))) with h | ⟨e, he, q⟩
  · exact .inl h
  · obtain ⟨x, hx, rfl⟩ := List.mem_map.mp he
    rw [count_cast] at q
    exact .inr ⟨x, hx, q⟩
theorem deg_le (R : List Pr) {s e : Nat} (hs : s < 2) : deg R s e ≤ cnt R := by
  unfold deg cnt count
  obtain ⟨e0, e1⟩ := ends_row R
  rw [e0, e1]
  match s, hs with
  | 0, _ => exact Nat.le_trans most_le (Nat.le_max_left _ _)
  | 1, _ => exact Nat.le_trans most_le (Nat.le_max_right _ _)
theorem cnt_at (R : List Pr) : (cnt R = 0 ∧ R = []) ∨ ∃ s e, s < 2 ∧ (∃ p ∈ R, p.e s = e) ∧ deg R s e = cnt R := by
  cases R with
  | nil => exact .inl ⟨rfl, rfl⟩
  | cons p R =>
    right
    generalize hR : p :: R = R'
    have hp : p ∈ R' := by rw [← hR]; exact List.mem_cons_self
    have pos : 0 < cnt R' := by
      refine Nat.lt_of_lt_of_le ?_ (deg_le R' (s := 0) (e := p.e 0) (by decide))
      exact List.count_pos_iff.mpr (List.mem_map.mpr ⟨p, hp, rfl⟩)
    unfold cnt count at pos ⊢
    obtain ⟨e0, e1⟩ := ends_row R'
    rw [e0, e1] at pos ⊢
    rcases Nat.le_total (most ((R'.map (·.e 0)).map (fun n : Nat => (n : Int)))) (most ((R'.map (·.e 1)).map (fun n : Nat => (n : Int)))) with h | h
    · rw [Nat.max_eq_right h] at pos ⊢
      rcases most_at (l := R'.map (·.e 1)) with z | ⟨x, hx, z⟩
      · omega
      · obtain ⟨q, hq, e⟩ := List.mem_map.mp hx
        exact ⟨1, x, by decide, ⟨q, hq, e⟩, z.symm⟩
    · rw [Nat.max_eq_left h] at pos ⊢
      rcases most_at (l := R'.map (·.e 0)) with z | ⟨x, hx, z⟩
      · omega
      · obtain ⟨q, hq, e⟩ := List.mem_map.mp hx
        exact ⟨0, x, by decide, ⟨q, hq, e⟩, z.symm⟩
theorem cnt_congr {R R' : List Pr} (h0 : R.map (·.e 0) = R'.map (·.e 0)) (h1 : R.map (·.e 1) = R'.map (·.e 1)) : cnt R = cnt R' := by
  unfold cnt count
  rw [(ends_row R).1, (ends_row R).2, (ends_row R').1, (ends_row R').2, h0, h1]
theorem deg_filter (R : List Pr) (s e : Nat) : deg R s e = (R.filter fun p => decide (p.e s = e)).length := by
  unfold deg
  induction R with
  | nil => rfl
  | cons p R ih =>
    rw [List.map_cons, List.count_cons, ih, List.filter_cons]
    by_cases h : p.e s = e
    · simp [h]
    · simp [h]
/-- where fewer than m others meet one of m hues is free -/
theorem free_some {R : List Pr} {s e m : Nat} (h : deg R s e < m) : free R s e m ≠ [] := by
  intro z
  rw [deg_filter] at h
  have all : ∀ x ∈ List.range m, x ∈ (R.filter fun p => decide (p.e s = e)).map (·.h) := by
    intro x hx
    have nx : x ∉ free R s e m := by rw [z]; simp
    cases a : at_ R s e x with
    | none => exact absurd (mem_free.mpr ⟨List.mem_range.mp hx, a⟩) nx
    | some p =>
      obtain ⟨h1, h2, h3⟩ := at_some a
      exact List.mem_map.mpr ⟨p, List.mem_filter.mpr ⟨h1, decide_eq_true h2⟩, h3⟩
  have := nodup_len List.nodup_range all
  rw [List.length_range, List.length_map] at this
  omega
end Mt

set_option Elab.async false
set_option linter.all false
namespace Mt
open K08 (count most ends)
/-! ### what holds of a hall's pairs -/
structure Good (R : List Pr) : Prop where
  P : Proper R
  N : (R.map (·.n)).Nodup
  H : ∀ p ∈ R, p.h < cnt R
theorem Good.nil : Good [] := ⟨fun p hp => absurd hp (by simp), List.nodup_nil, fun p hp => absurd hp (by simp)⟩
def nlr (p : Pr) : Nat × Nat × Nat := (p.n, p.l, p.r)
theorem map_n (R : List Pr) : R.map (·.n) = (R.map nlr).map (·.1) := by
  rw [List.map_map]
  rfl
theorem map_e (R : List Pr) (s : Nat) : R.map (·.e s) = (R.map nlr).map (fun t => if s = 0 then t.2.1 else t.2.2) := by
  rw [List.map_map]
  rfl
theorem perm_deg {R R' : List Pr} (h : (R.map nlr).Perm (R'.map nlr)) (s e : Nat) : deg R s e = deg R' s e := by
  unfold deg
  rw [map_e, map_e]
  exact (h.map _).count_eq _
theorem cnt_deg {R R' : List Pr} (h : ∀ s e, s < 2 → deg R s e ≤ deg R' s e) : cnt R ≤ cnt R' := by
  rcases cnt_at R with ⟨z, _⟩ | ⟨s, e, hs, _, z⟩
  · omega
  · have := h s e hs
    have := deg_le R' (s := s) (e := e) hs
    omega
theorem perm_cnt {R R' : List Pr} (h : (R.map nlr).Perm (R'.map nlr)) : cnt R = cnt R' :=
  Nat.le_antisymm (cnt_deg fun s e _ => Nat.le_of_eq (perm_deg h s e)) (cnt_deg fun s e _ => Nat.le_of_eq (perm_deg h s e).symm)
theorem perm_nodup {R R' : List Pr} (h : (R.map nlr).Perm (R'.map nlr)) (N : (R.map (·.n)).Nodup) : (R'.map (·.n)).Nodup := by
  rw [map_n] at N ⊢
  exact (h.map _).nodup_iff.mp N
theorem deg_snoc (R : List Pr) (p : Pr) (s e : Nat) : deg (R ++ [p]) s e = deg R s e + if p.e s = e then 1 else 0 := by
  unfold deg
  rw [List.map_append, List.count_append]
  by_cases h : p.e s = e
  · rw [if_pos h, ← h]
    simp
  · rw [if_neg h]
    have : e ∉ List.map (·.e s) [p] := by
      simp only [List.map_cons, List.map_nil, List.mem_singleton]
      exact fun z => h z.symm
    rw [List.count_eq_zero.mpr this]
theorem place_nlr {R : List Pr} {n l r m : Nat} : (place R n l r m).2.map nlr = R.map nlr ++ [(n, l, r)] := by
  cases e : both R l r m with
  | cons h t => rw [place_both e, List.map_append]; rfl
  | nil =>
    rw [place_way e, List.map_append]
    have : (turn R (best (ways R l r m)).c (best (ways R l r m)).hue (best (ways R l r m)).other).map nlr = R.map nlr := by
      unfold turn
      rw [List.map_map]
      refine List.map_congr_left fun p _ => ?_
      show nlr (if p.n ∈ _ then _ else p) = nlr p
      split <;> rfl
    rw [this]
    rfl
/-! ### a pair comes -/
def manyWith (R : List Pr) (l r : Nat) : Nat := count (R.map row ++ [[(l : Int), (r : Int)]])
theorem many_is (R : List Pr) (n l r h : Nat) : manyWith R l r = cnt (R ++ [⟨n, l, r, h⟩]) := by
  unfold manyWith cnt count ends
  simp only [List.map_append, List.map_cons, List.map_nil]
  rfl
def come (R : List Pr) (n l r : Nat) : Told × List Pr := place R n l r (manyWith R l r)
theorem come_free (R : List Pr) (l r : Nat) : free R 0 l (manyWith R l r) ≠ [] ∧ free R 1 r (manyWith R l r) ≠ [] := by
  rw [many_is R 0 l r 0]
  refine ⟨free_some ?_, free_some ?_⟩
  · have a := deg_le (R ++ [⟨0, l, r, 0⟩]) (s := 0) (e := l) (by decide)
    rw [deg_snoc, if_pos (show (⟨0, l, r, 0⟩ : Pr).e 0 = l from rfl)] at a
    omega
  · have a := deg_le (R ++ [⟨0, l, r, 0⟩]) (s := 1) (e := r) (by decide)
    rw [deg_snoc, if_pos (show (⟨0, l, r, 0⟩ : Pr).e 1 = r from rfl)] at a
    omega
theorem come_cnt (R : List Pr) (n l r : Nat) : cnt (come R n l r).2 = manyWith R l r := by
  rw [many_is R n l r 0]
  refine perm_cnt ?_
  unfold come
  rw [place_nlr, List.map_append]
  exact List.Perm.refl _
theorem cnt_le_many (R : List Pr) (l r : Nat) : cnt R ≤ manyWith R l r := by
  rw [many_is R 0 l r 0]
  exact cnt_deg fun s e _ => by rw [deg_snoc]; omega
theorem come_good {R : List Pr} (G : Good R) {n l r : Nat} (hn : n ∉ R.map (·.n)) : Good (come R n l r).2 := by
  obtain ⟨f0, f1⟩ := come_free R l r
  refine ⟨place_proper G.P G.N f0 f1, ?_, fun q hq => ?_⟩
  · unfold come
    rw [place_ns]
    refine List.nodup_append.mpr ⟨G.N, by simp, fun a ha b hb => ?_⟩
    rw [List.mem_singleton.mp hb]
    exact fun z => hn (by rw [← z]; exact ha)
  · rw [come_cnt]
    rcases place_hues G.N f0 f1 hq with ⟨_, _, _, z⟩ | z | ⟨_, _, _, _, _, _, z⟩
    · exact z
    · have := G.H q z
      have := cnt_le_many R l r
      omega
    · exact z
/-! ### a pair goes -/
def drop (R : List Pr) (x : Nat) : List Pr := R.filter fun p => decide (p.n ≠ x)
theorem mem_drop {R : List Pr} {x : Nat} {p : Pr} : p ∈ drop R x ↔ p ∈ R ∧ p.n ≠ x := by
  unfold drop
  rw [List.mem_filter, decide_eq_true_eq]
theorem drop_no {R : List Pr} {x : Nat} (h : x ∉ R.map (·.n)) : drop R x = R := by
  unfold drop
  exact List.filter_eq_self.mpr fun p hp => decide_eq_true fun z => h (List.mem_map.mpr ⟨p, hp, z⟩)
theorem drop_perm {R : List Pr} (N : (R.map (·.n)).Nodup) {p : Pr} (hp : p ∈ R) : R.Perm (drop R p.n ++ [p]) := by
  induction R with
  | nil => cases hp
  | cons a R ih =>
    have N' : (a.n :: R.map (·.n)).Nodup := N
    obtain ⟨h1, h2⟩ := List.nodup_cons.mp N'
    rcases List.mem_cons.mp hp with z | z
    · have : drop (a :: R) p.n = R := by
        unfold drop
        rw [List.filter_cons, if_neg (by simp [z])]
        rw [z]
        exact drop_no h1
      rw [this, z]
      exact (List.perm_append_singleton a R).symm
    · have na : a.n ≠ p.n := fun e => h1 (by rw [e]; exact List.mem_map.mpr ⟨p, z, rfl⟩)
      have : drop (a :: R) p.n = a :: drop R p.n := by
        unfold drop
        rw [List.filter_cons, if_pos (by simp [na])]
      rw [this]
      exact (ih h2 z).cons a
theorem drop_nodup {R : List Pr} (N : (R.map (·.n)).Nodup) (x : Nat) : ((drop R x).map (·.n)).Nodup := (List.filter_sublist.map _).nodup N
theorem drop_notin (R : List Pr) (x : Nat) : x ∉ (drop R x).map (·.n) := by
  intro h
  obtain ⟨p, hp, e⟩ := List.mem_map.mp h
  exact (mem_drop.mp hp).2 e
theorem drop_deg {R : List Pr} (N : (R.map (·.n)).Nodup) {p : Pr} (hp : p ∈ R) (s e : Nat) : deg R s e = deg (drop R p.n) s e + if p.e s = e then 1 else 0 := by
  rw [← deg_snoc]
  unfold deg
  exact ((drop_perm N hp).map _).count_eq _
def srt (l : List Nat) : List Nat := l.mergeSort (fun a b => decide (a ≤ b))
theorem srt_perm (l : List Nat) : (srt l).Perm l := List.mergeSort_perm l _
theorem srt_le (l : List Nat) : (srt l).Pairwise (· ≤ ·) := by
  have := List.pairwise_mergeSort (le := fun a b : Nat => decide (a ≤ b)) (by intro a b c h1 h2; simp at *; omega) (by intro a b; simp; omega) l
  exact this.imp (by intro a b h; simpa using h)
theorem srt_is {l m : List Nat} (h1 : m.Perm l) (h2 : m.Pairwise (· ≤ ·)) : m = srt l :=
  (h1.trans (srt_perm l).symm).eq_of_pairwise (fun x y _ _ h1 h2 => Nat.le_antisymm h1 h2) h2 (srt_le l)
theorem mem_srt {l : List Nat} {x : Nat} : x ∈ srt l ↔ x ∈ l := (srt_perm l).mem_iff
/-- the numbers of the pairs of a hue, rising -/
def ofHue (R : List Pr) (h : Nat) : List Nat := (srt (R.map (·.n))).filter fun x => R.any fun p => decide (p.n = x) && decide (p.h = h)
theorem mem_ofHue {R : List Pr} {h x : Nat} : x ∈ ofHue R h ↔ ∃ p ∈ R, p.n = x ∧ p.h = h := by
  unfold ofHue
  rw [List.mem_filter, mem_srt, List.any_eq_true]
  constructor
  · rintro ⟨_, p, hp, e⟩
    simp only [Bool.and_eq_true, decide_eq_true_eq] at e
    exact ⟨p, hp, e⟩
  · rintro ⟨p, hp, e1, e2⟩
    exact ⟨List.mem_map.mpr ⟨p, hp, e1⟩, p, hp, by simp [e1, e2]⟩
theorem ofHue_nodup {R : List Pr} (N : (R.map (·.n)).Nodup) (h : Nat) : (ofHue R h).Nodup :=
  List.filter_sublist.nodup ((srt_perm _).nodup_iff.mpr N)
def pairOf (R : List Pr) (x : Nat) : Option Pr := R.find? fun p => decide (p.n = x)
theorem pairOf_some {R : List Pr} {x : Nat} {p : Pr} (h : pairOf R x = some p) : p ∈ R ∧ p.n = x :=
  ⟨List.mem_of_find?_eq_some h, by simpa using List.find?_some h⟩
theorem pairOf_is {R : List Pr} (N : (R.map (·.n)).Nodup) {p : Pr} (hp : p ∈ R) : pairOf R p.n = some p := by
  cases h : pairOf R p.n with
  | none =>
    have := List.find?_eq_none.mp h p hp
    simp at this
  | some q =>
    obtain ⟨h1, h2⟩ := pairOf_some h
    rw [n_inj N h1 hp h2]
def goL (m : Nat) : List Pr → List Nat → List Told × List Pr
  | R, [] => ([], R)
  | R, x :: xs => match pairOf R x with
    | none => ([], R)
    | some p => ((place (drop R x) x p.l p.r m).1 :: (goL m (place (drop R x) x p.l p.r m).2 xs).1, (goL m (place (drop R x) x p.l p.r m).2 xs).2)
theorem goL_cons {m : Nat} {R : List Pr} {x : Nat} {xs : List Nat} {p : Pr} (h : pairOf R x = some p) :
    goL m R (x :: xs) = ((place (drop R x) x p.l p.r m).1 :: (goL m (place (drop R x) x p.l p.r m).2 xs).1, (goL m (place (drop R x) x p.l p.r m).2 xs).2) := by
  rw [goL, h]
/-- what holds while those of the hue m are placed anew -/
structure Going (m : Nat) (R : List Pr) (xs : List Nat) : Prop where
  P : Proper R
  N : (R.map (·.n)).Nodup
  D : ∀ s e, s < 2 → deg R s e ≤ m
  H : ∀ p ∈ R, p.h ≤ m
  X : xs.Nodup
  I : ∀ p ∈ R, p.h = m ↔ p.n ∈ xs
  J : ∀ x ∈ xs, x ∈ R.map (·.n)
theorem Going.pair {m : Nat} {R : List Pr} {x : Nat} {xs : List Nat} (G : Going m R (x :: xs)) : ∃ p ∈ R, p.n = x ∧ p.h = m ∧ pairOf R x = some p ∧
    free (drop R x) 0 p.l m ≠ [] ∧ free (drop R x) 1 p.r m ≠ [] := by
  obtain ⟨p, hp, e⟩ := List.mem_map.mp (G.J x List.mem_cons_self)
  have e : p.n = x := e
  have hm : p.h = m := (G.I p hp).mpr (by rw [e]; exact List.mem_cons_self)
  refine ⟨p, hp, e, hm, by rw [← e]; exact pairOf_is G.N hp, free_some ?_, free_some ?_⟩
  · have a := G.D 0 p.l (by decide)
    rw [drop_deg G.N hp, if_pos (show p.e 0 = p.l from rfl), e] at a
    omega
  · have a := G.D 1 p.r (by decide)
    rw [drop_deg G.N hp, if_pos (show p.e 1 = p.r from rfl), e] at a
    omega
theorem Going.next_nlr {R : List Pr} {x m : Nat} (N : (R.map (·.n)).Nodup) {p : Pr} (hp : p ∈ R) (e : p.n = x) : ((place (drop R x) x p.l p.r m).2.map nlr).Perm (R.map nlr) := by
  rw [place_nlr]
  have := ((drop_perm N hp).map nlr).symm
  rw [List.map_append, e] at this
  have e2 : List.map nlr [p] = [(x, p.l, p.r)] := by
    rw [← e]
    rfl
  rw [e2] at this
  exact this
theorem Going.next {m : Nat} {R : List Pr} {x : Nat} {xs : List Nat} (G : Going m R (x :: xs)) {p : Pr} (hp : p ∈ R) (e : p.n = x) (hm : p.h = m)
    (f0 : free (drop R x) 0 p.l m ≠ []) (f1 : free (drop R x) 1 p.r m ≠ []) : Going m (place (drop R x) x p.l p.r m).2 xs := by
  obtain ⟨x1, x2⟩ := List.nodup_cons.mp G.X
  have pm := Going.next_nlr (m := m) G.N hp e
  have Nd := drop_nodup G.N x
  refine ⟨place_proper (G.P.sub fun q hq => (mem_drop.mp hq).1) Nd f0 f1, perm_nodup pm.symm G.N, fun s e hs => by rw [perm_deg pm]; exact G.D s e hs, fun q hq => ?_, x2, fun q hq => ?_, fun y hy => ?_⟩
  · rcases place_hues Nd f0 f1 hq with ⟨_, _, _, z⟩ | z | ⟨_, _, _, _, _, _, z⟩
    · omega
    · exact G.H q (mem_drop.mp z).1
    · omega
  · rcases place_hues Nd f0 f1 hq with ⟨z1, _, _, z⟩ | z | ⟨q', z0, z1, _, _, z3, z⟩
    · rw [z1]
      exact ⟨fun h => by omega, fun h => absurd h x1⟩
    · obtain ⟨a, b⟩ := mem_drop.mp z
      have := G.I q a
      rw [this, List.mem_cons]
      exact ⟨fun h => h.resolve_left b, .inr⟩
    · obtain ⟨a, b⟩ := mem_drop.mp z0
      have := G.I q' a
      rw [List.mem_cons, z1] at this
      exact ⟨fun h => by omega, fun h => absurd (this.mpr (.inr h)) (by omega)⟩
  · have := G.J y (List.mem_cons_of_mem _ hy)
    rw [map_n] at this ⊢
    exact (pm.map _).mem_iff.mpr this
theorem goL_ok {m : Nat} : ∀ {xs : List Nat} {R : List Pr}, Going m R xs → Going m (goL m R xs).2 [] ∧ ((goL m R xs).2.map nlr).Perm (R.map nlr)
  | [], R, G => ⟨G, List.Perm.refl _⟩
  | x :: xs, R, G => by
    obtain ⟨p, hp, e, hm, ho, f0, f1⟩ := G.pair
    rw [goL_cons ho]
    obtain ⟨a, b⟩ := goL_ok (G.next hp e hm f0 f1)
    exact ⟨a, b.trans (Going.next_nlr G.N hp e)⟩
def go (R : List Pr) (x : Nat) : List Told × List Pr := if cnt (drop R x) = cnt R then ([], drop R x) else goL (cnt (drop R x)) (drop R x) (ofHue (drop R x) (cnt (drop R x)))
theorem drop_cnt {R : List Pr} (N : (R.map (·.n)).Nodup) {x : Nat} (hx : x ∈ R.map (·.n)) : cnt (drop R x) ≤ cnt R ∧ cnt R ≤ cnt (drop R x) + 1 := by
  obtain ⟨p, hp, e⟩ := List.mem_map.mp hx
  have e : p.n = x := e
  rw [← e]
  refine ⟨cnt_deg fun s e _ => by rw [drop_deg N hp]; omega, ?_⟩
  rcases cnt_at R with ⟨z, _⟩ | ⟨s, e, hs, _, z⟩
  · omega
  · have a := drop_deg N hp s e
    have b := deg_le (drop R p.n) (s := s) (e := e) hs
    split at a <;> omega
theorem go_start {R : List Pr} (G : Good R) {x : Nat} (hx : x ∈ R.map (·.n)) (ne : cnt (drop R x) ≠ cnt R) : Going (cnt (drop R x)) (drop R x) (ofHue (drop R x) (cnt (drop R x))) := by
  obtain ⟨a, b⟩ := drop_cnt G.N hx
  refine ⟨G.P.sub fun q hq => (mem_drop.mp hq).1, drop_nodup G.N x, fun s e hs => deg_le _ hs, fun p hp => ?_, ofHue_nodup (drop_nodup G.N x) _, fun p hp => ?_, fun y hy => ?_⟩
  · have := G.H p (mem_drop.mp hp).1
    omega
  · rw [mem_ofHue]
    refine ⟨fun h => ⟨p, hp, rfl, h⟩, fun ⟨q, hq, e1, e2⟩ => ?_⟩
    rw [← n_inj (drop_nodup G.N x) hq hp e1]
    exact e2
  · obtain ⟨p, hp, e, _⟩ := mem_ofHue.mp hy
    exact List.mem_map.mpr ⟨p, hp, e⟩
theorem go_ok {R : List Pr} (G : Good R) {x : Nat} (hx : x ∈ R.map (·.n)) : Good (go R x).2 ∧ ((go R x).2.map nlr).Perm ((drop R x).map nlr) := by
  unfold go
  by_cases c : cnt (drop R x) = cnt R
  · rw [if_pos c]
    exact ⟨⟨G.P.sub fun q hq => (mem_drop.mp hq).1, drop_nodup G.N x, fun p hp => by show p.h < cnt (drop R x); rw [c]; exact G.H p (mem_drop.mp hp).1⟩, List.Perm.refl _⟩
  · rw [if_neg c]
    obtain ⟨a, b⟩ := goL_ok (go_start G hx c)
    refine ⟨⟨a.P, a.N, fun p hp => ?_⟩, b⟩
    have h1 := a.H p hp
    have h2 := a.I p hp
    rw [perm_cnt b]
    have : p.h ≠ cnt (drop R x) := fun z => by
      have := h2.mp z
      simp at this
    omega
/-! ### at each fullest end each hue is had -/
theorem Good.full {R : List Pr} (G : Good R) {s e h : Nat} (hs : s < 2) (hd : deg R s e = cnt R) (hh : h < cnt R) : ∃ p ∈ R, p.e s = e ∧ p.h = h := by
  by_cases c : ∃ p ∈ R, p.e s = e ∧ p.h = h
  · exact c
  · exfalso
    have nd : ((R.filter fun p => decide (p.e s = e)).map (·.h)).Nodup := by
      have nR : R.Nodup := by
        have := G.N
        rw [List.nodup_iff_pairwise_ne, List.pairwise_map] at this
        exact List.nodup_iff_pairwise_ne.mpr (this.imp fun h z => h (by rw [z]))
      rw [List.nodup_iff_pairwise_ne, List.pairwise_map]
      refine List.Pairwise.imp_of_mem (fun ha hb hn z => hn ?_) (List.nodup_iff_pairwise_ne.mp (List.filter_sublist.nodup nR))
      obtain ⟨a1, a2⟩ := List.mem_filter.mp ha
      obtain ⟨b1, b2⟩ := List.mem_filter.mp hb
      exact G.P _ a1 _ b1 s hs ((of_decide_eq_true a2).trans (of_decide_eq_true b2).symm) z
    have sub : ∀ x ∈ ((R.filter fun p => decide (p.e s = e)).map (·.h)), x ∈ (List.range (cnt R)).erase h := by
      intro x hx
      obtain ⟨p, hp, rfl⟩ := List.mem_map.mp hx
      obtain ⟨a1, a2⟩ := List.mem_filter.mp hp
      have ne : p.h ≠ h := fun z => c ⟨p, a1, of_decide_eq_true a2, z⟩
      exact (List.mem_erase_of_ne ne).mpr (List.mem_range.mpr (G.H p a1))
    have a := nodup_len nd sub
    rw [List.length_map, ← deg_filter, hd, List.length_erase_of_mem (List.mem_range.mpr hh), List.length_range] at a
    omega
end Mt

set_option Elab.async false
set_option linter.all false
set_option maxRecDepth 100000
set_option maxHeartbeats 1000000
namespace Own
open PySem PySem.Spec PyProof.Rows L2 StX
/-! more rules with the written part named -/
section
def rSortI (K : PySem.W.Frag) : List V → Hp → VK → Prop := fun xs H Q => ∃ (a : Addr) (kvs : List (Key × V)) (ks : List Int), xs = [.ref a] ∧ Rd H a (.dK kvs) ∧ kvs.map (·.1) = ks.map Sum.inl ∧ ks.length < 64 ∧
  ∀ (ys : List Int) (p : Addr), ys.Perm ks → ys.Pairwise (· ≤ ·) → H p = none → Q (.ref p) (upd H p (.lst (ys.map V.int)))
theorem sortD (K : PySem.W.Frag) {X : Cx} (hc : X.calm = true) : CallR X (.builtin "sorted") (rSortI K) := call_sortedDI hc
theorem sortL (K : PySem.W.Frag) {X : Cx} (h : X.K = K := by rfl) : CallR X (.builtin "sorted") (rSorted K) := by
  subst h
  exact cr_sorted
theorem allL (K : PySem.W.Frag) {X : Cx} (hc : X.calm = true) (h : X.K = K := by rfl) : CallR X (.builtin "all") (rAll K) := by
  subst h
  exact cr_all hc
theorem starC (K : PySem.W.Frag) {X : Cx} {e : Expr} {es : List Expr} {te : TE} {t : TA} {p : Pos} (he : PE X e te) (hr : PA X es t) (h : X.K = K := by rfl)
    (hs : starEach (.Starred e p :: es) X.env = (true, eval e X.env) :: starEach es X.env := by rfl) : PA X (.Starred e p :: es) (tStar K te t) := by
  subst h
  exact pa_star he hr hs
theorem typ1 (K : PySem.W.Frag) {X : Cx} (h : X.K = K := by rfl) : CallR X (.type "type") (rTyp K) := by
  subst h
  exact call_type1
end
/-! type(x) == T -/
def tyNames : List String := ["int", "str", "bool", "NoneType", "list", "tuple", "dict", "bytes"]
theorem ty_meta {T : String} (h : T ∈ tyNames) (s : Shared) : s.TypeIs (.type T) "type" := by
  simp only [tyNames, List.mem_cons, List.not_mem_nil, or_false] at h
  rcases h with rfl | rfl | rfl | rfl | rfl | rfl | rfl | rfl <;> (show typeOf _ = _; kernel_rfl)
theorem TyB.name {K : PySem.W.Frag} {H : Hp} {x : V} {T : String} (t : TyB K H x T) : T ∈ tyNames := by
  cases t <;> simp [tyNames]
def rEqTy : R2 := fun x y H Q => ∃ a b : String, x = .ty a ∧ y = .ty b ∧ a ∈ tyNames ∧ b ∈ tyNames ∧ Q (.bl (decide (a = b))) H
def rNeTy : R2 := fun x y H Q => ∃ a b : String, x = .ty a ∧ y = .ty b ∧ a ∈ tyNames ∧ b ∈ tyNames ∧ Q (.bl (!decide (a = b))) H
section
variable {X : Cx}
theorem op_eqTy : OpR X (compareOp .Eq) rEqTy := by
  intro pins s σ H x y v u Q I rx ry h
  obtain ⟨a, b, rfl, rfl, ha, hb, q⟩ := h
  cases (show v = Value.type a from rx)
  cases (show u = Value.type b from ry)
  by_cases e : a = b
  · subst e
    rw [decide_eq_true rfl] at q
    exact PySem.TypeEq.eq_type_same (ty_meta ha) ⟨.bl true, H, I, rfl, q⟩
  · rw [decide_eq_false e] at q
    exact PySem.TypeEq.eq_type_other (ty_meta ha) (ty_meta hb) (by rw [beq_eq_false_iff_ne]; intro z; injection z with z; exact e z) ⟨.bl false, H, I, rfl, q⟩
end
/-! exceptions of the program -/
structure ExcO (K : PySem.W.Frag) (mg : Str → Option Value) (x : Str) (C : Addr) : Prop where
  g : mg x = some (.ref C)
  x : PySem.W.excIn K C [.type "ValueError", .type "Exception", .type "BaseException", .type "object"] "ValueError.__new__" = true
  k : PySem.W.keepIn K (.ref C) = true
  b : PySem.W.subIn K (.ref C) (.type "BaseException") = some true
  t : PySem.W.typeIn K (.ref C) = some (.type "type")
end Own

set_option Elab.async false
set_option linter.all false
set_option maxRecDepth 100000
set_option maxHeartbeats 1000000
namespace Own
open PySem PySem.Spec PyProof.Rows L2 Mt
section
variable {X : Cx}
/-- a constant of the module, told up to its token -/
theorem pe_gi {x : Str} {i : Int} {pos : Pos} (hg : Gl X x) (hm : ∃ t, X.mg x = some (.int i t)) (hd : (x == ("__debug__" : Str)) = false := by decide) : PE X (.Name x pos) (tC (.int i)) := by
  obtain ⟨t, h⟩ := hm
  exact pe_glob hg h ⟨t, rfl⟩ hd
theorem pe_gs {x : Str} {z : Str} {pos : Pos} (hg : Gl X x) (hm : ∃ t, X.mg x = some (.str z t)) (hd : (x == ("__debug__" : Str)) = false := by decide) : PE X (.Name x pos) (tC (.str z)) := by
  obtain ⟨t, h⟩ := hm
  exact pe_glob hg h ⟨t, rfl⟩ hd
end
/-! what stands for pairs, tables -/
section
variable {K : PySem.W.Frag} {H H' : Hp} {W : Tbs} {S : List Addr}
theorem pget {α β : Type} {G : α → β → Prop} : ∀ {l : List α} {m : List β}, Paired G l m → ∀ {i : Nat} {b : β}, m[i]? = some b → ∃ a, l[i]? = some a ∧ G a b
  | _, _, .nil, i, b, h => by simp at h
  | _, _, .cons r t, 0, b, h => by
    cases h
    exact ⟨_, rfl, r⟩
  | _, _, .cons r t, i + 1, b, h => by
    obtain ⟨a, h1, h2⟩ := pget t (i := i) (b := b) (by simpa using h)
    exact ⟨a, by simpa using h1, h2⟩
theorem pon {α β : Type} {G : α → β → Prop} : ∀ {l : List α} {m : List β}, Paired G l m → ∀ {i : Nat} {a : α}, l[i]? = some a → ∃ b, m[i]? = some b ∧ G a b
  | _, _, .nil, i, b, h => by simp at h
  | _, _, .cons r t, 0, b, h => by
    cases h
    exact ⟨_, rfl, r⟩
  | _, _, .cons r t, i + 1, b, h => by
    obtain ⟨a, h1, h2⟩ := pon t (i := i) (a := b) (by simpa using h)
    exact ⟨a, by simpa using h1, h2⟩
theorem papp {α β : Type} {G : α → β → Prop} : ∀ {l l' : List α} {m m' : List β}, Paired G l m → Paired G l' m' → Paired G (l ++ l') (m ++ m')
  | _, _, _, _, .nil, h => h
  | _, _, _, _, .cons r t, h => .cons r (papp t h)
/-- an entry of the dict of the pairs -/
def DEnt (K : PySem.W.Frag) (H : Hp) (kv : Key × V) (p : Pr) : Prop := ∃ a : Addr, kv = (Sum.inl (p.n : Int), .ref a) ∧ SqT K H a [.int p.l, .int p.r, .int p.h]
abbrev DEach (K : PySem.W.Frag) (H : Hp) : List (Key × V) → List Pr → Prop := Paired (DEnt K H)
theorem Fx.deach (x : Fx W S H H') {kvs : List (Key × V)} {R : List Pr} (h : DEach K H kvs R) : DEach K H' kvs R :=
  Paired.mapP h fun _ _ ⟨a, e, t⟩ => ⟨a, e, x.tup t⟩
theorem DEach.len {kvs : List (Key × V)} {R : List Pr} (h : DEach K H kvs R) : kvs.length = R.length := Paired.length h
theorem DEach.keys : ∀ {kvs : List (Key × V)} {R : List Pr}, DEach K H kvs R → kvs.map (·.1) = R.map (fun p => (Sum.inl (p.n : Int) : Key))
  | _, _, .nil => rfl
  | _, _, .cons ⟨a, e, _⟩ t => by
    rw [List.map_cons, List.map_cons, DEach.keys t, e]
theorem DEach.val : ∀ {kvs : List (Key × V)} {R : List Pr} {x : Nat}, DEach K H kvs R → (pairOf R x = none ∧ valV kvs (Sum.inl (x : Int)) = none) ∨
    ∃ p a, pairOf R x = some p ∧ valV kvs (Sum.inl (x : Int)) = some (.ref a) ∧ SqT K H a [.int p.l, .int p.r, .int p.h]
  | _, _, x, .nil => .inl ⟨rfl, rfl⟩
  | _, _, x, .cons (b := p) ⟨a, e, t⟩ r => by
    by_cases c : p.n = x
    · refine .inr ⟨p, a, ?_, ?_, t⟩
      · unfold pairOf
        rw [List.find?_cons, decide_eq_true c]
      · rw [e]
        exact valV_pos (by rw [c])
    · have n1 : ¬ (Sum.inl (p.n : Int) : Key) = Sum.inl (x : Int) := fun z => c (by have := Sum.inl.inj z; omega)
      have h2 : ∀ qs, pairOf (p :: qs) x = pairOf qs x := fun qs => by
        unfold pairOf
        rw [List.find?_cons, decide_eq_false c]
      rw [e, h2, valV_neg n1]
      exact DEach.val r
theorem DEach.in {kvs : List (Key × V)} {R : List Pr} (h : DEach K H kvs R) {p : Pr} (N : (R.map (·.n)).Nodup) (hp : p ∈ R) :
    ∃ a, valV kvs (Sum.inl (p.n : Int)) = some (.ref a) ∧ SqT K H a [.int p.l, .int p.r, .int p.h] := by
  rcases h.val (x := p.n) with ⟨h1, _⟩ | ⟨q, a, h1, h2, h3⟩
  · rw [pairOf_is N hp] at h1
    cases h1
  · rw [pairOf_is N hp] at h1
    cases h1
    exact ⟨a, h2, h3⟩
theorem DEach.no {kvs : List (Key × V)} {R : List Pr} (h : DEach K H kvs R) {x : Nat} (hx : x ∉ R.map (·.n)) : valV kvs (Sum.inl (x : Int)) = none := by
  rcases h.val (x := x) with ⟨_, h2⟩ | ⟨p, a, h1, _⟩
  · exact h2
  · obtain ⟨h3, h4⟩ := pairOf_some h1
    exact absurd (List.mem_map.mpr ⟨p, h3, h4⟩) hx
theorem DEach.snoc {kvs : List (Key × V)} {R : List Pr} (h : DEach K H kvs R) {p : Pr} {a : Addr} (hp : p.n ∉ R.map (·.n)) (ha : SqT K H a [.int p.l, .int p.r, .int p.h]) :
    DEach K H (putK kvs (Sum.inl (p.n : Int)) (.ref a)) (R ++ [p]) := by
  rw [putK_new _ (h.no hp)]
  exact papp h (.cons ⟨a, rfl, ha⟩ .nil)
/-- the pair of the number x gets another hue, in its place -/
theorem DEach.set {kvs : List (Key × V)} {R : List Pr} (h : DEach K H kvs R) {q : Pr} {a : Addr} (hx : q.n ∈ R.map (·.n)) (ha : SqT K H a [.int q.l, .int q.r, .int q.h]) :
    DEach K H (putK kvs (Sum.inl (q.n : Int)) (.ref a)) (R.map fun p => if p.n = q.n then q else p) := by
  have e : (kvs.any fun kv => decide (kv.1 = (Sum.inl (q.n : Int) : Key))) = true := by
    rw [valV_any]
    rcases h.val (x := q.n) with ⟨h1, _⟩ | ⟨_, _, _, h2, _⟩
    · obtain ⟨p, hp, ep⟩ := List.mem_map.mp hx
      have := List.find?_eq_none.mp h1 p hp
      simp [ep] at this
    · rw [h2]
      rfl
  unfold putK
  rw [if_pos e]
  clear e hx
  induction h with
  | nil => exact .nil
  | @cons kv p ps qs g t ih =>
    rw [List.map_cons, List.map_cons]
    obtain ⟨b, rfl, tb⟩ := g
    refine .cons ?_ ih
    by_cases c : p.n = q.n
    · rw [if_pos c, if_pos (by rw [c])]
      exact ⟨a, by rw [c], ha⟩
    · rw [if_neg c, if_neg (fun z => c (by have := Sum.inl.inj z; omega))]
      exact ⟨b, rfl, tb⟩
theorem DEach.drop {kvs : List (Key × V)} {R : List Pr} (h : DEach K H kvs R) (x : Nat) : DEach K H (dropK kvs (Sum.inl (x : Int))) (Mt.drop R x) := by
  unfold dropK Mt.drop
  induction h with
  | nil => exact .nil
  | @cons kv p ps qs g t ih =>
    rw [List.filter_cons, List.filter_cons]
    obtain ⟨b, rfl, tb⟩ := g
    by_cases c : p.n = x
    · rw [if_neg (by simp [c]), if_neg (by simp [c])]
      exact ih
    · have n1 : ¬ (Sum.inl (p.n : Int) : Key) = Sum.inl (x : Int) := fun z => c (by have := Sum.inl.inj z; omega)
      rw [if_pos (decide_eq_true n1), if_pos (decide_eq_true c)]
      exact .cons ⟨b, rfl, tb⟩ ih
theorem DEach.vals : ∀ {kvs : List (Key × V)} {R : List Pr}, DEach K H kvs R → ∃ as : List Addr, kvs.map (·.2) = as.map V.ref ∧ Each K H as (R.map row)
  | _, _, .nil => ⟨[], rfl, .nil⟩
  | _, _, .cons ⟨a, e, t⟩ r => by
    obtain ⟨as, h1, h2⟩ := DEach.vals r
    exact ⟨a :: as, by rw [List.map_cons, h1, e]; rfl, .cons t h2⟩
/-- a table by (side, end, hue): for each key the number and the far end -/
abbrev key3 (s e h : Nat) : List Key := [Sum.inl (s : Int), Sum.inl (e : Int), Sum.inl (h : Int)]
structure TabOf (K : PySem.W.Frag) (H : Hp) (tk : List (List Key × V)) (R : List Pr) : Prop where
  no : ∀ s e h, s < 2 → at_ R s e h = none → valV tk (key3 s e h) = none
  so : ∀ s e h p, s < 2 → at_ R s e h = some p → ∃ a, valV tk (key3 s e h) = some (.ref a) ∧ SqT K H a [.int p.n, .int (p.e (1 - s))]
  len : tk.length ≤ 2 * R.length
theorem Fx.tabOf (x : Fx W S H H') {tk : List (List Key × V)} {R : List Pr} (h : TabOf K H tk R) : TabOf K H' tk R :=
  ⟨h.no, fun s e g p hs a => let ⟨b, h1, h2⟩ := h.so s e g p hs a; ⟨b, h1, x.tup h2⟩, h.len⟩
theorem TabOf.nil : TabOf K H [] [] := ⟨fun _ _ _ _ _ => rfl, fun s e h p _ a => (by rw [at_nil] at a; cases a), Nat.le_refl _⟩
theorem key3_inj {s e h s' e' h' : Nat} (z : key3 s e h = key3 s' e' h') : s = s' ∧ e = e' ∧ h = h' := by
  have h1 := List.cons.inj z
  have h2 := List.cons.inj h1.2
  have h3 := List.cons.inj h2.2
  have a := Sum.inl.inj h1.1
  have b := Sum.inl.inj h2.1
  have c := Sum.inl.inj h3.1
  omega
/-- one more pair is told at both of its ends -/
theorem TabOf.snoc {tk : List (List Key × V)} {R : List Pr} {p : Pr} {a b : Addr} (h : TabOf K H tk R) (ha : SqT K H a [.int p.n, .int p.r]) (hb : SqT K H b [.int p.n, .int p.l]) :
    TabOf K H (putK (putK tk (key3 0 p.l p.h) (.ref a)) (key3 1 p.r p.h) (.ref b)) (R ++ [p]) := by
  have look : ∀ s e g, valV (putK (putK tk (key3 0 p.l p.h) (.ref a)) (key3 1 p.r p.h) (.ref b)) (key3 s e g) =
      if s = 1 ∧ e = p.r ∧ g = p.h then some (.ref b) else if s = 0 ∧ e = p.l ∧ g = p.h then some (.ref a) else valV tk (key3 s e g) := by
    intro s e g
    rw [valV_put, valV_put]
    by_cases c1 : s = 1 ∧ e = p.r ∧ g = p.h
    · rw [if_pos c1, if_pos (by rw [c1.1, c1.2.1, c1.2.2])]
    · rw [if_neg c1, if_neg (fun z => c1 (key3_inj z))]
      by_cases c0 : s = 0 ∧ e = p.l ∧ g = p.h
      · rw [if_pos c0, if_pos (by rw [c0.1, c0.2.1, c0.2.2])]
      · rw [if_neg c0, if_neg (fun z => c0 (key3_inj z))]
  refine ⟨fun s e g hs h1 => ?_, fun s e g q hs h1 => ?_, ?_⟩
  · rw [at_snoc] at h1
    rw [look]
    have nc : ¬ (p.e s = e ∧ p.h = g) := fun c => by rw [if_pos c] at h1; cases h1
    rw [if_neg nc] at h1
    rw [if_neg, if_neg]
    · exact h.no s e g hs h1
    · rintro ⟨rfl, rfl, rfl⟩
      exact nc ⟨rfl, rfl⟩
    · rintro ⟨rfl, rfl, rfl⟩
      exact nc ⟨rfl, rfl⟩
  · rw [at_snoc] at h1
    rw [look]
    match s, hs with
    | 0, _ =>
      rw [if_neg (by omega)]
      by_cases c : p.e 0 = e ∧ p.h = g
      · rw [if_pos c] at h1
        cases h1
        rw [if_pos ⟨rfl, c.1.symm, c.2.symm⟩]
        exact ⟨a, rfl, ha⟩
      · rw [if_neg c] at h1
        rw [if_neg (fun z => c ⟨z.2.1.symm, z.2.2.symm⟩)]
        exact h.so 0 e g q (by decide) h1
    | 1, _ =>
      by_cases c : p.e 1 = e ∧ p.h = g
      · rw [if_pos c] at h1
        cases h1
        rw [if_pos ⟨rfl, c.1.symm, c.2.symm⟩]
        exact ⟨b, rfl, hb⟩
      · rw [if_neg c] at h1
        rw [if_neg (fun z => c ⟨z.2.1.symm, z.2.2.symm⟩), if_neg (by omega)]
        exact h.so 1 e g q (by decide) h1
  · have := h.len
    have := length_putK (putK tk (key3 0 p.l p.h) (.ref a)) (key3 1 p.r p.h) (.ref b)
    have := length_putK tk (key3 0 p.l p.h) (.ref a)
    rw [List.length_append, List.length_singleton]
    omega
end
theorem take_one {α : Type} {l : List α} {i : Nat} {x : α} (h : l[i]? = some x) : l.take (i + 1) = l.take i ++ [x] := by
  rw [List.take_add_one, h]
  rfl
theorem small1000' {n : Nat} (h : n ≤ 2000) : n < sizeLine := Nat.lt_of_le_of_lt h (by decide)
theorem at_sd {r : List Int} {sd : Nat} (h : sd < r.length) : atI (r.map V.int) (sd : Int) = some (V.int (r.getD sd 0)) := by
  refine atI_nat ?_
  rw [List.getElem?_map, List.getD_eq_getElem?_getD, List.getElem?_eq_getElem h]
  rfl
theorem in_ints (z : Int) : ∀ l : List Int, inV (.int z) (l.map V.int) = decide (z ∈ l)
  | [] => rfl
  | y :: r => by
    have h := in_ints z r
    unfold inV at h ⊢
    rw [List.map_cons, List.any_cons, h, Bool.eq_iff_iff]
    simp only [Bool.or_eq_true, decide_eq_true_eq, List.mem_cons]
    have e : eqV (V.int y) (V.int z) = true ↔ z = y := by
      show (y == z) = true ↔ _
      rw [beq_iff_eq]
      exact eq_comm
    rw [e]
theorem flat_ints (l : List Int) : (l.map V.int).all flatV = true := by
  rw [List.all_map, List.all_eq_true]
  intro x _
  rfl

/-- a list of Nats, as values -/
abbrev vN (l : List Nat) : List V := l.map fun n : Nat => V.int (n : Int)
theorem vN_ints (l : List Nat) : vN l = (l.map fun n : Nat => (n : Int)).map V.int := by
  rw [List.map_map]
  rfl
theorem vN_get {l : List Nat} {i : Nat} {y : V} (h : (vN l)[i]? = some y) : ∃ n, l[i]? = some n ∧ y = .int (n : Int) := by
  rw [List.getElem?_map] at h
  obtain ⟨n, h1, h2⟩ := Option.map_eq_some_iff.mp h
  exact ⟨n, h1, h2.symm⟩
theorem in_vN (n : Nat) (l : List Nat) : inV (.int (n : Int)) (vN l) = decide (n ∈ l) := by
  rw [vN_ints, in_ints, Bool.eq_iff_iff, decide_eq_true_eq, decide_eq_true_eq]
  constructor
  · intro h
    obtain ⟨m, h1, h2⟩ := List.mem_map.mp h
    have : m = n := by omega
    rw [← this]
    exact h1
  · exact fun h => List.mem_map.mpr ⟨n, h, rfl⟩
theorem flat_vN (l : List Nat) : (vN l).all flatV = true := by
  rw [vN_ints]
  exact flat_ints _
end Own

set_option Elab.async false
set_option linter.all false
set_option maxRecDepth 100000
namespace Own
open PySem PySem.Spec PyProof.Rows L2
/-! isinstance of the caught error, whatever class it turns out to be of -/
def rIsEg (K : PySem.W.Frag) (cls : Value) (d : Option Addr) (a : Addr) : List V → Hp → VK → Prop := fun xs H Q => ∃ D, cls = .ref D ∧ d = none ∧ ExcC K D ∧ rIsE K D a xs H Q
theorem isEg (K : PySem.W.Frag) {X : Cx} {a : Addr} {cls : Value} {d : Option Addr} {oe : Obj} {pn : List (Addr × Obj)} (hz : Zc cls d oe) (hf : ∃ vs, oe.data = .fields vs) (h : X.K = K := by rfl) :
    CallR (X.suite a ((a, oe) :: pn)) (.builtin "isinstance") (rIsEg K cls d a) := by
  subst h
  intro pins s σ H xs us Q I r h
  obtain ⟨D, rfl, rfl, C, q⟩ := h
  exact call_isE C hz hf pins s σ H xs us Q I r q
/-! a tuple as the target of a comprehension -/
theorem pg_tupK (K : PySem.W.Frag) (n : Nat) {X : Cx} {es : List Expr} {k : Nat} {pos : Pos} {t : TGs} (hc : X.calm = true) (h : PGs X es t) (hK : X.K = K := by rfl)
    (hn : (assignEach es X.env).length = n := by rfl) (hst : (assignEach es X.env).findIdx? (·.1) = none := by rfl) : PG X (.Tuple es k pos) (gTup K n t) := by
  subst hK
  exact pg_tup hc h hn hst
end Own

set_option Elab.async false
set_option linter.all false
set_option maxRecDepth 100000
set_option maxHeartbeats 4000000
namespace My
open PySem PySem.Spec PyProof.Rows L2 Own
def topS (i : Nat) : Stmt := PySem.Challenge.pw_pairhues_k09_whole_lists_hued.main.body.getD i (.Pass ⟨0, 0, 0, 0⟩)
abbrev s_wall : Stmt := topS 0
abbrev N_wall : List Str := ["k"]
theorem sc_wall : FnScope N_wall ["k"] (defScope s_wall) := ⟨rfl, rfl, rfl, by decide +kernel, rfl, by decide +kernel, by decide +kernel⟩
abbrev s_count_of : Stmt := topS 5
abbrev N_count_of : List Str := ["rows"]
theorem sc_count_of : FnScope N_count_of ["rows"] (defScope s_count_of) := ⟨rfl, rfl, rfl, by decide +kernel, rfl, by decide +kernel, by decide +kernel⟩
abbrev s_is_good : Stmt := topS 6
abbrev N_is_good : List Str := ["rows", "count"]
theorem sc_is_good : FnScope N_is_good ["rows"] (defScope s_is_good) := ⟨rfl, rfl, rfl, by decide +kernel, rfl, by decide +kernel, by decide +kernel⟩
abbrev s_most_at : Stmt := topS 7
abbrev N_most_at : List Str := ["rows", "side", "met", "row", "end"]
theorem sc_most_at : FnScope N_most_at ["rows", "side"] (defScope s_most_at) := ⟨rfl, rfl, rfl, by decide +kernel, rfl, by decide +kernel, by decide +kernel⟩
abbrev s_hues_differ : Stmt := topS 8
abbrev N_hues_differ : List Str := ["rows", "side", "row"]
theorem sc_hues_differ : FnScope N_hues_differ ["rows", "side"] (defScope s_hues_differ) := ⟨rfl, rfl, rfl, by decide +kernel, rfl, by decide +kernel, by decide +kernel⟩
abbrev s_table_of : Stmt := topS 10
abbrev N_table_of : List Str := ["rows", "table", "number", "left", "right", "hue"]
theorem sc_table_of : FnScope N_table_of ["rows"] (defScope s_table_of) := ⟨rfl, rfl, rfl, by decide +kernel, rfl, by decide +kernel, by decide +kernel⟩
abbrev s_free_at : Stmt := topS 11
abbrev N_free_at : List Str := ["table", "side", "end", "many", "hue"]
theorem sc_free_at : FnScope N_free_at ["table", "side", "end", "many"] (defScope s_free_at) := ⟨rfl, rfl, rfl, by decide +kernel, rfl, by decide +kernel, by decide +kernel⟩
abbrev s_chain_at : Stmt := topS 12
abbrev N_chain_at : List Str := ["table", "side", "end", "one", "other", "chain", "hue", "number", "far"]
theorem sc_chain_at : FnScope N_chain_at ["table", "side", "end", "one", "other"] (defScope s_chain_at) := ⟨rfl, rfl, rfl, by decide +kernel, rfl, by decide +kernel, by decide +kernel⟩
abbrev s_place : Stmt := topS 13
abbrev N_place : List Str := ["rows", "number", "left", "right", "many", "table", "at_left", "at_right", "at_both", "hue", "other", "chain", "ways"]
theorem sc_place : FnScope N_place ["rows", "number", "left", "right", "many"] (defScope s_place) := ⟨rfl, rfl, rfl, by decide +kernel, rfl, by decide +kernel, by decide +kernel⟩
abbrev s_far_side : Stmt := topS 14
abbrev N_far_side : List Str := ["side"]
theorem sc_far_side : FnScope N_far_side ["side"] (defScope s_far_side) := ⟨rfl, rfl, rfl, by decide +kernel, rfl, by decide +kernel, by decide +kernel⟩
abbrev s_ways : Stmt := topS 15
abbrev N_ways : List Str := ["table", "left", "right", "at_left", "at_right", "ways", "left_hue", "right_hue", "right_chain", "left_chain"]
theorem sc_ways : FnScope N_ways ["table", "left", "right", "at_left", "at_right"] (defScope s_ways) := ⟨rfl, rfl, rfl, by decide +kernel, rfl, by decide +kernel, by decide +kernel⟩
abbrev s_turn : Stmt := topS 16
abbrev N_turn : List Str := ["rows", "chain", "one", "other", "number", "left", "right", "had"]
theorem sc_turn : FnScope N_turn ["rows", "chain", "one", "other"] (defScope s_turn) := ⟨rfl, rfl, rfl, by decide +kernel, rfl, by decide +kernel, by decide +kernel⟩
abbrev s_Hall_init : Stmt := inClass (topS 29) 0
abbrev N_Hall_init : List Str := ["self", "lefts", "rights"]
theorem sc_Hall_init : FnScope N_Hall_init ["self", "lefts", "rights"] (defScope s_Hall_init) := ⟨rfl, rfl, rfl, by decide +kernel, rfl, by decide +kernel, by decide +kernel⟩
abbrev s_Hall_come : Stmt := inClass (topS 29) 1
abbrev N_Hall_come : List Str := ["self", "left", "right", "many", "number"]
theorem sc_Hall_come : FnScope N_Hall_come ["self", "left", "right"] (defScope s_Hall_come) := ⟨rfl, rfl, rfl, by decide +kernel, rfl, by decide +kernel, by decide +kernel⟩
abbrev s_Hall_go : Stmt := inClass (topS 29) 2
abbrev N_Hall_go : List Str := ["self", "number"]
theorem sc_Hall_go : FnScope N_Hall_go ["self", "number"] (defScope s_Hall_go) := ⟨rfl, rfl, rfl, by decide +kernel, rfl, by decide +kernel, by decide +kernel⟩
abbrev s_Hall_count : Stmt := inClass (topS 29) 3
abbrev N_Hall_count : List Str := ["self"]
theorem sc_Hall_count : FnScope N_Hall_count ["self"] (defScope s_Hall_count) := ⟨rfl, rfl, rfl, by decide +kernel, rfl, by decide +kernel, by decide +kernel⟩
abbrev s_Hall_pairs : Stmt := inClass (topS 29) 4
abbrev N_Hall_pairs : List Str := ["self", "number"]
theorem sc_Hall_pairs : FnScope N_Hall_pairs ["self"] (defScope s_Hall_pairs) := ⟨rfl, rfl, rfl, by decide +kernel, rfl, by decide +kernel, by decide +kernel⟩
abbrev s_Hall_hue_of : Stmt := inClass (topS 29) 5
abbrev N_Hall_hue_of : List Str := ["self", "number"]
theorem sc_Hall_hue_of : FnScope N_Hall_hue_of ["self", "number"] (defScope s_Hall_hue_of) := ⟨rfl, rfl, rfl, by decide +kernel, rfl, by decide +kernel, by decide +kernel⟩
abbrev s_Hall_of_hue : Stmt := inClass (topS 29) 6
abbrev N_Hall_of_hue : List Str := ["self", "hue"]
theorem sc_Hall_of_hue : FnScope N_Hall_of_hue ["self", "hue"] (defScope s_Hall_of_hue) := ⟨rfl, rfl, rfl, by decide +kernel, rfl, by decide +kernel, by decide +kernel⟩
abbrev s_Hall_free : Stmt := inClass (topS 29) 7
abbrev N_Hall_free : List Str := ["self", "side", "end", "at"]
theorem sc_Hall_free : FnScope N_Hall_free ["self", "side", "end"] (defScope s_Hall_free) := ⟨rfl, rfl, rfl, by decide +kernel, rfl, by decide +kernel, by decide +kernel⟩
abbrev s_Hall_fullest : Stmt := inClass (topS 29) 8
abbrev N_Hall_fullest : List Str := ["self", "many"]
theorem sc_Hall_fullest : FnScope N_Hall_fullest ["self"] (defScope s_Hall_fullest) := ⟨rfl, rfl, rfl, by decide +kernel, rfl, by decide +kernel, by decide +kernel⟩
abbrev s_Hall_chain : Stmt := inClass (topS 29) 9
abbrev N_Hall_chain : List Str := ["self", "side", "end", "one", "other", "at", "table"]
theorem sc_Hall_chain : FnScope N_Hall_chain ["self", "side", "end", "one", "other"] (defScope s_Hall_chain) := ⟨rfl, rfl, rfl, by decide +kernel, rfl, by decide +kernel, by decide +kernel⟩
abbrev s_Hall_check_end : Stmt := inClass (topS 29) 10
abbrev N_Hall_check_end : List Str := ["self", "side", "end"]
theorem sc_Hall_check_end : FnScope N_Hall_check_end ["self", "side", "end"] (defScope s_Hall_check_end) := ⟨rfl, rfl, rfl, by decide +kernel, rfl, by decide +kernel, by decide +kernel⟩
abbrev s_Hall_check_number : Stmt := inClass (topS 29) 11
abbrev N_Hall_check_number : List Str := ["self", "number"]
theorem sc_Hall_check_number : FnScope N_Hall_check_number ["self", "number"] (defScope s_Hall_check_number) := ⟨rfl, rfl, rfl, by decide +kernel, rfl, by decide +kernel, by decide +kernel⟩
abbrev s_Hall_check_hue : Stmt := inClass (topS 29) 12
abbrev N_Hall_check_hue : List Str := ["self", "hue"]
theorem sc_Hall_check_hue : FnScope N_Hall_check_hue ["self", "hue"] (defScope s_Hall_check_hue) := ⟨rfl, rfl, rfl, by decide +kernel, rfl, by decide +kernel, by decide +kernel⟩
abbrev s_Hall_numbers_of : Stmt := inClass (topS 29) 13
abbrev N_Hall_numbers_of : List Str := ["self", "hue"]
theorem sc_Hall_numbers_of : FnScope N_Hall_numbers_of ["self", "hue"] (defScope s_Hall_numbers_of) := ⟨rfl, rfl, rfl, by decide +kernel, rfl, by decide +kernel, by decide +kernel⟩
abbrev s_Hall_place_anew : Stmt := inClass (topS 29) 14
abbrev N_Hall_place_anew : List Str := ["self", "number", "many"]
theorem sc_Hall_place_anew : FnScope N_Hall_place_anew ["self", "number", "many"] (defScope s_Hall_place_anew) := ⟨rfl, rfl, rfl, by decide +kernel, rfl, by decide +kernel, by decide +kernel⟩
abbrev s_Hall_as_full : Stmt := inClass (topS 29) 15
abbrev N_Hall_as_full : List Str := ["self", "side", "many", "met", "row", "end"]
theorem sc_Hall_as_full : FnScope N_Hall_as_full ["self", "side", "many"] (defScope s_Hall_as_full) := ⟨rfl, rfl, rfl, by decide +kernel, rfl, by decide +kernel, by decide +kernel⟩
abbrev s_is_whole : Stmt := topS 30
abbrev N_is_whole : List Str := ["worth"]
theorem sc_is_whole : FnScope N_is_whole ["worth"] (defScope s_is_whole) := ⟨rfl, rfl, rfl, by decide +kernel, rfl, by decide +kernel, by decide +kernel⟩
abbrev s_is_within : Stmt := topS 31
abbrev N_is_within : List Str := ["worth", "low", "high"]
theorem sc_is_within : FnScope N_is_within ["worth", "low", "high"] (defScope s_is_within) := ⟨rfl, rfl, rfl, by decide +kernel, rfl, by decide +kernel, by decide +kernel⟩
abbrev s_side_of : Stmt := topS 32
abbrev N_side_of : List Str := ["word"]
theorem sc_side_of : FnScope N_side_of ["word"] (defScope s_side_of) := ⟨rfl, rfl, rfl, by decide +kernel, rfl, by decide +kernel, by decide +kernel⟩
abbrev s_hued : Stmt := topS 34
abbrev N_hued : List Str := ["lefts", "rights", "pairs", "hall", "left", "right", "number", "hue"]
theorem sc_hued : FnScope N_hued ["lefts", "rights", "pairs"] (defScope s_hued) := ⟨rfl, rfl, rfl, by decide +kernel, rfl, by decide +kernel, by decide +kernel⟩
abbrev s_l_cell_at : Stmt := topS 36
abbrev N_l_cell_at : List Str := ["_law_script", "_law_k"]
theorem sc_l_cell_at : FnScope N_l_cell_at ["_law_script", "_law_k"] (defScope s_l_cell_at) := ⟨rfl, rfl, rfl, by decide +kernel, rfl, by decide +kernel, by decide +kernel⟩
abbrev s_l_mixed : Stmt := topS 37
abbrev N_l_mixed : List Str := ["_law_cell", "_law_k"]
theorem sc_l_mixed : FnScope N_l_mixed ["_law_cell", "_law_k"] (defScope s_l_mixed) := ⟨rfl, rfl, rfl, by decide +kernel, rfl, by decide +kernel, by decide +kernel⟩
abbrev s_l_whole : Stmt := topS 38
abbrev N_l_whole : List Str := ["_law_found"]
theorem sc_l_whole : FnScope N_l_whole ["_law_found"] (defScope s_l_whole) := ⟨rfl, rfl, rfl, by decide +kernel, rfl, by decide +kernel, by decide +kernel⟩
abbrev s_l_sizes_by : Stmt := topS 39
abbrev N_l_sizes_by : List Str := ["_law_cell", "_law_some"]
theorem sc_l_sizes_by : FnScope N_l_sizes_by ["_law_cell"] (defScope s_l_sizes_by) := ⟨rfl, rfl, rfl, by decide +kernel, rfl, by decide +kernel, by decide +kernel⟩
abbrev s_l_ends : Stmt := topS 40
abbrev N_l_ends : List Str := ["_law_cell", "_law_sizes", "_law_rows", "_law_found", "_law_side", "_law_taken", "_law_row", "_law_every", "_law_some", "_law_end"]
theorem sc_l_ends : FnScope N_l_ends ["_law_cell", "_law_sizes", "_law_rows"] (defScope s_l_ends) := ⟨rfl, rfl, rfl, by decide +kernel, rfl, by decide +kernel, by decide +kernel⟩
abbrev s_l_pairs : Stmt := topS 41
abbrev N_l_pairs : List Str := ["_law_script", "_law_sizes", "_law_most", "_law_found", "_law_k", "_law_cell"]
theorem sc_l_pairs : FnScope N_l_pairs ["_law_script", "_law_sizes"] (defScope s_l_pairs) := ⟨rfl, rfl, rfl, by decide +kernel, rfl, by decide +kernel, by decide +kernel⟩
abbrev s_l_told : Stmt := topS 42
abbrev N_l_told : List Str := ["_law_sizes", "_law_pairs_here", "error"]
theorem sc_l_told : FnScope N_l_told ["_law_sizes", "_law_pairs_here"] (defScope s_l_told) := ⟨rfl, rfl, rfl, by decide +kernel, rfl, by decide +kernel, by decide +kernel⟩
abbrev s_l_hall : Stmt := topS 43
abbrev N_l_hall : List Str := ["_law_sizes", "_law_pairs_here", "_law_hall_here", "_law_left", "_law_right", "_law_number"]
theorem sc_l_hall : FnScope N_l_hall ["_law_sizes", "_law_pairs_here"] (defScope s_l_hall) := ⟨rfl, rfl, rfl, by decide +kernel, rfl, by decide +kernel, by decide +kernel⟩
abbrev s_law : Stmt := topS 44
abbrev N_law : List Str := ["_law_script", "_law_sizes", "_law_pairs_here", "_law_cell", "_law_due", "_law_at", "_law_odd", "_law_handed", "_law_found", "_law_hue", "_law_rows", "_law_pair", "_law_k", "_law_row"]
theorem sc_law : FnScope N_law ["_law_script"] (defScope s_law) := ⟨rfl, rfl, rfl, by decide +kernel, rfl, by decide +kernel, by decide +kernel⟩
/-- a def, called by its name -/
structure Df (K : PySem.W.Frag) (mg : Str → Option Value) (x : Str) (st : Stmt) (ps : List Str) (f : Addr) (fd : FuncData) : Prop where
  F : Fun K x x st f fd
  g : mg x = some (.ref f)
  b : Binds K fd ps []
/-- a method -/
structure Dm (K : PySem.W.Frag) (C : Addr) (x qual : Str) (st : Stmt) (ps : List Str) (f : Addr) (fd : FuncData) : Prop where
  F : Fun K x qual st f fd
  m : Meth K C x f
  b : Binds K fd ps []
structure Txt (K : PySem.W.Frag) (mg : Str → Option Value) where
  C_Hall : Addr
  E_PairError : Addr
  E_BadCount : Addr
  E_BadSide : Addr
  E_BadEnd : Addr
  E_TooMany : Addr
  E_NoPair : Addr
  E_BadHue : Addr
  E_NotFree : Addr
  f_wall : Addr
  d_wall : FuncData
  f_count_of : Addr
  d_count_of : FuncData
  f_is_good : Addr
  d_is_good : FuncData
  f_most_at : Addr
  d_most_at : FuncData
  f_hues_differ : Addr
  d_hues_differ : FuncData
  f_table_of : Addr
  d_table_of : FuncData
  f_free_at : Addr
  d_free_at : FuncData
  f_chain_at : Addr
  d_chain_at : FuncData
  f_place : Addr
  d_place : FuncData
  f_far_side : Addr
  d_far_side : FuncData
  f_ways : Addr
  d_ways : FuncData
  f_turn : Addr
  d_turn : FuncData
  f_Hall_init : Addr
  d_Hall_init : FuncData
  f_Hall_come : Addr
  d_Hall_come : FuncData
  f_Hall_go : Addr
  d_Hall_go : FuncData
  f_Hall_count : Addr
  d_Hall_count : FuncData
  f_Hall_pairs : Addr
  d_Hall_pairs : FuncData
  f_Hall_hue_of : Addr
  d_Hall_hue_of : FuncData
  f_Hall_of_hue : Addr
  d_Hall_of_hue : FuncData
  f_Hall_free : Addr
  d_Hall_free : FuncData
  f_Hall_fullest : Addr
  d_Hall_fullest : FuncData
  f_Hall_chain : Addr
  d_Hall_chain : FuncData
  f_Hall_check_end : Addr
  d_Hall_check_end : FuncData
  f_Hall_check_number : Addr
  d_Hall_check_number : FuncData
  f_Hall_check_hue : Addr
  d_Hall_check_hue : FuncData
  f_Hall_numbers_of : Addr
  d_Hall_numbers_of : FuncData
  f_Hall_place_anew : Addr
  d_Hall_place_anew : FuncData
  f_Hall_as_full : Addr
  d_Hall_as_full : FuncData
  f_is_whole : Addr
  d_is_whole : FuncData
  f_is_within : Addr
  d_is_within : FuncData
  f_side_of : Addr
  d_side_of : FuncData
  f_hued : Addr
  d_hued : FuncData
  f_l_cell_at : Addr
  d_l_cell_at : FuncData
  f_l_mixed : Addr
  d_l_mixed : FuncData
  f_l_whole : Addr
  d_l_whole : FuncData
  f_l_sizes_by : Addr
  d_l_sizes_by : FuncData
  f_l_ends : Addr
  d_l_ends : FuncData
  f_l_pairs : Addr
  d_l_pairs : FuncData
  f_l_told : Addr
  d_l_told : FuncData
  f_l_hall : Addr
  d_l_hall : FuncData
  f_law : Addr
  d_law : FuncData
  k_place : Addr
  p_place : Addr
  k_is_good : Addr
  p_is_good : Addr
  D_wall : Df K mg "_wall" s_wall ["k"] f_wall d_wall
  D_count_of : Df K mg "count_of" s_count_of ["rows"] f_count_of d_count_of
  D_is_good : Df K mg "is_good" s_is_good ["rows"] f_is_good d_is_good
  D_most_at : Df K mg "_most_at" s_most_at ["rows", "side"] f_most_at d_most_at
  D_hues_differ : Df K mg "_hues_differ" s_hues_differ ["rows", "side"] f_hues_differ d_hues_differ
  D_table_of : Df K mg "table_of" s_table_of ["rows"] f_table_of d_table_of
  D_free_at : Df K mg "free_at" s_free_at ["table", "side", "end", "many"] f_free_at d_free_at
  D_chain_at : Df K mg "chain_at" s_chain_at ["table", "side", "end", "one", "other"] f_chain_at d_chain_at
  D_place : Df K mg "place" s_place ["rows", "number", "left", "right", "many"] f_place d_place
  D_far_side : Df K mg "_far_side" s_far_side ["side"] f_far_side d_far_side
  D_ways : Df K mg "_ways" s_ways ["table", "left", "right", "at_left", "at_right"] f_ways d_ways
  D_turn : Df K mg "_turn" s_turn ["rows", "chain", "one", "other"] f_turn d_turn
  F_Hall_init : Fun K "__init__" "Hall.__init__" s_Hall_init f_Hall_init d_Hall_init
  b_Hall_init : Binds K d_Hall_init ["self", "lefts", "rights"] []
  D_Hall_come : Dm K C_Hall "come" "Hall.come" s_Hall_come ["self", "left", "right"] f_Hall_come d_Hall_come
  D_Hall_go : Dm K C_Hall "go" "Hall.go" s_Hall_go ["self", "number"] f_Hall_go d_Hall_go
  D_Hall_count : Dm K C_Hall "count" "Hall.count" s_Hall_count ["self"] f_Hall_count d_Hall_count
  D_Hall_pairs : Dm K C_Hall "pairs" "Hall.pairs" s_Hall_pairs ["self"] f_Hall_pairs d_Hall_pairs
  D_Hall_hue_of : Dm K C_Hall "hue_of" "Hall.hue_of" s_Hall_hue_of ["self", "number"] f_Hall_hue_of d_Hall_hue_of
  D_Hall_of_hue : Dm K C_Hall "of_hue" "Hall.of_hue" s_Hall_of_hue ["self", "hue"] f_Hall_of_hue d_Hall_of_hue
  D_Hall_free : Dm K C_Hall "free" "Hall.free" s_Hall_free ["self", "side", "end"] f_Hall_free d_Hall_free
  D_Hall_fullest : Dm K C_Hall "fullest" "Hall.fullest" s_Hall_fullest ["self"] f_Hall_fullest d_Hall_fullest
  D_Hall_chain : Dm K C_Hall "chain" "Hall.chain" s_Hall_chain ["self", "side", "end", "one", "other"] f_Hall_chain d_Hall_chain
  D_Hall_check_end : Dm K C_Hall "_check_end" "Hall._check_end" s_Hall_check_end ["self", "side", "end"] f_Hall_check_end d_Hall_check_end
  D_Hall_check_number : Dm K C_Hall "_check_number" "Hall._check_number" s_Hall_check_number ["self", "number"] f_Hall_check_number d_Hall_check_number
  D_Hall_check_hue : Dm K C_Hall "_check_hue" "Hall._check_hue" s_Hall_check_hue ["self", "hue"] f_Hall_check_hue d_Hall_check_hue
  D_Hall_numbers_of : Dm K C_Hall "_numbers_of" "Hall._numbers_of" s_Hall_numbers_of ["self", "hue"] f_Hall_numbers_of d_Hall_numbers_of
  D_Hall_place_anew : Dm K C_Hall "_place_anew" "Hall._place_anew" s_Hall_place_anew ["self", "number", "many"] f_Hall_place_anew d_Hall_place_anew
  D_Hall_as_full : Dm K C_Hall "_as_full" "Hall._as_full" s_Hall_as_full ["self", "side", "many"] f_Hall_as_full d_Hall_as_full
  D_is_whole : Df K mg "_is_whole" s_is_whole ["worth"] f_is_whole d_is_whole
  D_is_within : Df K mg "_is_within" s_is_within ["worth", "low", "high"] f_is_within d_is_within
  D_side_of : Df K mg "_side_of" s_side_of ["word"] f_side_of d_side_of
  D_hued : Df K mg "hued" s_hued ["lefts", "rights", "pairs"] f_hued d_hued
  D_l_cell_at : Df K mg "_law_cell_at" s_l_cell_at ["_law_script", "_law_k"] f_l_cell_at d_l_cell_at
  D_l_mixed : Df K mg "_law_mixed" s_l_mixed ["_law_cell", "_law_k"] f_l_mixed d_l_mixed
  D_l_whole : Df K mg "_law_whole" s_l_whole ["_law_found"] f_l_whole d_l_whole
  D_l_sizes_by : Df K mg "_law_sizes_by" s_l_sizes_by ["_law_cell"] f_l_sizes_by d_l_sizes_by
  D_l_ends : Df K mg "_law_ends" s_l_ends ["_law_cell", "_law_sizes", "_law_rows"] f_l_ends d_l_ends
  D_l_pairs : Df K mg "_law_pairs" s_l_pairs ["_law_script", "_law_sizes"] f_l_pairs d_l_pairs
  D_l_told : Df K mg "_law_told" s_l_told ["_law_sizes", "_law_pairs_here"] f_l_told d_l_told
  D_l_hall : Df K mg "_law_hall" s_l_hall ["_law_sizes", "_law_pairs_here"] f_l_hall d_l_hall
  D_law : Df K mg "law" s_law ["_law_script"] f_law d_law
  FC_place : FunC K "place" "place" s_place f_place d_place k_place
  FC_is_good : FunC K "is_good" "is_good" s_is_good f_is_good d_is_good k_is_good
  z_all : mg "all" = none
  z_bool : mg "bool" = none
  z_dict : mg "dict" = none
  z_enumerate : mg "enumerate" = none
  z_int : mg "int" = none
  z_isinstance : mg "isinstance" = none
  z_len : mg "len" = none
  z_list : mg "list" = none
  z_max : mg "max" = none
  z_min : mg "min" = none
  z_range : mg "range" = none
  z_set : mg "set" = none
  z_sorted : mg "sorted" = none
  z_str : mg "str" = none
  z_type : mg "type" = none
  z_zip : mg "zip" = none
  c_HUE : ∃ t, mg "HUE" = some (.int 2 t)
  c_LEFT : ∃ t, mg "LEFT" = some (.int 0 t)
  c_MOST_ENDS : ∃ t, mg "MOST_ENDS" = some (.int 8 t)
  c_MOST_PAIRS : ∃ t, mg "MOST_PAIRS" = some (.int 40 t)
  c_RIGHT : ∃ t, mg "RIGHT" = some (.int 1 t)
  cl_Hall : Cls K C_Hall
  g_Hall : mg "Hall" = some (.ref C_Hall)
  M_Hall : Mk K C_Hall f_Hall_init
  nA_ends : NoAttr K C_Hall "_ends"
  nA_rows : NoAttr K C_Hall "_rows"
  nA_next : NoAttr K C_Hall "_next"
  x_PairError : ExcO K mg "PairError" E_PairError
  x_BadCount : ExcO K mg "BadCount" E_BadCount
  x_BadSide : ExcO K mg "BadSide" E_BadSide
  x_BadEnd : ExcO K mg "BadEnd" E_BadEnd
  x_TooMany : ExcO K mg "TooMany" E_TooMany
  x_NoPair : ExcO K mg "NoPair" E_NoPair
  x_BadHue : ExcO K mg "BadHue" E_BadHue
  x_NotFree : ExcO K mg "NotFree" E_NotFree
  q_BadEnd : ExcC K E_BadEnd
  q_TooMany : ExcC K E_TooMany
  i_BadEnd_BadEnd : PySem.W.kitOne K (.ref E_BadEnd) (.ref E_BadEnd) = some true
  i_BadEnd_TooMany : PySem.W.kitOne K (.ref E_BadEnd) (.ref E_TooMany) = some false
  i_TooMany_BadEnd : PySem.W.kitOne K (.ref E_TooMany) (.ref E_BadEnd) = some false
  i_TooMany_TooMany : PySem.W.kitOne K (.ref E_TooMany) (.ref E_TooMany) = some true
  e_BadEnd_PairError : PySem.W.exmOne K (.ref E_BadEnd) (.ref E_PairError) = some true
  e_TooMany_PairError : PySem.W.exmOne K (.ref E_TooMany) (.ref E_PairError) = some true
end My

set_option Elab.async false
set_option linter.all false
set_option maxRecDepth 100000
set_option maxHeartbeats 4000000
namespace My
open PySem PySem.Spec PyProof.Rows L2 Own Mt
section
variable {P : Program} {w : World} {K : PySem.W.Frag} {mg : Str → Option Value} {base : Heap} {W : Tbs}
def spFar : Sp := fun vs H Q _ => ∃ s : Nat, vs = [.int (s : Nat)] ∧ s < 2 ∧ Q (.int ((1 - s : Nat) : Int)) H
theorem ok_far_side (T : Txt K mg) : FnOk P w K mg base CX0 1 T.f_far_side T.d_far_side ["side"] spFar := by
  refine T.D_far_side.F.ok sc_far_side (fun vs H Q E h => ?_) (fun cdv A outer s H vs Q E hr h => ?_)
  · obtain ⟨s, rfl, _⟩ := h
    rfl
  · obtain ⟨sd, rfl, hs, q⟩ := h
    refine ⟨_, (pss_one (ps_ret (pe_ifExp (pt_cmpR op_eq (pv 0) (pe_gi rfl T.c_LEFT) (nomark _)) (pe_gi rfl T.c_RIGHT) (pe_gi rfl T.c_LEFT)))), ?_⟩
    refine ⟨_, rfl, rfl, _, rfl, ?_⟩
    match sd, hs with
    | 0, _ => exact iteT q
    | 1, _ => exact iteF q
def spTable (K : PySem.W.Frag) (W : Tbs) : Sp := fun vs H Q _ => ∃ (d : Addr) (kvs : List (Key × V)) (R : List Pr), vs = [.ref d] ∧ H d = some (.dK kvs) ∧ DEach K H kvs R ∧ R.length ≤ 100 ∧
  ∀ p tk H', H p = none → Ext W H H' → H' p = some (.dT tk) → TabOf K H' tk R → Q (.ref p) H'
theorem ok_table_of (T : Txt K mg) : FnOk P w K mg base CX0 1 T.f_table_of T.d_table_of ["rows"] (spTable K W) := by
  refine T.D_table_of.F.ok sc_table_of (fun vs H Q E h => ?_) (fun cdv A outer s H vs Q E hr h => ?_)
  · obtain ⟨d, kvs, R, rfl, _⟩ := h
    rfl
  · obtain ⟨d, kvs, R, rfl, hd, hE, few, q⟩ := h
    refine ⟨_, (pss_cons (ps_set (i := 1) sc_table_of.nd rfl (.inl rfl) pe_dnewT)
    (pss_cons (ps_lock (ps_for PassesOwn.never rfl (pi_items (pv 0)) (pg_tup rfl (pgs_cons (pg_name (i := 2) sc_table_of.nd rfl (.inl rfl)) (pgs_cons (pg_tup rfl (pgs_cons (pg_name (i := 3) sc_table_of.nd rfl (.inl rfl)) (pgs_cons (pg_name (i := 4) sc_table_of.nd rfl (.inl rfl)) (pgs_cons (pg_name (i := 5) sc_table_of.nd rfl (.inl rfl)) pgs_nil)))) pgs_nil))) 
      (pss_cons (ps_dput (hu_of hr) (pv 1) (pe_tup (pa_cons (pe_gi rfl T.c_LEFT) (pa_cons (pv 3) (pa_cons (pv 5) pa_nil)))) (pe_tup (pa_cons (pv 2) (pa_cons (pv 4) pa_nil))) rfl)
      (pss_one (ps_dput (hu_of hr) (pv 1) (pe_tup (pa_cons (pe_gi rfl T.c_RIGHT) (pa_cons (pv 4) (pa_cons (pv 5) pa_nil)))) (pe_tup (pa_cons (pv 2) (pa_cons (pv 3) pa_nil))) rfl)))))
    (pss_one (ps_ret (pv 1))))), ?_⟩
    intro p np
    refine newO W np fun H0 x0 hp => ?_
    have hd0 := x0.dk hd
    have hE0 := x0.deach hE
    have npd : p ≠ d := (ne_of_none hd np).symm
    refine ⟨d, _, hd0, trivial, fun od => ?_⟩
    refine ⟨_, rfl, d, od, kvs, rfl, upd_same, for_it walk_items (fun i σ H2 => ∃ (v2 v3 v4 v5 : Option V) (tk : List (List Key × V)), σ = [some (.ref d), some (.ref p), v2, v3, v4, v5] ∧
      Fx W [p] (upd H0 d (.frz od (.dK kvs))) H2 ∧ H2 p = some (.dT tk) ∧ TabOf K H2 tk (R.take i))
      ⟨none, none, none, none, [], rfl, .refl, by rw [upd_ne npd]; exact hp, .nil⟩ (fun i σ H2 _ ⟨_, _, _, _, _, _, x, _⟩ => x.fz upd_same (by simpa using npd.symm)) ?_ ?_⟩
    · rintro i y σ H2 H3 hi ⟨v2, v3, v4, v5, tk, rfl, x, hp2, hT⟩ ⟨T0, a, b, rfl, nT0, rfl, ha, hb⟩
      obtain ⟨kv, hkv, rfl⟩ := Option.map_eq_some_iff.mp ha
      have hb : Option.map Prod.snd kvs[i]? = some b := hb
      rw [hkv] at hb
      cases hb
      obtain ⟨pr, hpr, c, e, hc⟩ := pon hE0 hkv
      rw [e]
      have hl : tk.length < sizeLine := by
        have h1 := hT.len
        have h2 := (List.getElem?_eq_some_iff.mp hpr).1
        rw [List.length_take] at h1
        exact small1000 (by omega)
      have hl2 : ∀ v, (putK tk (key3 0 pr.l pr.h) v).length < sizeLine := fun v => by
        have h1 := hT.len
        have h2 := (List.getElem?_eq_some_iff.mp hpr).1
        have h3 := length_putK tk (key3 0 pr.l pr.h) v
        rw [List.length_take] at h1
        exact small1000 (by omega)
      refine newO W (H := H2) (p := T0) nT0 fun H4 x4 hT0 => ?_
      have hcd : SqT K (upd H0 d (.frz od (.dK kvs))) c [.int pr.l, .int pr.r, .int pr.h] := tup_upd hd0 (fun _ z => by cases z) (fun _ _ z => by cases z) hc
      have hc4 := x4.tup (x.tup hcd)
      refine ⟨T0, _, rfl, .inl (.inl hT0), rfl, _, _, rfl, _, _, rfl, c, _, rfl, hc4, rfl, _, _, rfl, _, _, rfl, _, _, rfl, rfl, rfl, ?_⟩
      -- table[LEFT, left, hue] = (number, right)
      refine ⟨_, rfl, _, rfl, by show 2 ≤ sizeLine; decide, fun t1 nt1 => ?_⟩
      refine newO W (H := H4) (p := t1) nt1 fun H5 x5 ht1 => ?_
      refine ⟨_, rfl, _, rfl, _, rfl, by show 3 ≤ sizeLine; decide, fun k1 nk1 => ?_⟩
      refine newO W (H := H5) (p := k1) nk1 fun H6 x6 hk1 => ?_
      have hp6 := x6.dt (x5.dt (x4.dt hp2))
      refine ⟨p, _, rfl, DPut.t (k := key3 0 pr.l pr.h) hp6 hk1 hl, ?_⟩
      have x46 : Ext W H2 H6 := x4.trans (x5.trans x6)
      have y6 := (x.trans x46.up).put (p := p) (o := .dT (putK tk (key3 0 pr.l pr.h) (.ref t1))) (.inr (by simp)) hp6
      have hp7 : (upd H6 p (.dT (putK tk (key3 0 pr.l pr.h) (.ref t1)))) p = _ := upd_same
      have z7 : Fx W [p] H6 (upd H6 p (.dT (putK tk (key3 0 pr.l pr.h) (.ref t1)))) := Fx.refl.put (.inr (by simp)) hp6
      revert y6 hp7 z7
      generalize upd H6 p (.dT (putK tk (key3 0 pr.l pr.h) (.ref t1))) = H7
      intro y7 hp7 z7
      -- table[RIGHT, right, hue] = (number, left)
      refine ⟨_, rfl, _, rfl, by show 2 ≤ sizeLine; decide, fun t2 nt2 => ?_⟩
      refine newO W (H := H7) (p := t2) nt2 fun H8 x8 ht2 => ?_
      refine ⟨_, rfl, _, rfl, _, rfl, by show 3 ≤ sizeLine; decide, fun k2 nk2 => ?_⟩
      refine newO W (H := H8) (p := k2) nk2 fun H9 x9 hk2 => ?_
      have hp9 := x9.dt (x8.dt hp7)
      refine ⟨p, _, rfl, DPut.t (k := key3 1 pr.r pr.h) hp9 hk2 (hl2 _), ?_⟩
      have x79 : Ext W H7 H9 := x8.trans x9
      have y9 := (y7.trans x79.up).put (p := p) (o := .dT (putK (putK tk (key3 0 pr.l pr.h) (.ref t1)) (key3 1 pr.r pr.h) (.ref t2))) (.inr (by simp)) hp9
      have z9 : Fx W [p] H9 (upd H9 p (.dT (putK (putK tk (key3 0 pr.l pr.h) (.ref t1)) (key3 1 pr.r pr.h) (.ref t2)))) := Fx.refl.put (.inr (by simp)) hp9
      have zz : Fx W [p] H2 (upd H9 p (.dT (putK (putK tk (key3 0 pr.l pr.h) (.ref t1)) (key3 1 pr.r pr.h) (.ref t2)))) := (x46.up.trans z7).trans (x79.up.trans z9)
      refine ⟨_, _, _, _, _, rfl, y9, upd_same, ?_⟩
      rw [take_one hpr]
      refine TabOf.snoc (zz.tabOf hT) ?_ ?_
      · exact (x79.up.trans z9).tup (z7.tup (x6.tup (.inl (.inl ht1))))
      · exact z9.tup (x9.tup (.inl (.inl ht2)))
    · rintro σ H2 ⟨v2, v3, v4, v5, tk, rfl, x, hp2, hT⟩
      have hd2 := x.fz upd_same (by simpa using npd.symm)
      refine ⟨hd2, ?_⟩
      refine ⟨_, rfl, ?_⟩
      have el : R.take kvs.length = R := List.take_of_length_le (by rw [hE.len]; exact Nat.le_refl _)
      rw [el] at hT
      have y := Fx.locked hd0 rfl rfl x hd2
      have z : Fx W [d] H2 (upd H2 d (.dK kvs)) := Fx.refl.put (.inr (by simp)) hd2
      refine q p tk _ np ((x0.up.trans y).down fun b hb => by rw [List.mem_singleton.mp hb]; exact np) (by rw [upd_ne npd]; exact hp2) (z.tabOf hT)
def spFree (K : PySem.W.Frag) (W : Tbs) : Sp := fun vs H Q _ => ∃ (p : Addr) (tk : List (List Key × V)) (R : List Pr) (s e m : Nat), vs = [.ref p, .int (s : Nat), .int (e : Nat), .int (m : Nat)] ∧ H p = some (.dT tk) ∧ TabOf K H tk R ∧ s < 2 ∧ m ≤ 1000 ∧
  ∀ a H', H a = none → Ext W H H' → H' a = some (.lst (vN (free R s e m))) → Q (.ref a) H'
theorem ok_free_at (T : Txt K mg) : FnOk P w K mg base CX0 1 T.f_free_at T.d_free_at ["table", "side", "end", "many"] (spFree K W) := by
  refine T.D_free_at.F.ok sc_free_at (fun vs H Q E h => ?_) (fun cdv A outer s H vs Q E hr h => ?_)
  · obtain ⟨p, tk, R, sd, e, m, rfl, _⟩ := h
    rfl
  · obtain ⟨p, tk, R, sd, e, m, rfl, hp, hT, hs, hm, q⟩ := h
    refine ⟨_, (pss_one (ps_ret (pe_lc rfl sc_free_at.nd (own := [("hue", 4)]) (pi_range1 rfl T.z_range (pa_cons (pv 3) pa_nil)) (blkOk_by (N := N_free_at) (sc := defScope s_free_at) (by decide +kernel)) (fun _ _ _ _ _ => (pg_name (i := 4) sc_free_at.nd rfl (.inl rfl))) (fun _ _ _ _ _ => (pts_one (pt_cmp (pc_dnotin (hu_of hr) (pe_tup (pa_cons (pv 1) (pa_cons (pv 2) (pa_cons (pv 4) pa_nil)))) (pv 0))))) (fun _ _ _ _ _ => (pv 4))))), ?_⟩
    refine ⟨_, rfl, _, rfl, by omega, by omega, ?_⟩
    have en : ((m : Nat) : Int).toNat = m := by omega
    rw [en]
    refine fun D nD => lc_range (lo := 0) (n := m) (fun j H2 => Ext W H H2 ∧ H2 D = some (.lst (vN (free R sd e j)))) ⟨.new nD, upd_same⟩ ?_ ?_
    · rintro j H2 hj ⟨x, hD⟩
      have ej : ((0 : Int) + (j : Nat)) = (j : Nat) := by omega
      rw [ej]
      refine ⟨rfl, ?_⟩
      refine ⟨_, rfl, _, rfl, _, rfl, by show 3 ≤ sizeLine; decide, fun k nk => ?_⟩
      refine newO W (H := H2) (p := k) nk fun H3 x3 hk => ?_
      have x13 : Ext W H H3 := x.trans x3
      refine ⟨_, rfl, p, _, rfl, DGet.t (k := key3 sd e j) (x13.dt hp) hk, _, rfl, ?_⟩
      have fs : free R sd e (j + 1) = free R sd e j ++ if (at_ R sd e j).isNone then [j] else [] := by
        unfold free
        rw [List.range_succ, List.filter_append]
        simp only [List.filter_cons, List.filter_nil]
      have hD3 := x3.lst hD
      cases ha : at_ R sd e j with
      | none =>
        rw [hT.no sd e j hs ha]
        refine iteT ?_
        refine ⟨_, rfl, _, hD3, ?_, x13.put (.inl nD) hD3, ?_⟩
        · rw [List.length_map]
          refine small1000 ?_
          have : (free R sd e j).length ≤ j := by
            unfold free
            exact Nat.le_trans (List.length_filter_le _ _) (by rw [List.length_range]; exact Nat.le_refl _)
          omega
        · rw [upd_same, fs, ha]
          show _ = some (HO.lst (vN (free R sd e j ++ [j])))
          unfold vN
          rw [List.map_append]
          rfl
      | some pr =>
        obtain ⟨b, h1, h2⟩ := hT.so sd e j pr hs ha
        rw [h1]
        refine iteF ?_
        refine ⟨x13, ?_⟩
        rw [fs, ha]
        show _ = some (HO.lst (vN (free R sd e j ++ [])))
        rw [List.append_nil]
        exact hD3
    · rintro H2 ⟨x, hD⟩
      exact q D H2 nD x hD
def spChain (K : PySem.W.Frag) (W : Tbs) : Sp := fun vs H Q _ => ∃ (p : Addr) (tk : List (List Key × V)) (R : List Pr) (s e one other : Nat), vs = [.ref p, .int (s : Nat), .int (e : Nat), .int (one : Nat), .int (other : Nat)] ∧ H p = some (.dT tk) ∧ TabOf K H tk R ∧ s < 2 ∧ R.length ≤ 100 ∧
  Proper R ∧ other ≠ one ∧ at_ R s e one = none ∧
  ∀ a H', H a = none → Ext W H H' → H' a = some (.lst (vN ((chain R s e one other).map (·.n)))) → Q (.ref a) H'
theorem ok_chain_at (T : Txt K mg) : FnOk P w K mg base CX0 2 T.f_chain_at T.d_chain_at ["table", "side", "end", "one", "other"] (spChain K W) := by
  have ok_far_side : FnOk P w K mg base CX0 1 T.f_far_side T.d_far_side ["side"] spFar := ok_far_side T
  refine T.D_chain_at.F.ok sc_chain_at (fun vs H Q E h => ?_) (fun cdv A outer s H vs Q E hr h => ?_)
  · obtain ⟨p, tk, R, sd, e, one, other, rfl, _⟩ := h
    rfl
  · obtain ⟨p, tk, R, sd, e, one, other, rfl, hp, hT, hs, few, hP, ho, hfr, q⟩ := h
    refine ⟨_, (pss_cons (ps_set (i := 5) sc_chain_at.nd rfl (.inl rfl) (pe_lst pa_nil))
    (pss_cons (ps_set (i := 6) sc_chain_at.nd rfl (.inl rfl) (pv 4))
    (pss_cons (ps_while PassesOwn.never (pt_cmp (pc_din (hu_of hr) (pe_tup (pa_cons (pv 1) (pa_cons (pv 2) (pa_cons (pv 6) pa_nil)))) (pv 0))) 
      (pss_cons (ps_asg (pe_dget (hu_of hr) (pv 0) (pe_tup (pa_cons (pv 1) (pa_cons (pv 2) (pa_cons (pv 6) pa_nil)))) (fun _ _ => rfl)) (pg_tup rfl (pgs_cons (pg_name (i := 7) sc_chain_at.nd rfl (.inl rfl)) (pgs_cons (pg_name (i := 8) sc_chain_at.nd rfl (.inl rfl)) pgs_nil))))
      (pss_cons (ps_expr (bmC K (pe_bm PySem.F.plainAttrs_list PySem.F.slot_list_append PySem.F.type_list_append mt_append (pv 5) (pa_cons (pv 7) pa_nil))))
      (pss_cons (ps_par (i := 1) (j := 2) (by rfl) sc_chain_at.nd rfl rfl (by decide) rfl rfl (pa_cons (pe_call ok_far_side (hr.mono (by decide)) rfl T.D_far_side.g T.D_far_side.F.kp T.D_far_side.b .nil pass0 (pa_cons (pv 1) pa_nil)) (pa_cons (pv 8) pa_nil)) (by rfl))
      (pss_one (ps_set (i := 6) sc_chain_at.nd rfl (.inl rfl) (pe_ifExp (pt_cmpR op_eq (pv 6) (pv 4) (nomark _)) (pv 3) (pv 4))))))))
    (pss_one (ps_ret (pv 5)))))), ?_⟩
    refine ⟨by show 0 ≤ sizeLine; decide, fun D nD => ?_⟩
    refine newO W (H := H) (p := D) nD fun H1 x1 hD1 => ?_
    refine ⟨_, rfl, ?_⟩
    -- the chain so far, and where it leads on
    refine while_by (fun σ H2 => ∃ (v7 v8 : Option V) (s' e' h' g' : Nat) (vs : List Pr), σ = [some (.ref p), some (.int (s' : Nat)), some (.int (e' : Nat)), some (.int (one : Nat)), some (.int (other : Nat)), some (.ref D), some (.int (h' : Nat)), v7, v8] ∧
      Ext W H H2 ∧ H2 D = some (.lst (vN (vs.map (·.n)))) ∧ s' < 2 ∧ ((h' = other ∧ g' = one) ∨ (h' = one ∧ g' = other)) ∧ ∀ k, chainF R (vs.length + k) sd e other one = vs ++ chainF R k s' e' h' g')
      (fun σ H2 => match H2 D with | some (.lst xs) => 200 - xs.length | _ => 0)
      ⟨none, none, sd, e, other, one, [], rfl, x1, hD1, hs, .inl ⟨rfl, rfl⟩, fun k => by simp⟩ ?_ ?_
    · rintro σ H2 ⟨v7, v8, s', e', h', g', vs, rfl, x, hD, hs', hg, hc⟩
      have short : vs.length ≤ R.length := by
        have := chainF_le (k := vs.length) hP hs ho (at_none hfr)
        have c0 := hc 0
        rw [Nat.add_zero] at c0
        rw [c0] at this
        simp [chainF] at this
        exact this
      refine ⟨_, rfl, _, rfl, _, rfl, by show 3 ≤ sizeLine; decide, fun k nk => ?_⟩
      refine newO W (H := H2) (p := k) nk fun H3 x3 hk => ?_
      have x13 : Ext W H H3 := x.trans x3
      refine ⟨_, rfl, p, _, rfl, DGet.t (k := key3 s' e' h') (x13.dt hp) hk, _, rfl, ?_⟩
      have hD3 := x3.lst hD
      cases ha : at_ R s' e' h' with
      | none =>
        rw [hT.no s' e' h' hs' ha]
        refine iteF ?_
        refine ⟨_, rfl, ?_⟩
        refine q D H3 nD x13 ?_
        have : chain R sd e one other = vs := by
          unfold chain
          have := hc (R.length + 1 - vs.length)
          rw [show vs.length + (R.length + 1 - vs.length) = R.length + 1 by omega] at this
          rw [this]
          have e0 : R.length + 1 - vs.length = (R.length - vs.length) + 1 := by omega
          rw [e0, chainF, ha]
          simp
        rw [this]
        exact hD3
      | some pr =>
        obtain ⟨b, h1, h2⟩ := hT.so s' e' h' pr hs' ha
        rw [h1]
        refine iteT ?_
        -- number, far = table[side, end, hue]
        refine ⟨_, rfl, _, rfl, _, rfl, _, rfl, by show 3 ≤ sizeLine; decide, fun k2 nk2 => ?_⟩
        refine newO W (H := H3) (p := k2) nk2 fun H4 x4 hk2 => ?_
        have x14 : Ext W H H4 := x13.trans x4
        refine ⟨p, .ref b, rfl, ?_, ?_⟩
        · have := DGet.t (k := key3 s' e' h') (x14.dt hp) hk2
          rw [h1] at this
          exact this
        refine ⟨b, _, rfl, x14.tup h2, rfl, _, _, rfl, _, _, rfl, rfl, ?_⟩
        -- chain.append(number)
        have hD4 := x4.lst hD3
        refine ⟨_, rfl, .inl ⟨rfl, _, SqL.of hD4⟩, _, rfl, D, _, _, rfl, rfl, hD4, ?_, ?_⟩
        · rw [List.length_map, List.length_map]
          exact small1000 (by omega)
        have y5 : Ext W H (upd H4 D (.lst (vN (vs.map (·.n)) ++ [.int (pr.n : Nat)]))) := x14.put (.inl nD) hD4
        have hD5 : (upd H4 D (.lst (vN (vs.map (·.n)) ++ [.int (pr.n : Nat)]))) D = _ := upd_same
        revert y5 hD5
        generalize upd H4 D (.lst (vN (vs.map (·.n)) ++ [.int (pr.n : Nat)])) = H5
        intro y5 hD5
        refine ⟨_, rfl, s', rfl, hs', _, rfl, _, _, rfl, ?_⟩
        -- hue
        have fin : ∃ (v7 v8 : Option V) (s2 e2 h2 g2 : Nat) (vs2 : List Pr), ([some (.ref p), some (.int ((1 - s' : Nat) : Int)), some (.int ((pr.e (1 - s') : Nat) : Int)), some (.int (one : Nat)), some (.int (other : Nat)), some (.ref D), some (.int (g' : Nat)), some (.int (pr.n : Nat)), some (.int (pr.e (1 - s') : Nat))] : List (Option V)) =
            [some (.ref p), some (.int (s2 : Nat)), some (.int (e2 : Nat)), some (.int (one : Nat)), some (.int (other : Nat)), some (.ref D), some (.int (h2 : Nat)), v7, v8] ∧
            Ext W H H5 ∧ H5 D = some (.lst (vN (vs2.map (·.n)))) ∧ s2 < 2 ∧ ((h2 = other ∧ g2 = one) ∨ (h2 = one ∧ g2 = other)) ∧ ∀ k, chainF R (vs2.length + k) sd e other one = vs2 ++ chainF R k s2 e2 h2 g2 := by
          refine ⟨_, _, 1 - s', pr.e (1 - s'), g', h', vs ++ [pr], rfl, y5, ?_, by omega, ?_, fun k => ?_⟩
          · rw [hD5, List.map_append]
            unfold vN
            rw [List.map_append]
            rfl
          · rcases hg with ⟨a, b⟩ | ⟨a, b⟩
            · exact .inr ⟨b, a⟩
            · exact .inl ⟨b, a⟩
          · have := hc (k + 1)
            rw [chainF, ha] at this
            rw [List.length_append, List.length_singleton, show vs.length + 1 + k = vs.length + (k + 1) by omega, this, List.append_assoc]
            rfl
        have less : (match H5 D with | some (.lst xs) => 200 - xs.length | _ => 0) < (match H2 D with | some (.lst xs) => 200 - xs.length | _ => 0) := by
          rw [hD5, hD]
          show 200 - (vN (vs.map Pr.n) ++ [V.int (pr.n : Nat)]).length < 200 - (vN (vs.map Pr.n)).length
          rw [List.length_append, List.length_map, List.length_map, List.length_singleton]
          omega
        refine ⟨_, rfl, _, rfl, rfl, _, rfl, ?_⟩
        rcases hg with ⟨a, b⟩ | ⟨a, b⟩
        · subst a b
          rw [decide_eq_true rfl]
          refine iteT ?_
          exact ⟨_, rfl, fin, less⟩
        · subst a b
          rw [decide_eq_false (fun z => ho (by have := V.int.inj z; omega))]
          refine iteF ?_
          exact ⟨_, rfl, fin, less⟩
    · rintro σ H2 Q1 Q2 hq ⟨v1, e1, v2, e2, v3, e3, sz, hk⟩
      exact ⟨v1, e1, v2, e2, v3, e3, sz, fun p np => let ⟨x, e4, a, o, e5, g, k, e6, q⟩ := hk p np; ⟨x, e4, a, o, e5, g, k, e6, hq _ _ q⟩⟩
end
end My

set_option Elab.async false
set_option linter.all false
set_option maxRecDepth 100000
set_option maxHeartbeats 4000000
namespace My
open PySem PySem.Spec PyProof.Rows L2 Own Mt
/-- a way, told at b; its list was not there at H0, and is not D -/
def WayAt (K : PySem.W.Frag) (H0 : Hp) (D : Addr) (H : Hp) (b : Addr) (w : Way) : Prop := ∃ l : Addr, H0 l = none ∧ l ≠ D ∧ SqT K H b [.int (w.hue : Nat), .int (w.other : Nat), .ref l] ∧ H l = some (.lst (vN w.c))
theorem way_ext {K : PySem.W.Frag} {H0 H H' : Hp} {D b : Addr} {w : Way} {W : Tbs} (x : Ext W H H') (h : WayAt K H0 D H b w) : WayAt K H0 D H' b w := by
  obtain ⟨l, h1, h2, h3, h4⟩ := h
  exact ⟨l, h1, h2, x.tup h3, x.lst h4⟩
theorem way_put {K : PySem.W.Frag} {H0 H : Hp} {D b : Addr} {w : Way} {xs ys : List V} (hD : H D = some (.lst xs)) (h : WayAt K H0 D H b w) : WayAt K H0 D (upd H D (.lst ys)) b w := by
  obtain ⟨l, h1, h2, h3, h4⟩ := h
  exact ⟨l, h1, h2, tup_upd hD (fun _ z => by cases z) (fun _ _ z => by cases z) h3, by rw [upd_ne h2]; exact h4⟩
def way2 (R : List Pr) (l r : Nat) (a b : Nat) : List Way := [⟨a, b, (chain R 1 r b a).map (·.n)⟩, ⟨b, a, (chain R 0 l a b).map (·.n)⟩]
theorem len_way2 (R : List Pr) (l r a : Nat) (Y : List Nat) : (Y.flatMap (way2 R l r a)).length = 2 * Y.length := by
  induction Y with
  | nil => rfl
  | cons y Y ih =>
    rw [List.flatMap_cons, List.length_append, ih, List.length_cons]
    show 2 + _ = _
    omega
theorem len_ways (R : List Pr) (l r : Nat) (X Y : List Nat) : (X.flatMap fun a => Y.flatMap (way2 R l r a)).length = X.length * (2 * Y.length) := by
  induction X with
  | nil => simp
  | cons x X ih =>
    rw [List.flatMap_cons, List.length_append, ih, List.length_cons, len_way2, Nat.succ_mul X.length, Nat.add_comm]
section
variable {P : Program} {w : World} {K : PySem.W.Frag} {mg : Str → Option Value} {base : Heap} {W : Tbs}
def spWays (K : PySem.W.Frag) (W : Tbs) : Sp := fun vs H Q _ => ∃ (p aL aR : Addr) (tk : List (List Key × V)) (R : List Pr) (l r : Nat) (L Y : List Nat), vs = [.ref p, .int (l : Nat), .int (r : Nat), .ref aL, .ref aR] ∧
  H p = some (.dT tk) ∧ TabOf K H tk R ∧ R.length ≤ 100 ∧ Proper R ∧ H aL = some (.lst (vN L)) ∧ H aR = some (.lst (vN Y)) ∧ L.length ≤ 60 ∧ Y.length ≤ 60 ∧
  (∀ a ∈ L, ∀ b ∈ Y, a ≠ b) ∧ (∀ a ∈ L, at_ R 0 l a = none) ∧ (∀ b ∈ Y, at_ R 1 r b = none) ∧
  ∀ D as H', H D = none → Ext W H H' → H' D = some (.lst (as.map V.ref)) → Paired (WayAt K H D H') as (L.flatMap fun a => Y.flatMap (way2 R l r a)) → Q (.ref D) H'
theorem ok_ways (T : Txt K mg) : FnOk P w K mg base CX0 3 T.f_ways T.d_ways ["table", "left", "right", "at_left", "at_right"] (spWays K W) := by
  have ok_chain_at : FnOk P w K mg base CX0 2 T.f_chain_at T.d_chain_at ["table", "side", "end", "one", "other"] (spChain K W) := ok_chain_at T
  refine T.D_ways.F.ok sc_ways (fun vs H Q E h => ?_) (fun cdv A outer s H vs Q E hr h => ?_)
  · obtain ⟨p, aL, aR, tk, R, l, r, L, Y, rfl, _⟩ := h
    rfl
  · obtain ⟨p, aL, aR, tk, R, l, r, L, Y, rfl, hp, hT, few, hP, hL, hY, lL, lY, dif, fL, fY, q⟩ := h
    refine ⟨_, (pss_cons (ps_set (i := 5) sc_ways.nd rfl (.inl rfl) (pe_lst pa_nil))
    (pss_cons (ps_for PassesOwn.never rfl (pi_list (pv 3)) (pg_name (i := 6) sc_ways.nd rfl (.inl rfl)) 
      (pss_one (ps_for PassesOwn.never rfl (pi_list (pv 4)) (pg_name (i := 7) sc_ways.nd rfl (.inl rfl)) 
        (pss_cons (ps_set (i := 8) sc_ways.nd rfl (.inl rfl) (pe_call ok_chain_at (hr.mono (by decide)) rfl T.D_chain_at.g T.D_chain_at.F.kp T.D_chain_at.b .nil pass0 (pa_cons (pv 0) (pa_cons (pe_gi rfl T.c_RIGHT) (pa_cons (pv 2) (pa_cons (pv 7) (pa_cons (pv 6) pa_nil)))))))
        (pss_cons (ps_expr (bmC K (pe_bm PySem.F.plainAttrs_list PySem.F.slot_list_append PySem.F.type_list_append mt_append (pv 5) (pa_cons (pe_tup (pa_cons (pv 6) (pa_cons (pv 7) (pa_cons (pv 8) pa_nil)))) pa_nil))))
        (pss_cons (ps_set (i := 9) sc_ways.nd rfl (.inl rfl) (pe_call ok_chain_at (hr.mono (by decide)) rfl T.D_chain_at.g T.D_chain_at.F.kp T.D_chain_at.b .nil pass0 (pa_cons (pv 0) (pa_cons (pe_gi rfl T.c_LEFT) (pa_cons (pv 1) (pa_cons (pv 6) (pa_cons (pv 7) pa_nil)))))))
        (pss_one (ps_expr (bmC K (pe_bm PySem.F.plainAttrs_list PySem.F.slot_list_append PySem.F.type_list_append mt_append (pv 5) (pa_cons (pe_tup (pa_cons (pv 7) (pa_cons (pv 6) (pa_cons (pv 9) pa_nil)))) pa_nil)))))))))))
    (pss_one (ps_ret (pv 5))))), ?_⟩
    refine ⟨by show 0 ≤ sizeLine; decide, fun D nD => ?_⟩
    refine newO W (H := H) (p := D) nD fun H1 x1 hD1 => ?_
    refine ⟨_, rfl, aL, rfl, ⟨_, SqL.of (x1.lst hL)⟩, for_list (K := K) (a := aL) (xs := vN L) (fun i σ H2 => ∃ (v6 v7 v8 v9 : Option V) (as : List Addr), σ = [some (.ref p), some (.int (l : Nat)), some (.int (r : Nat)), some (.ref aL), some (.ref aR), some (.ref D), v6, v7, v8, v9] ∧
      Ext W H H2 ∧ H2 D = some (.lst (as.map V.ref)) ∧ Paired (WayAt K H D H2) as ((L.take i).flatMap fun a => Y.flatMap (way2 R l r a)))
      ⟨none, none, none, none, [], rfl, x1, hD1, .nil⟩ (fun i σ H2 _ ⟨_, _, _, _, _, _, x, _⟩ => SqL.of (x.lst hL)) ?_ ?_⟩
    · rintro i y σ H2 hi ⟨v6, v7, v8, v9, as, rfl, x, hD, hW⟩
      obtain ⟨a, ha, rfl⟩ := vN_get hi
      have aL_ := List.mem_of_getElem? ha
      have iL := (List.getElem?_eq_some_iff.mp ha).1
      refine ⟨_, rfl, aR, rfl, ⟨_, SqL.of (x.lst hY)⟩, for_list (K := K) (a := aR) (xs := vN Y) (fun j σ H3 => ∃ (v7 v8 v9 : Option V) (as : List Addr), σ = [some (.ref p), some (.int (l : Nat)), some (.int (r : Nat)), some (.ref aL), some (.ref aR), some (.ref D), some (.int (a : Nat)), v7, v8, v9] ∧
        Ext W H H3 ∧ H3 D = some (.lst (as.map V.ref)) ∧ Paired (WayAt K H D H3) as (((L.take i).flatMap fun a => Y.flatMap (way2 R l r a)) ++ (Y.take j).flatMap (way2 R l r a)))
        ⟨_, _, _, as, rfl, x, hD, by rw [List.take_zero, List.flatMap_nil, List.append_nil]; exact hW⟩ (fun j σ H3 _ ⟨_, _, _, _, _, x, _⟩ => SqL.of (x.lst hY)) ?_ ?_⟩
      · rintro j y σ H3 hj ⟨v7, v8, v9, as3, rfl, x3, hD3, hW3⟩
        obtain ⟨b, hb, rfl⟩ := vN_get hj
        have bY := List.mem_of_getElem? hb
        have jY := (List.getElem?_eq_some_iff.mp hb).1
        have ab := dif a aL_ b bY
        have sz : as3.length + 2 < sizeLine := by
          have h1 := Paired.length hW3
          have h2 : (L.take i).length * (2 * Y.length) ≤ 60 * (2 * 60) := Nat.mul_le_mul (by rw [List.length_take]; omega) (by omega)
          rw [List.length_append, len_ways, len_way2] at h1
          have h3 : (Y.take j).length ≤ 60 := by rw [List.length_take]; omega
          have h4 : as3.length + 2 ≤ 10000 := by omega
          exact Nat.lt_of_le_of_lt h4 (by decide)
        -- right_chain
        refine ⟨_, rfl, _, rfl, _, rfl, _, rfl, p, tk, R, 1, r, b, a, rfl, x3.dt hp, x3.tabOf hT, by decide, few, hP, ab, fY b bY, fun c1 H4 nc1 x4 hc1 => ?_⟩
        refine ⟨_, rfl, .inl ⟨rfl, _, SqL.of (x4.lst hD3)⟩, _, rfl, _, rfl, _, rfl, by show 3 ≤ sizeLine; decide, fun t1 nt1 => ?_⟩
        refine newO W (H := H4) (p := t1) nt1 fun H5 x5 ht1 => ?_
        have hD5 := x5.lst (x4.lst hD3)
        refine ⟨D, _, _, rfl, rfl, hD5, by rw [List.length_map]; omega, ?_⟩
        have y6 : Ext W H (upd H5 D (.lst (as3.map V.ref ++ [.ref t1]))) := (x3.trans (x4.trans x5)).put (.inl nD) hD5
        have hD6 : (upd H5 D (.lst (as3.map V.ref ++ [.ref t1]))) D = some (.lst ((as3 ++ [t1]).map V.ref)) := by rw [upd_same, List.map_append]; rfl
        have hW6 : Paired (WayAt K H D (upd H5 D (.lst (as3.map V.ref ++ [.ref t1])))) (as3 ++ [t1]) ((((L.take i).flatMap fun a => Y.flatMap (way2 R l r a)) ++ (Y.take j).flatMap (way2 R l r a)) ++ [⟨a, b, (chain R 1 r b a).map (·.n)⟩]) := by
          refine papp (Paired.mapP hW3 fun _ _ h => way_put hD5 (way_ext x5 (way_ext x4 h))) (.cons (way_put hD5 ⟨c1, (x3.f _ nc1), ?_, .inl (.inl ht1), x5.lst hc1⟩) .nil)
          exact fun z => by rw [z] at nc1; rw [hD3] at nc1; cases nc1
        revert y6 hD6 hW6
        generalize upd H5 D (.lst (as3.map V.ref ++ [.ref t1])) = H6
        intro y6 hD6 hW6
        -- left_chain
        refine ⟨_, rfl, _, rfl, _, rfl, _, rfl, p, tk, R, 0, l, a, b, rfl, y6.dt hp, y6.tabOf hT, by decide, few, hP, Ne.symm ab, fL a aL_, fun c2 H7 nc2 x7 hc2 => ?_⟩
        refine ⟨_, rfl, .inl ⟨rfl, _, SqL.of (x7.lst hD6)⟩, _, rfl, _, rfl, _, rfl, by show 3 ≤ sizeLine; decide, fun t2 nt2 => ?_⟩
        refine newO W (H := H7) (p := t2) nt2 fun H8 x8 ht2 => ?_
        have hD8 := x8.lst (x7.lst hD6)
        refine ⟨D, _, _, rfl, rfl, hD8, by rw [List.length_map, List.length_append, List.length_singleton]; omega, ?_⟩
        refine ⟨_, _, _, as3 ++ [t1] ++ [t2], rfl, (y6.trans (x7.trans x8)).put (.inl nD) hD8, by rw [upd_same]; simp, ?_⟩
        rw [take_one hb, List.flatMap_append]
        have e : List.flatMap (way2 R l r a) [b] = [⟨a, b, (chain R 1 r b a).map (·.n)⟩] ++ [⟨b, a, (chain R 0 l a b).map (·.n)⟩] := by
          rw [List.flatMap_cons, List.flatMap_nil, List.append_nil]
          rfl
        rw [e, ← List.append_assoc, ← List.append_assoc]
        refine papp (Paired.mapP hW6 fun _ _ h => way_put hD8 (way_ext x8 (way_ext x7 h))) (.cons (way_put hD8 ⟨c2, (y6.f _ nc2), ?_, .inl (.inl ht2), x8.lst hc2⟩) .nil)
        exact fun z => by rw [z] at nc2; rw [hD6] at nc2; cases nc2
      · rintro σ H3 ⟨v7, v8, v9, as3, rfl, x3, hD3, hW3⟩
        refine ⟨_, _, _, _, as3, rfl, x3, hD3, ?_⟩
        rw [take_one ha, List.flatMap_append, List.flatMap_cons, List.flatMap_nil, List.append_nil]
        rw [show List.take (vN Y).length Y = Y from List.take_of_length_le (by rw [List.length_map]; exact Nat.le_refl _)] at hW3
        exact hW3
    · rintro σ H2 ⟨v6, v7, v8, v9, as, rfl, x, hD, hW⟩
      rw [show List.take (vN L).length L = L from List.take_of_length_le (by rw [List.length_map]; exact Nat.le_refl _)] at hW
      exact ⟨_, rfl, q D as H2 nD x hD hW⟩
def spTurn (K : PySem.W.Frag) (W : Tbs) : Sp := fun vs H Q _ => ∃ (d c : Addr) (kvs : List (Key × V)) (R : List Pr) (ns : List Nat) (one other : Nat), vs = [.ref d, .ref c, .int (one : Nat), .int (other : Nat)] ∧
  H d = some (.dK kvs) ∧ DEach K H kvs R ∧ (R.map (·.n)).Nodup ∧ R.length ≤ 100 ∧ H c = some (.lst (vN ns)) ∧ ns.Nodup ∧ (∀ x ∈ ns, x ∈ R.map (·.n)) ∧
  ∀ kvs' H', Fx W [d] H H' → H' d = some (.dK kvs') → DEach K H' kvs' (turn R ns one other) → Q .non H'
theorem turn_snoc {R : List Pr} {ns : List Nat} {x a b : Nat} (hx : x ∉ ns) : turn R (ns ++ [x]) a b = (turn R ns a b).map fun p => if p.n = x then p.flip a b else p := by
  unfold turn
  rw [List.map_map]
  refine List.map_congr_left fun p _ => ?_
  show (if p.n ∈ ns ++ [x] then p.flip a b else p) = (fun p => if p.n = x then p.flip a b else p) (if p.n ∈ ns then p.flip a b else p)
  by_cases h : p.n ∈ ns
  · rw [if_pos (List.mem_append_left _ h), if_pos h]
    have : ¬ (p.flip a b).n = x := fun z => hx (by rw [← z]; exact h)
    show _ = (if (p.flip a b).n = x then (p.flip a b).flip a b else p.flip a b)
    rw [if_neg this]
  · rw [if_neg h]
    by_cases e : p.n = x
    · rw [if_pos (List.mem_append_right _ (by rw [e]; simp))]
      show _ = (if p.n = x then p.flip a b else p)
      rw [if_pos e]
    · rw [if_neg (fun z => (List.mem_append.mp z).elim h (fun y => e (List.mem_singleton.mp y)))]
      show _ = (if p.n = x then p.flip a b else p)
      rw [if_neg e]
theorem ok_turn (T : Txt K mg) : FnOk P w K mg base CX0 1 T.f_turn T.d_turn ["rows", "chain", "one", "other"] (spTurn K W) := by
  refine T.D_turn.F.ok sc_turn (fun vs H Q E h => ?_) (fun cdv A outer s H vs Q E hr h => ?_)
  · obtain ⟨d, c, kvs, R, ns, one, other, rfl, _⟩ := h
    rfl
  · obtain ⟨d, c, kvs, R, ns, one, other, rfl, hd, hE, hN, few, hc, hns, hin, q⟩ := h
    refine ⟨_, (pss_one (ps_for PassesOwn.never rfl (pi_list (pv 1)) (pg_name (i := 4) sc_turn.nd rfl (.inl rfl)) 
      (pss_cons (ps_asg (pe_dget (hu_of hr) (pv 0) (pv 4) (fun _ _ => rfl)) (pg_tup rfl (pgs_cons (pg_name (i := 5) sc_turn.nd rfl (.inl rfl)) (pgs_cons (pg_name (i := 6) sc_turn.nd rfl (.inl rfl)) (pgs_cons (pg_name (i := 7) sc_turn.nd rfl (.inl rfl)) pgs_nil)))))
      (pss_one (ps_dput (hu_of hr) (pv 0) (pv 4) (pe_tup (pa_cons (pv 5) (pa_cons (pv 6) (pa_cons (pe_ifExp (pt_cmpR op_eq (pv 7) (pv 2) (nomark _)) (pv 3) (pv 2)) pa_nil)))) rfl))))), ?_⟩
    have ncd : c ∉ [d] := by
      simp only [List.mem_singleton]
      exact ne_of hc hd (by intro z; cases z)
    refine ⟨_, rfl, c, rfl, ⟨_, SqL.of hc⟩, for_list (K := K) (a := c) (xs := vN ns) (fun i σ H2 => ∃ (v4 v5 v6 v7 : Option V) (kvs2 : List (Key × V)), σ = [some (.ref d), some (.ref c), some (.int (one : Nat)), some (.int (other : Nat)), v4, v5, v6, v7] ∧
      Fx W [d] H H2 ∧ H2 d = some (.dK kvs2) ∧ DEach K H2 kvs2 (turn R (ns.take i) one other))
      ⟨none, none, none, none, kvs, rfl, .refl, hd, by rw [List.take_zero]; unfold turn; simpa using hE⟩ (fun i σ H2 _ ⟨_, _, _, _, _, _, x, _⟩ => SqL.of (x.lst hc ncd)) ?_ ?_⟩
    · rintro i y σ H2 hi ⟨v4, v5, v6, v7, kvs2, rfl, x, hd2, hE2⟩
      obtain ⟨n, hn, rfl⟩ := vN_get hi
      have nin := hin n (List.mem_of_getElem? hn)
      have nn : n ∉ ns.take i := by
        intro z
        obtain ⟨j, hj, e⟩ := List.getElem_of_mem z
        rw [List.length_take] at hj
        rw [List.getElem_take] at e
        have := nd_ix hns (i := j) (j := i) (x := n) (by rw [List.getElem?_eq_getElem (by omega), e]) hn
        omega
      have N2 : ((turn R (ns.take i) one other).map (·.n)).Nodup := by rw [turn_n]; exact hN
      obtain ⟨p, hp, ep⟩ := List.mem_map.mp (show n ∈ (turn R (ns.take i) one other).map (·.n) by rw [turn_n]; exact nin)
      have ep : p.n = n := ep
      obtain ⟨a, ha, ta⟩ := hE2.in N2 hp
      rw [ep] at ha
      -- left, right, had = rows[number]
      refine ⟨_, rfl, _, rfl, d, .ref a, rfl, ?_, ?_⟩
      · have := DGet.k (k := Sum.inl (n : Int)) hd2
        rw [ha] at this
        exact this
      refine ⟨a, _, rfl, ta, rfl, _, _, rfl, _, _, rfl, _, _, rfl, rfl, ?_⟩
      -- rows[number] = (left, right, other if had == one else one)
      have put : ∀ (h' : Nat), h' = (if p.h = one then other else one) → ∀ t, H2 t = none → ∃ (v4 v5 v6 v7 : Option V) (kvs3 : List (Key × V)),
          ([some (.ref d), some (.ref c), some (.int (one : Nat)), some (.int (other : Nat)), some (.int (n : Nat)), some (.int (p.l : Nat)), some (.int (p.r : Nat)), some (.int (p.h : Nat))] : List (Option V)) =
            [some (.ref d), some (.ref c), some (.int (one : Nat)), some (.int (other : Nat)), v4, v5, v6, v7] ∧
          Fx W [d] H (upd (upd H2 t (.tup [.int (p.l : Nat), .int (p.r : Nat), .int (h' : Nat)])) d (.dK (putK kvs2 (Sum.inl (n : Int)) (.ref t)))) ∧
          (upd (upd H2 t (.tup [.int (p.l : Nat), .int (p.r : Nat), .int (h' : Nat)])) d (.dK (putK kvs2 (Sum.inl (n : Int)) (.ref t)))) d = some (.dK kvs3) ∧
          DEach K (upd (upd H2 t (.tup [.int (p.l : Nat), .int (p.r : Nat), .int (h' : Nat)])) d (.dK (putK kvs2 (Sum.inl (n : Int)) (.ref t)))) kvs3 (turn R (ns.take (i + 1)) one other) := by
        intro h' eh t nt
        have x3 : Ext W H2 (upd H2 t (.tup [.int (p.l : Nat), .int (p.r : Nat), .int (h' : Nat)])) := .new nt
        have ht : (upd H2 t (.tup [.int (p.l : Nat), .int (p.r : Nat), .int (h' : Nat)])) t = some (.tup [.int (p.l : Nat), .int (p.r : Nat), .int (h' : Nat)]) := upd_same
        have hd3 := x3.dk hd2
        have z : Fx W [d] (upd H2 t (.tup [.int (p.l : Nat), .int (p.r : Nat), .int (h' : Nat)])) (upd (upd H2 t (.tup [.int (p.l : Nat), .int (p.r : Nat), .int (h' : Nat)])) d (.dK (putK kvs2 (Sum.inl (n : Int)) (.ref t)))) := Fx.refl.put (.inr (by simp)) hd3
        refine ⟨_, _, _, _, _, rfl, (x.trans x3.up).trans z, upd_same, ?_⟩
        rw [take_one hn, turn_snoc nn]
        have := DEach.set (z.deach (x3.deach hE2)) (q := ⟨n, p.l, p.r, h'⟩) (by rw [turn_n]; exact nin) (z.tup (.inl (.inl ht)))
        have e : (turn R (ns.take i) one other).map (fun p => if p.n = n then p.flip one other else p) = (turn R (ns.take i) one other).map (fun p' => if p'.n = (⟨n, p.l, p.r, h'⟩ : Pr).n then (⟨n, p.l, p.r, h'⟩ : Pr) else p') := by
          refine List.map_congr_left fun p' hp' => ?_
          show (if p'.n = n then p'.flip one other else p') = (if p'.n = n then (⟨n, p.l, p.r, h'⟩ : Pr) else p')
          by_cases c : p'.n = n
          · rw [if_pos c, if_pos c]
            have := n_inj N2 hp' hp (c.trans ep.symm)
            rw [this, eh]
            show (⟨p.n, p.l, p.r, _⟩ : Pr) = _
            rw [ep]
          · rw [if_neg c, if_neg c]
        rw [e]
        exact this
      have sz : kvs2.length < sizeLine := by
        have := hE2.len
        unfold turn at this
        rw [List.length_map] at this
        exact small1000 (by omega)
      refine ⟨_, rfl, _, rfl, _, rfl, _, rfl, rfl, _, rfl, ?_⟩
      by_cases ch : p.h = one
      · rw [decide_eq_true (show V.int (p.h : Nat) = V.int (one : Nat) by rw [ch])]
        refine iteT ?_
        refine ⟨_, rfl, by show 3 ≤ sizeLine; decide, fun t nt => ?_⟩
        have hd3 := (Fx.new (W := W) (S := []) (o := .tup [.int (p.l : Nat), .int (p.r : Nat), .int (other : Nat)]) nt).dk hd2
        exact ⟨_, rfl, _, rfl, d, _, rfl, DPut.k (k := Sum.inl (n : Int)) hd3 sz, put other (by rw [if_pos ch]) t nt⟩
      · rw [decide_eq_false (show ¬ V.int (p.h : Nat) = V.int (one : Nat) from fun z => ch (by have := V.int.inj z; omega))]
        refine iteF ?_
        refine ⟨_, rfl, by show 3 ≤ sizeLine; decide, fun t nt => ?_⟩
        have hd3 := (Fx.new (W := W) (S := []) (o := .tup [.int (p.l : Nat), .int (p.r : Nat), .int (one : Nat)]) nt).dk hd2
        exact ⟨_, rfl, _, rfl, d, _, rfl, DPut.k (k := Sum.inl (n : Int)) hd3 sz, put one (by rw [if_neg ch]) t nt⟩
    · rintro σ H2 ⟨v4, v5, v6, v7, kvs2, rfl, x, hd2, hE2⟩
      rw [show List.take (vN ns).length ns = ns from List.take_of_length_le (by rw [List.length_map]; exact Nat.le_refl _)] at hE2
      exact q kvs2 H2 x hd2 hE2
end
end My

set_option Elab.async false
set_option linter.all false
set_option maxRecDepth 100000
set_option maxHeartbeats 4000000
namespace My
open PySem PySem.Spec PyProof.Rows L2 Own Mt
/-- the name of the lambda's code in place -/
abbrev qLam : Str := ("place" : Str) ++ (".<locals>." : Str) ++ ("<lambda>" : Str)
def otherV : Option Nat → V
  | none => .non
  | some o => .int (o : Nat)
/-- what is told of a pair: the tuple at a, its list at c -/
def ToldAt (K : PySem.W.Frag) (H : Hp) (a c : Addr) (t : Told) : Prop := H a = some (.tup [.int (t.n : Nat), .int (t.hue : Nat), otherV t.other, .ref c]) ∧ H c = some (.lst (vN t.c))
theorem argBest_bestI (f : Nat → Nat) : ∀ k, argBest (fun i j => decide (((f i : Nat) : Int) < ((f j : Nat) : Int))) k = bestI f k
  | 0 => rfl
  | k + 1 => by
    unfold argBest bestI
    rw [argBest_bestI f k]
    by_cases h : f (k + 1) < f (bestI f k)
    · rw [if_pos h, if_pos (by simpa using h)]
    · rw [if_neg h, if_neg (by simpa using h)]
theorem free_len (R : List Pr) (s e m : Nat) : (free R s e m).length ≤ m := by
  unfold free
  exact Nat.le_trans (List.length_filter_le _ _) (by rw [List.length_range]; exact Nat.le_refl _)
section
variable {P : Program} {w : World} {K : PySem.W.Frag} {mg : Str → Option Value} {base : Heap} {W : Tbs}
/-- the tables that the laws speak of: the one of place -/
structure Wok (W : Tbs) (p : Addr) : Prop where
  mem : (p, qLam) ∈ W.l
  one : ∀ q ∈ W.l, q.1 = p → q.2 = qLam
def spPlace (K : PySem.W.Frag) (W : Tbs) : Sp := fun vs H Q _ => ∃ (d : Addr) (kvs : List (Key × V)) (R : List Pr) (n l r m : Nat), vs = [.ref d, .int (n : Nat), .int (l : Nat), .int (r : Nat), .int (m : Nat)] ∧
  H d = some (.dK kvs) ∧ DEach K H kvs R ∧ R.length ≤ 60 ∧ Proper R ∧ (R.map (·.n)).Nodup ∧ n ∉ R.map (·.n) ∧ m ≤ 60 ∧ free R 0 l m ≠ [] ∧ free R 1 r m ≠ [] ∧ (∀ p ∈ W.l, LamX.TabS H p.1 p.2) ∧
  ∀ a c kvs' H', H a = none → H c = none → Fx W [d] H H' → H' d = some (.dK kvs') → DEach K H' kvs' (place R n l r m).2 → ToldAt K H' a c (place R n l r m).1 → Q (.ref a) H'
theorem ok_place (T : Txt K mg) (B : LamX.TabB base mg T.k_place T.p_place) (WO : Wok W T.p_place) : FnOk P w K mg base CX0 4 T.f_place T.d_place ["rows", "number", "left", "right", "many"] (spPlace K W) := by
  have ok_table_of : FnOk P w K mg base CX0 1 T.f_table_of T.d_table_of ["rows"] (spTable K W) := ok_table_of T
  have ok_free_at : FnOk P w K mg base CX0 1 T.f_free_at T.d_free_at ["table", "side", "end", "many"] (spFree K W) := ok_free_at T
  have ok_ways : FnOk P w K mg base CX0 3 T.f_ways T.d_ways ["table", "left", "right", "at_left", "at_right"] (spWays K W) := ok_ways T
  have ok_turn : FnOk P w K mg base CX0 1 T.f_turn T.d_turn ["rows", "chain", "one", "other"] (spTurn K W) := ok_turn T
  refine T.FC_place.ok sc_place (fun vs H Q E h => ?_) (fun A outer s H vs Q E hr h => ?_)
  · obtain ⟨d, kvs, R, n, l, r, m, rfl, _⟩ := h
    rfl
  · obtain ⟨d, kvs, R, n, l, r, m, rfl, hd, hE, few, hP, hN, nin, hm, f0, f1, tabs, q⟩ := h
    refine ⟨_, (pss_cons (ps_set (i := 5) sc_place.nd rfl (.inl rfl) (pe_call ok_table_of (hr.mono (by decide)) rfl T.D_table_of.g T.D_table_of.F.kp T.D_table_of.b .nil pass0 (pa_cons (pv 0) pa_nil)))
    (pss_cons (ps_set (i := 6) sc_place.nd rfl (.inl rfl) (pe_call ok_free_at (hr.mono (by decide)) rfl T.D_free_at.g T.D_free_at.F.kp T.D_free_at.b .nil pass0 (pa_cons (pv 5) (pa_cons (pe_gi rfl T.c_LEFT) (pa_cons (pv 2) (pa_cons (pv 4) pa_nil))))))
    (pss_cons (ps_set (i := 7) sc_place.nd rfl (.inr rfl) (pe_call ok_free_at (hr.mono (by decide)) rfl T.D_free_at.g T.D_free_at.F.kp T.D_free_at.b .nil pass0 (pa_cons (pv 5) (pa_cons (pe_gi rfl T.c_RIGHT) (pa_cons (pv 3) (pa_cons (pv 4) pa_nil))))))
    (pss_cons (ps_setLc (i := 8) rfl sc_place.nd rfl rfl (sw_true rfl rfl rfl (by decide +kernel)) (own := [("hue", 9)]) (pi_list (pv 6)) (blkOk_by (N := N_place) (sc := defScope s_place) (by decide +kernel)) (fun _ _ _ _ _ => (pg_name (i := 9) sc_place.nd rfl (.inl rfl))) (fun _ _ _ _ _ => (pts_one (pt_cmpR (inS K) (pv 9) (pv 7) (by rfl)))) (fun _ _ _ _ _ => (pv 9)))
    (pss_cons (ps_if (pt_truth (pv 8) (by intro _; rfl)) 
      (pss_one (ps_par3 (i := 9) (j := 10) (l := 11) (by rfl) sc_place.nd rfl rfl rfl (by decide) (by decide) (by decide) rfl rfl rfl (pa_cons (pe_ix (ixL K) (pv 8) pe_int (fun _ _ => rfl)) (pa_cons pe_non (pa_cons (pe_lst pa_nil) pa_nil))) (by rfl))) 
      (pss_cons (ps_set (i := 12) sc_place.nd rfl (.inl rfl) (pe_call ok_ways (hr.mono (by decide)) rfl T.D_ways.g T.D_ways.F.kp T.D_ways.b .nil pass0 (pa_cons (pv 5) (pa_cons (pv 2) (pa_cons (pv 3) (pa_cons (pv 6) (pa_cons (pv 7) pa_nil)))))))
      (pss_cons (ps_asg (pe_minLam (k := 0) (P := T.p_place) (x := "way") (hr.mono (by decide)) rfl (by rfl) T.z_min B rfl rfl (by decide +kernel) ⟨rfl, rfl, rfl, by decide +kernel, rfl⟩ (fun _ _ _ _ => rfl) (pv 12)) (pg_tup rfl (pgs_cons (pg_name (i := 9) sc_place.nd rfl (.inl rfl)) (pgs_cons (pg_name (i := 10) sc_place.nd rfl (.inl rfl)) (pgs_cons (pg_name (i := 11) sc_place.nd rfl (.inl rfl)) pgs_nil)))))
      (pss_one (ps_expr (pe_call ok_turn (hr.mono (by decide)) rfl T.D_turn.g T.D_turn.F.kp T.D_turn.b .nil pass0 (pa_cons (pv 0) (pa_cons (pv 11) (pa_cons (pv 9) (pa_cons (pv 10) pa_nil))))))))))
    (pss_cons (ps_dput (hu_of hr) (pv 0) (pv 1) (pe_tup (pa_cons (pv 2) (pa_cons (pv 3) (pa_cons (pv 9) pa_nil)))) rfl)
    (pss_one (ps_ret (pe_tup (pa_cons (pv 1) (pa_cons (pv 9) (pa_cons (pv 10) (pa_cons (pv 11) pa_nil))))))))))))), ?_⟩
    -- table, at_left, at_right
    refine ⟨_, rfl, d, kvs, R, rfl, hd, hE, by omega, fun p tk H1 np x1 hp hT => ?_⟩
    refine ⟨_, rfl, _, rfl, _, rfl, p, tk, R, 0, l, m, rfl, hp, hT, by decide, by omega, fun aL H2 nL x2 hL => ?_⟩
    refine ⟨_, rfl, _, rfl, _, rfl, p, tk, R, 1, r, m, rfl, x2.dt hp, x2.tabOf hT, by decide, by omega, fun aR H3 nR x3 hY => ?_⟩
    have hL3 := x3.lst hL
    have l0 := free_len R 0 l m
    have l1 := free_len R 1 r m
    generalize eL : free R 0 l m = L at *
    generalize eY : free R 1 r m = Y at *
    -- at_both
    refine ⟨_, rfl, aL, rfl, ⟨_, SqL.of hL3⟩, fun D nD => lc_list (K := K) (a := aL) (xs := vN L)
      (fun j H4 => Ext W H3 H4 ∧ H4 D = some (.lst (vN ((L.take j).filter fun h => decide (h ∈ Y))))) ⟨.new nD, upd_same⟩ (fun j H4 _ ⟨x, _⟩ => SqL.of (x.lst hL3)) ?_ ?_⟩
    · rintro j y H4 hj ⟨x4, hD⟩
      obtain ⟨h, hh, rfl⟩ := vN_get hj
      have jl := (List.getElem?_eq_some_iff.mp hh).1
      refine ⟨rfl, ?_⟩
      refine ⟨_, rfl, _, rfl, aR, _, rfl, .inl (SqL.of (x4.lst hY)), rfl, flat_vN _, _, rfl, ?_⟩
      rw [if_neg Bool.false_ne_true, in_vN, take_one hh, List.filter_append]
      by_cases c : h ∈ Y
      · rw [decide_eq_true c]
        refine iteT ?_
        refine ⟨_, rfl, _, hD, ?_, x4.put (.inl nD) hD, ?_⟩
        · rw [List.length_map]
          refine small1000 ?_
          have := List.length_filter_le (fun h => decide (h ∈ Y)) (L.take j)
          rw [List.length_take] at this
          omega
        · rw [upd_same, List.filter_cons, if_pos (decide_eq_true c), List.filter_nil]
          unfold vN
          rw [List.map_append]
          rfl
      · rw [decide_eq_false c]
        refine iteF ⟨x4, ?_⟩
        rw [List.filter_cons, if_neg (by simpa using c), List.filter_nil, List.append_nil]
        exact hD
    · rintro H4 ⟨x4, hD⟩
      rw [show List.take (vN L).length L = L from List.take_of_length_le (by rw [List.length_map]; exact Nat.le_refl _)] at hD
      have eb : both R l r m = L.filter fun h => decide (h ∈ Y) := by
        unfold both
        rw [eL, eY]
      rw [← eb] at hD
      have x04 : Ext W H H4 := x1.trans (x2.trans (x3.trans x4))
      have hd4 := x04.dk hd
      have hE4 := x04.deach hE
      have szd : kvs.length < sizeLine := small1000 (by rw [hE.len]; omega)
      cases hb : both R l r m with
      | cons h t =>
        rw [hb] at hD
        refine ⟨_, rfl, true, .inl ⟨_, SqL.of hD, rfl⟩, iteT ?_⟩
        refine ⟨_, rfl, D, _, 0, _, rfl, rfl, SqL.of hD, atI_nat (j := 0) (v := .int (h : Nat)) rfl, by show 0 ≤ sizeLine; decide, fun c nc => ?_⟩
        refine newO W (H := H4) (p := c) nc fun H5 x5 hc => ?_
        refine ⟨_, _, _, rfl, ?_⟩
        refine ⟨_, rfl, _, rfl, _, rfl, by show 3 ≤ sizeLine; decide, fun tt ntt => ?_⟩
        refine newO W (H := H5) (p := tt) ntt fun H6 x6 htt => ?_
        have hd6 := x6.dk (x5.dk hd4)
        refine ⟨_, rfl, _, rfl, d, _, rfl, DPut.k (k := Sum.inl (n : Int)) hd6 szd, ?_⟩
        have x06 : Ext W H H6 := x04.trans (x5.trans x6)
        have y7 : Fx W [d] H (upd H6 d (.dK (putK kvs (Sum.inl (n : Int)) (.ref tt)))) := x06.up.put (.inr (by simp)) hd6
        have z7 : Fx W [d] H6 (upd H6 d (.dK (putK kvs (Sum.inl (n : Int)) (.ref tt)))) := Fx.refl.put (.inr (by simp)) hd6
        have hd7 : (upd H6 d (.dK (putK kvs (Sum.inl (n : Int)) (.ref tt)))) d = _ := upd_same
        revert y7 z7 hd7
        generalize upd H6 d (.dK (putK kvs (Sum.inl (n : Int)) (.ref tt))) = H7
        intro y7 z7 hd7
        have ncd : c ≠ d := (ne_of_none hd4 nc).symm
        refine ⟨_, rfl, _, rfl, _, rfl, _, rfl, by show 4 ≤ sizeLine; decide, fun a na => ?_⟩
        refine newO W (H := H7) (p := a) na fun H8 x8 ha => ?_
        have ep := place_both (n := n) hb
        refine q a c _ H8 (y7.f _ na) (x04.f _ nc) (y7.trans x8.up) (x8.dk hd7) ?_ ?_
        · rw [ep]
          have hE7 := z7.deach (x6.deach (x5.deach hE4))
          exact x8.deach (DEach.snoc hE7 (p := ⟨n, l, r, h⟩) nin (z7.tup (.inl (.inl htt))))
        · rw [ep]
          exact ⟨ha, x8.lst (z7.lst (x6.lst hc) (by simpa using ncd))⟩
      | nil =>
        rw [hb] at hD
        refine ⟨_, rfl, false, .inl ⟨_, SqL.of hD, rfl⟩, iteF ?_⟩
        -- ways
        have dif : ∀ a ∈ L, ∀ b ∈ Y, a ≠ b := fun a ha b hb' => both_nil hb (by rw [eL]; exact ha) (by rw [eY]; exact hb')
        refine ⟨_, rfl, _, rfl, _, rfl, _, rfl, _, rfl, p, aL, aR, tk, R, l, r, L, Y, rfl, x4.dt (x3.dt (x2.dt hp)), x4.tabOf (x3.tabOf (x2.tabOf hT)), by omega, hP, x4.lst hL3, x4.lst hY, by omega, by omega, dif,
          fun a ha => (mem_free.mp (by rw [eL]; exact ha)).2, fun b hb' => (mem_free.mp (by rw [eY]; exact hb')).2, fun DW as H5 nDW x5 hDW hWs => ?_⟩
        have ews : (L.flatMap fun a => Y.flatMap (way2 R l r a)) = ways R l r m := by
          unfold ways
          rw [eL, eY]
          rfl
        rw [ews] at hWs
        have x05 : Ext W H H5 := x04.trans x5
        have wm := way_is (R := R) (l := l) (r := r) (m := m) (by rw [eL]; exact f0) (by rw [eY]; exact f1)
        have wpos : 0 < (ways R l r m).length := List.length_pos_of_mem wm
        have lws : (as.map V.ref).length = (ways R l r m).length := by rw [List.length_map]; exact Paired.length hWs
        -- min
        refine ⟨_, rfl, ?_⟩
        refine ⟨x05.l _ WO.mem (tabs _ WO.mem), fun H6 f c' ln6 tab6 code6 nf => ?_⟩
        have x6 : Ext W H5 H6 := Fx.lam ln6 tab6 WO.one
        refine newO W (H := H6) (p := f) nf fun H7 x7 hf => ?_
        have x57 : Ext W H5 H7 := x6.trans x7
        have hWs7 : Paired (WayAt K H4 DW H7) as (ways R l r m) := Paired.mapP hWs fun _ _ h => way_ext x57 h
        refine ⟨DW, f, c', as.map V.ref, fun i => ((ways R l r m).getD i ⟨0, 0, []⟩).c.length, rfl, rfl, hf, x7.o _ _ (by simp) code6 (fun ps => LamX.codeO_ne ps), SqL.of (x57.lst hDW), by rw [lws]; exact wpos, ?_, ?_⟩
        · intro pins σ s1 I i y v hy rv
          rw [List.getElem?_map] at hy
          obtain ⟨b, hb1, rfl⟩ := Option.map_eq_some_iff.mp hy
          obtain ⟨w', hw1, l', _, _, hw2, hw3⟩ := pon hWs7 hb1
          have tP : ∃ ps, H7 T.p_place = some (.tbl ps) := by
            obtain ⟨ps, z, _⟩ := x7.l _ WO.mem tab6
            exact ⟨ps, z⟩
          have el : (((ways R l r m).getD i ⟨0, 0, []⟩).c.length : Int) = ((vN w'.c).length : Int) := by
            rw [List.getD_eq_getElem?_getD, hw1, List.length_map]
            rfl
          show QE _ s1 T.p_place _ "way" v _ (.int (((ways R l r m).getD i ⟨0, 0, []⟩).c.length : Int))
          rw [el]
          exact qe_len I tP rfl rfl T.z_len (qe_ixT I tP (qe_var rfl rfl rv) qe_int hw2 (atI_nat (j := 2) rfl) (fun _ _ => rfl)) (SqL.of hw3) (fun ce => rfl)
        · intro y hy
          rw [lws, argBest_bestI] at hy
          rw [List.getElem?_map] at hy
          obtain ⟨b, hb1, rfl⟩ := Option.map_eq_some_iff.mp hy
          obtain ⟨w', hw1, c, nc, ncD, hw2, hw3⟩ := pon hWs7 hb1
          have ew : w' = best (ways R l r m) := by
            unfold best
            rw [List.getD_eq_getElem?_getD, hw1]
            rfl
          refine ⟨b, _, rfl, hw2, rfl, _, _, rfl, _, _, rfl, _, _, rfl, rfl, ?_⟩
          have x07 : Ext W H H7 := x05.trans x57
          have hd7 := x07.dk hd
          have hE7 := x07.deach hE
          have wm' : w' ∈ ways R l r m := by rw [ew]; exact wm
          obtain ⟨wn, wi⟩ := way_nodup hP hN hb wm'
          have ncd : c ≠ d := (ne_of_none hd4 nc).symm
          -- _turn
          refine ⟨_, rfl, _, rfl, _, rfl, _, rfl, d, c, kvs, R, w'.c, w'.hue, w'.other, rfl, hd7, hE7, hN, by omega, hw3, wn, wi, fun kvs8 H8 x8 hd8 hE8 => ?_⟩
          refine ⟨_, rfl, _, rfl, _, rfl, by show 3 ≤ sizeLine; decide, fun tt ntt => ?_⟩
          refine newO W (H := H8) (p := tt) ntt fun H9 x9 htt => ?_
          have hd9 := x9.dk hd8
          have szd8 : kvs8.length < sizeLine := by
            have := hE8.len
            unfold turn at this
            rw [List.length_map] at this
            exact small1000 (by omega)
          refine ⟨_, rfl, _, rfl, d, _, rfl, DPut.k (k := Sum.inl (n : Int)) hd9 szd8, ?_⟩
          have x09 : Fx W [d] H H9 := x07.up.trans (x8.trans x9.up)
          have y10 : Fx W [d] H (upd H9 d (.dK (putK kvs8 (Sum.inl (n : Int)) (.ref tt)))) := x09.put (.inr (by simp)) hd9
          have z10 : Fx W [d] H9 (upd H9 d (.dK (putK kvs8 (Sum.inl (n : Int)) (.ref tt)))) := Fx.refl.put (.inr (by simp)) hd9
          have hd10 : (upd H9 d (.dK (putK kvs8 (Sum.inl (n : Int)) (.ref tt)))) d = _ := upd_same
          revert y10 z10 hd10
          generalize upd H9 d (.dK (putK kvs8 (Sum.inl (n : Int)) (.ref tt))) = H10
          intro y10 z10 hd10
          refine ⟨_, rfl, _, rfl, _, rfl, _, rfl, by show 4 ≤ sizeLine; decide, fun a na => ?_⟩
          refine newO W (H := H10) (p := a) na fun H11 x11 ha => ?_
          have ep := place_way (n := n) hb
          rw [← ew] at ep
          refine q a c _ H11 (y10.f _ na) (x04.f _ nc) (y10.trans x11.up) (x11.dk hd10) ?_ ?_
          · rw [ep]
            have hE10 := z10.deach (x9.deach hE8)
            exact x11.deach (DEach.snoc hE10 (p := ⟨n, l, r, w'.hue⟩) (by rw [turn_n]; exact nin) (z10.tup (.inl (.inl htt))))
          · rw [ep]
            exact ⟨ha, x11.lst (z10.lst (x9.lst (x8.lst hw3 (by simpa using ncd))) (by simpa using ncd))⟩
end
end My

set_option Elab.async false
set_option linter.all false
set_option maxRecDepth 100000
namespace K08
open PySem PySem.Spec PyProof.Rows L2
/-- what the dict holds when the ends pre were met -/
structure Tally (kvs : List (Key × V)) (pre : List Int) : Prop where
  of : ∀ p ∈ kvs, ∃ k : Int, p = (Sum.inl k, V.int (pre.count k : Nat)) ∧ k ∈ pre
  all : ∀ k ∈ pre, ∃ p ∈ kvs, p.1 = Sum.inl k
  len : kvs.length ≤ pre.length
theorem Tally.nil : Tally [] [] := ⟨fun p h => absurd h (by simp), fun k h => absurd h (by simp), Nat.le_refl _⟩
theorem Tally.look {kvs : List (Key × V)} {pre : List Int} (t : Tally kvs pre) (k : Int) : (valV kvs (Sum.inl k)).getD (.int 0) = .int (pre.count k : Nat) := by
  unfold valV
  cases e : kvs.find? fun kv => decide (kv.1 = (Sum.inl k : Key)) with
  | none =>
    have n : k ∉ pre := fun h => by
      obtain ⟨p, hp, q⟩ := t.all k h
      have := List.find?_eq_none.mp e p hp
      rw [q] at this
      simp at this
    rw [List.count_eq_zero.mpr n]
    rfl
  | some p =>
    have h1 := List.mem_of_find?_eq_some e
    have h2 : p.1 = (Sum.inl k : Key) := by simpa using List.find?_some e
    obtain ⟨j, hj, _⟩ := t.of p h1
    rw [hj] at h2
    have ej : j = k := Sum.inl.inj h2
    rw [hj, ej]
    rfl
theorem Tally.put {kvs : List (Key × V)} {pre : List Int} (t : Tally kvs pre) (k : Int) : Tally (putK kvs (Sum.inl k) (.int ((pre.count k : Nat) + 1))) (pre ++ [k]) := by
  have ck : ((pre ++ [k]).count k : Nat) = pre.count k + 1 := by simp [List.count_append]
  have cj : ∀ j, j ≠ k → ((pre ++ [k]).count j : Nat) = pre.count j := fun j h => by
    rw [List.count_append, List.count_singleton]
    simp [Ne.symm h]
  refine ⟨fun p hp => ?_, fun j hj => ?_, ?_⟩
  · unfold putK at hp
    split at hp
    · obtain ⟨q, hq, e⟩ := List.mem_map.mp hp
      obtain ⟨j, hj, mj⟩ := t.of q hq
      by_cases z : q.1 = (Sum.inl k : Key)
      · rw [if_pos z] at e
        refine ⟨k, ?_, by simp⟩
        rw [← e, z, ck]
        rfl
      · rw [if_neg z] at e
        have nj : j ≠ k := fun y => z (by rw [hj, y])
        refine ⟨j, ?_, List.mem_append_left _ mj⟩
        rw [← e, hj, cj j nj]
    · rcases List.mem_append.mp hp with h | h
      · obtain ⟨j, hj, mj⟩ := t.of p h
        rename_i na
        have nj : j ≠ k := fun y => na (List.any_eq_true.mpr ⟨p, h, by rw [hj, y]; simp⟩)
        exact ⟨j, by rw [hj, cj j nj], List.mem_append_left _ mj⟩
      · refine ⟨k, ?_, by simp⟩
        rw [List.mem_singleton.mp h, ck]
        rfl
  · unfold putK
    split
    · rename_i ha
      rcases List.mem_append.mp hj with h | h
      · obtain ⟨p, hp, e⟩ := t.all j h
        refine ⟨if p.1 = (Sum.inl k : Key) then (p.1, V.int ((pre.count k : Nat) + 1)) else p, List.mem_map.mpr ⟨p, hp, rfl⟩, ?_⟩
        split <;> exact e
      · rw [List.mem_singleton.mp h]
        obtain ⟨p, hp, e⟩ := List.any_eq_true.mp ha
        have e' := of_decide_eq_true e
        exact ⟨_, List.mem_map.mpr ⟨p, hp, rfl⟩, by rw [if_pos e']; exact e'⟩
    · rcases List.mem_append.mp hj with h | h
      · obtain ⟨p, hp, e⟩ := t.all j h
        exact ⟨p, List.mem_append_left _ hp, e⟩
      · exact ⟨_, List.mem_append_right _ (List.mem_singleton.mpr rfl), by rw [List.mem_singleton.mp h]⟩
  · have := length_putK kvs (Sum.inl k) (.int ((pre.count k : Nat) + 1))
    have := t.len
    rw [List.length_append, List.length_singleton]
    omega
def vals (kvs : List (Key × V)) : List Int := kvs.map fun p => match p.2 with | .int z => z | _ => 0
theorem Tally.vals {kvs : List (Key × V)} {pre : List Int} (t : Tally kvs pre) : kvs.map (·.2) = (vals kvs).map V.int := by
  unfold K08.vals
  rw [List.map_map]
  refine List.map_congr_left fun p hp => ?_
  obtain ⟨k, hk, _⟩ := t.of p hp
  rw [hk]
  rfl
theorem Tally.most {kvs : List (Key × V)} {pre : List Int} (t : Tally kvs pre) {m : Int} (h : (K08.vals kvs = [] ∧ m = 0) ∨ (m ∈ K08.vals kvs ∧ ∀ j ∈ K08.vals kvs, j ≤ m)) : m = (K08.most pre : Nat) := by
  have back : ∀ k ∈ pre, ((pre.count k : Nat) : Int) ∈ K08.vals kvs := fun k hk => by
    obtain ⟨p, hp, e⟩ := t.all k hk
    obtain ⟨j, hj, _⟩ := t.of p hp
    have ej : j = k := by
      rw [hj] at e
      exact Sum.inl.inj e
    refine List.mem_map.mpr ⟨p, hp, ?_⟩
    rw [hj, ej]
  refine most_is (fun e => ?_) fun ne => ?_
  · rcases h with ⟨_, h⟩ | ⟨h, _⟩
    · exact h
    · exfalso
      have : kvs = [] := List.length_eq_zero_iff.mp (by have := t.len; rw [e] at this; simpa using this)
      rw [this] at h
      cases h
  · rcases h with ⟨h, _⟩ | ⟨h, g⟩
    · exfalso
      cases pre with
      | nil => exact ne rfl
      | cons k r =>
        have := back k List.mem_cons_self
        rw [h] at this
        cases this
    · refine ⟨?_, fun e he => g _ (back e he)⟩
      obtain ⟨p, hp, e⟩ := List.mem_map.mp h
      obtain ⟨k, hk, mk⟩ := t.of p hp
      rw [hk] at e
      exact ⟨k, mk, e.symm⟩
end K08

set_option Elab.async false
set_option linter.all false
set_option maxRecDepth 100000
set_option maxHeartbeats 4000000
namespace My
open PySem PySem.Spec PyProof.Rows L2 Own Mt
open K08 (most ends count Tally vals most_is)
theorem ends_at {ts : List (List Int)} {sd i : Nat} {r : List Int} (h : ts[i]? = some r) : (ends ts sd)[i]? = some (r.getD sd 0) := by
  unfold ends
  rw [List.getElem?_map, h]
  rfl
section
variable {P : Program} {w : World} {K : PySem.W.Frag} {mg : Str → Option Value} {base : Heap} {W : Tbs}
def spMost (K : PySem.W.Frag) (W : Tbs) : Sp := fun vs H Q _ => ∃ (a : Addr) (ts : List (List Int)) (sd : Nat), vs = [.ref a, .int sd] ∧ Rows K H a ts ∧ (∀ r ∈ ts, sd < r.length) ∧ ts.length ≤ 1000 ∧
  ∀ H', Ext W H H' → Q (.int (most (ends ts sd) : Nat)) H'
theorem ok_most_at (T : Txt K mg) : FnOk P w K mg base CX0 1 T.f_most_at T.d_most_at ["rows", "side"] (spMost K W) := by
  refine T.D_most_at.F.ok sc_most_at (fun vs H Q E h => ?_) (fun cdv A outer s H vs Q E hr h => ?_)
  · obtain ⟨a, ts, sd, rfl, _⟩ := h
    rfl
  · obtain ⟨a, ts, sd, rfl, ⟨as, hS, hE⟩, hw, hlen, q⟩ := h
    refine ⟨_, (pss_cons (ps_set (i := 2) sc_most_at.nd rfl (.inl rfl) pe_dnewK)
    (pss_cons (ps_for PassesOwn.never rfl (pi_list (pv 0)) (pg_name (i := 3) sc_most_at.nd rfl (.inl rfl)) 
      (pss_cons (ps_set (i := 4) sc_most_at.nd rfl (.inl rfl) (pe_ix (ixT K) (pv 3) (pv 1) (fun _ _ => rfl)))
      (pss_one (ps_dput (hu_of hr) (pv 2) (pv 4) (pe_op op_add (pe_dget2 (hu_of hr) (pv 2) (pv 4) pe_int ⟨rfl, rfl, rfl, rfl⟩) pe_int) rfl))))
    (pss_one (ps_ret (pe_callBK (cr_maxD rfl) (by rfl) T.z_max (by decide +kernel) (pa_cons (bm0C K (pe_bm0 PySem.F.plainAttrs_dict PySem.F.slot_dict_values PySem.F.type_dict_values mt_vals (pv 2))) pa_nil) (pk_cons pe_int pk_nil)))))), ?_⟩
    -- met = {}
    intro d nd
    refine newO W (H := H) (p := d) nd fun H0 x0 hd0 => ?_
    -- for row in rows
    refine ⟨_, rfl, a, rfl, ⟨_, x0.seq hS⟩, for_list (K := K) (a := a) (xs := as.map V.ref)
      (fun i σ H2 => ∃ (v3 v4 : Option V) (kvs : List (Key × V)), σ = [some (.ref a), some (.int sd), some (.ref d), v3, v4] ∧ Ext W H H2 ∧ H2 d = some (.dK kvs) ∧ Tally kvs ((ends ts sd).take i))
      ⟨none, none, [], rfl, x0, hd0, .nil⟩ (fun i σ H2 _ ⟨_, _, _, _, x, _⟩ => x.seq hS) ?_ ?_⟩
    · rintro i y σ H2 hi ⟨v3, v4, kvs, rfl, x, hd, hT⟩
      obtain ⟨b, r, rfl, hb, hr', hq⟩ := hE.val hi
      have lt := hw r (List.mem_of_getElem? hr')
      have few : kvs.length < sizeLine := by
        have := hT.len
        rw [List.length_take] at this
        unfold ends at this
        rw [List.length_map] at this
        exact small1000 (by omega)
      refine ⟨_, rfl, _, rfl, b, _, _, _, rfl, rfl, x.tup hq, at_sd lt, ?_⟩
      refine ⟨_, rfl, d, rfl, .inl ⟨kvs, .inl hd⟩, _, rfl, _, DGet.k (k := Sum.inl (r.getD sd 0)) hd, _, _, hT.look _, rfl, ?_⟩
      refine ⟨_, rfl, _, rfl, d, _, rfl, DPut.k (k := Sum.inl (r.getD sd 0)) hd few, ?_⟩
      refine ⟨_, _, _, rfl, x.put (.inl nd) hd, upd_same, ?_⟩
      rw [take_one (ends_at hr')]
      exact hT.put _
    · rintro σ H2 ⟨v3, v4, kvs, rfl, x, hd, hT⟩
      have el : (ends ts sd).take (as.map V.ref).length = ends ts sd := List.take_of_length_le (by
        unfold ends
        rw [List.length_map, List.length_map, hE.len]
        exact Nat.le_refl _)
      rw [el] at hT
      -- return max(met.values(), default=0)
      refine ⟨_, rfl, .inr (.inr (.inl ⟨rfl, .inl ⟨kvs, hd⟩⟩)), d, kvs, rfl, rfl, hd, fun v nv => ?_⟩
      refine newO W (H := H2) (p := v) nv fun H3 x3 hv => ?_
      refine ⟨v, d, kvs, vals kvs, 0, rfl, rfl, hv, x3.dk hd, hT.vals, fun e => ?_, fun m hm hg => ?_⟩
      · rw [hT.most (.inl ⟨e, rfl⟩)]
        exact q _ (x.trans x3)
      · rw [hT.most (.inr ⟨hm, hg⟩)]
        exact q _ (x.trans x3)
def spCount (K : PySem.W.Frag) (W : Tbs) : Sp := fun vs H Q _ => ∃ (a : Addr) (ts : List (List Int)), vs = [.ref a] ∧ Rows K H a ts ∧ (∀ r ∈ ts, 2 ≤ r.length) ∧ ts.length ≤ 1000 ∧
  ∀ H', Ext W H H' → Q (.int (count ts : Nat)) H'
theorem ok_count_of (T : Txt K mg) : FnOk P w K mg base CX0 2 T.f_count_of T.d_count_of ["rows"] (spCount K W) := by
  have ok_most_at : FnOk P w K mg base CX0 1 T.f_most_at T.d_most_at ["rows", "side"] (spMost K W) := ok_most_at T
  refine T.D_count_of.F.ok sc_count_of (fun vs H Q E h => ?_) (fun cdv A outer s H vs Q E hr h => ?_)
  · obtain ⟨a, ts, rfl, _⟩ := h
    rfl
  · obtain ⟨a, ts, rfl, hR, hw, hlen, q⟩ := h
    refine ⟨_, (pss_one (ps_ret (pe_callB (call_max2 rfl) (by rfl) T.z_max (by decide +kernel) (pa_cons (pe_call ok_most_at (hr.mono (by decide)) rfl T.D_most_at.g T.D_most_at.F.kp T.D_most_at.b .nil pass0 (pa_cons (pv 0) (pa_cons (pe_gi rfl T.c_LEFT) pa_nil))) (pa_cons (pe_call ok_most_at (hr.mono (by decide)) rfl T.D_most_at.g T.D_most_at.F.kp T.D_most_at.b .nil pass0 (pa_cons (pv 0) (pa_cons (pe_gi rfl T.c_RIGHT) pa_nil))) pa_nil))))), ?_⟩
    refine ⟨_, rfl, a, ts, 0, rfl, hR, fun r h => by have := hw r h; omega, hlen, fun H1 x1 => ?_⟩
    refine ⟨_, rfl, a, ts, 1, rfl, x1.rows hR, fun r h => by have := hw r h; omega, hlen, fun H2 x2 => ?_⟩
    refine ⟨_, _, rfl, ?_⟩
    have e : (if ((most (ends ts 1) : Nat) : Int) > (most (ends ts 0) : Nat) then ((most (ends ts 1) : Nat) : Int) else (most (ends ts 0) : Nat)) = (count ts : Nat) := by
      unfold count
      split <;> omega
    rw [e]
    exact q _ (x1.trans x2)
/-! whole numbers, and those of a span -/
def isIn (v : V) (lo hi : Int) : Bool := match v with
  | .int i => decide (lo ≤ i) && decide (i ≤ hi)
  | _ => false
def isInt : V → Bool
  | .int _ => true
  | _ => false
theorem ty_int {H : Hp} {v : V} {t : String} (h : TyB K H v t) : decide (t = "int") = isInt v := by
  cases h <;> rfl
def spWhole (K : PySem.W.Frag) : Sp := fun vs H Q _ => ∃ (v : V) (t : String), vs = [v] ∧ TyB K H v t ∧ Q (.bl (isInt v)) H
theorem ok_is_whole (T : Txt K mg) : FnOk P w K mg base CX0 1 T.f_is_whole T.d_is_whole ["worth"] (spWhole K) := by
  refine T.D_is_whole.F.ok sc_is_whole (fun vs H Q E h => ?_) (fun cdv A outer s H vs Q E hr h => ?_)
  · obtain ⟨v, t, rfl, _⟩ := h
    rfl
  · obtain ⟨v, t, rfl, ht, q⟩ := h
    refine ⟨_, (pss_one (ps_ret (pe_cmpR op_eqTy (pe_callTy (typ1 K) (by rfl) T.z_type (by decide +kernel) (pa_cons (pv 0) pa_nil)) (pe_bltn (v := .ty "int") (by rfl) T.z_int (by decide +kernel) rfl) (nomark _)))), ?_⟩
    refine ⟨_, rfl, v, t, rfl, ht, _, _, rfl, rfl, TyB.name ht, by simp [tyNames], ?_⟩
    rw [ty_int ht]
    exact q
def spWithin (K : PySem.W.Frag) : Sp := fun vs H Q _ => ∃ (v : V) (t : String) (lo hi : Int), vs = [v, .int lo, .int hi] ∧ TyB K H v t ∧ Q (.bl (isIn v lo hi)) H
theorem ok_is_within (T : Txt K mg) : FnOk P w K mg base CX0 2 T.f_is_within T.d_is_within ["worth", "low", "high"] (spWithin K) := by
  have ok_is_whole : FnOk P w K mg base CX0 1 T.f_is_whole T.d_is_whole ["worth"] (spWhole K) := ok_is_whole T
  refine T.D_is_within.F.ok sc_is_within (fun vs H Q E h => ?_) (fun cdv A outer s H vs Q E hr h => ?_)
  · obtain ⟨v, t, lo, hi, rfl, _⟩ := h
    rfl
  · obtain ⟨v, t, lo, hi, rfl, ht, q⟩ := h
    refine ⟨_, (pss_one (ps_ret (pe_and (pe_call ok_is_whole (hr.mono (by decide)) rfl T.D_is_whole.g T.D_is_whole.F.kp T.D_is_whole.b .nil pass0 (pa_cons (pv 0) pa_nil)) (pe_one (pe_chain op_le op_le (pv 1) (pv 0) (pv 2)))))), ?_⟩
    refine ⟨_, rfl, v, t, rfl, ht, _, rfl, ?_⟩
    cases v with
    | int i =>
      refine iteT ?_
      refine ⟨_, rfl, _, rfl, _, _, rfl, rfl, _, rfl, ?_⟩
      refine ite2 (fun h => ?_) (fun h => ?_)
      · refine ⟨_, rfl, _, _, rfl, rfl, ?_⟩
        have e : isIn (.int i) lo hi = decide (i ≤ hi) := by
          show (decide (lo ≤ i) && decide (i ≤ hi)) = _
          rw [h, Bool.true_and]
        rw [e] at q
        exact q
      · have e : isIn (.int i) lo hi = false := by
          show (decide (lo ≤ i) && decide (i ≤ hi)) = _
          rw [show decide (lo ≤ i) = false by simpa using h, Bool.false_and]
        rw [e] at q
        exact q
    | _ => exact iteF q
end
end My

set_option Elab.async false
set_option linter.all false
set_option maxRecDepth 100000
set_option maxHeartbeats 4000000
namespace My
open PySem PySem.Spec PyProof.Rows L2 Own Mt
/-! the hall -/
theorem n_re : ¬ (("_rows" : Str) = "_ends") := by decide +kernel
theorem n_ne : ¬ (("_next" : Str) = "_ends") := by decide +kernel
theorem n_nr : ¬ (("_next" : Str) = "_rows") := by decide +kernel
theorem n_er : ¬ (("_ends" : Str) = "_rows") := by decide +kernel
theorem n_en : ¬ (("_ends" : Str) = "_next") := by decide +kernel
theorem n_rn : ¬ (("_rows" : Str) = "_next") := by decide +kernel
def hf (e d : Addr) (n : Int) : List (Str × V) := putF "_next" (.int n) (putF "_rows" (.ref d) (putF "_ends" (.ref e) []))
theorem hf_eq (e d : Addr) (n : Int) : hf e d n = ([("_ends", .ref e), ("_rows", .ref d), ("_next", .int n)] : List (Str × V)) := by
  show putF "_next" (.int n) (if ("_ends" : Str) = "_rows" then [(("_rows" : Str), V.ref d)] else (("_ends" : Str), V.ref e) :: putF "_rows" (V.ref d) []) = _
  rw [if_neg n_er]
  show (if ("_ends" : Str) = "_next" then _ else (("_ends" : Str), V.ref e) :: (if ("_rows" : Str) = "_next" then _ else (("_rows" : Str), V.ref d) :: putF "_next" (V.int n) [])) = _
  rw [if_neg n_en, if_neg n_rn]
  all_goals rfl
theorem hf_ends (e d : Addr) (n : Int) : (hf e d n).lookup ("_ends" : Str) = some (.ref e) := by
  unfold hf
  rw [lookup_putF, if_neg n_en, lookup_putF, if_neg n_er, lookup_putF, if_pos rfl]
theorem hf_rows (e d : Addr) (n : Int) : (hf e d n).lookup ("_rows" : Str) = some (.ref d) := by
  unfold hf
  rw [lookup_putF, if_neg n_rn, lookup_putF, if_pos rfl]
theorem hf_next (e d : Addr) (n : Int) : (hf e d n).lookup ("_next" : Str) = some (.int n) := by
  unfold hf
  rw [lookup_putF, if_pos rfl]
theorem hf_no (e d : Addr) (n : Int) {m : Str} (h1 : ¬ m = "_next") (h2 : ¬ m = "_rows") (h3 : ¬ m = "_ends") : (hf e d n).lookup m = none := by
  unfold hf
  rw [lookup_putF, if_neg h1, lookup_putF, if_neg h2, lookup_putF, if_neg h3]
  all_goals rfl
theorem hf_put (e d : Addr) (n m : Int) : putF "_next" (.int m) (hf e d n) = hf e d m := by
  rw [hf_eq, hf_eq]
  show (if ("_ends" : Str) = "_next" then _ else (("_ends" : Str), V.ref e) :: (if ("_rows" : Str) = "_next" then _ else (("_rows" : Str), V.ref d) :: (if ("_next" : Str) = "_next" then [(("_next" : Str), V.int m)] else _))) = _
  rw [if_neg n_en, if_neg n_rn, if_pos rfl]
theorem hf_few (e d : Addr) (n : Int) : (hf e d n).length < 1000 := by
  rw [hf_eq]
  show 3 < 1000
  decide
/-- a hall stands at a, its dict at d: so many ends, so many numbers given, the pairs R in their order -/
structure HallOf (K : PySem.W.Frag) (C : Addr) (H : Hp) (a d : Addr) (L Y n : Nat) (R : List Pr) : Prop where
  ex : ∃ (dx e : Addr) (kvs : List (Key × V)), H a = some (.ins C dx (hf e d n)) ∧ SqT K H e [.int (L : Nat), .int (Y : Nat)] ∧ H d = some (.dK kvs) ∧ DEach K H kvs R
section
variable {P : Program} {w : World} {K : PySem.W.Frag} {mg : Str → Option Value} {base : Heap} {W : Tbs}
theorem HallOf.ext {C a d : Addr} {H H' : Hp} {L Y n : Nat} {R : List Pr} (h : HallOf K C H a d L Y n R) {S : List Addr} (x : Fx W S H H') (h1 : a ∉ S := by simp) (h2 : d ∉ S := by simp) : HallOf K C H' a d L Y n R := by
  obtain ⟨dx, e, kvs, ha, he, hd, hE⟩ := h.ex
  exact ⟨dx, e, kvs, x.ins ha h1, x.tup he, x.dk hd h2, x.deach hE⟩
theorem HallOf.ne {C a d : Addr} {H : Hp} {L Y n : Nat} {R : List Pr} (h : HallOf K C H a d L Y n R) : a ≠ d := by
  obtain ⟨dx, e, kvs, ha, he, hd, hE⟩ := h.ex
  exact ne_of ha hd (by intro z; cases z)
/-- how many ends a side has -/
def sideOf (L Y s : Nat) : Nat := if s = 0 then L else Y
theorem ends_at2 (L Y s : Nat) (h : s < 2) : atI [.int (L : Nat), .int (Y : Nat)] (s : Int) = some (V.int (sideOf L Y s : Nat)) := by
  match s, h with
  | 0, _ => exact atI_nat (j := 0) rfl
  | 1, _ => exact atI_nat (j := 1) rfl
def spCheckEnd (K : PySem.W.Frag) (C EB : Addr) : Sp := fun vs H Q E => ∃ (a d : Addr) (L Y n : Nat) (R : List Pr) (s : Nat) (v : V) (t : String), vs = [.ref a, .int (s : Nat), v] ∧ HallOf K C H a d L Y n R ∧ s < 2 ∧ TyB K H v t ∧
  (isIn v 0 ((sideOf L Y s : Nat) - 1) = true → Q .non H) ∧ (isIn v 0 ((sideOf L Y s : Nat) - 1) = false → E (.ref EB) none H)
theorem ok_Hall_check_end (T : Txt K mg) : FnOk P w K mg base (L2.CX P w) 3 T.f_Hall_check_end T.d_Hall_check_end ["self", "side", "end"] (spCheckEnd K T.C_Hall T.E_BadEnd) := by
  have ok_is_within : FnOk P w K mg base CX0 2 T.f_is_within T.d_is_within ["worth", "low", "high"] (spWithin K) := ok_is_within T
  refine T.D_Hall_check_end.F.okX sc_Hall_check_end (fun vs H Q E h => ?_) (fun cdv A outer s H vs Q E hr h => ?_)
  · obtain ⟨a, d, L, Y, n, R, sd, v, t, rfl, _⟩ := h
    rfl
  · obtain ⟨a, d, L, Y, n, R, sd, v, t, rfl, hH, hs, ht, q, qe⟩ := h
    obtain ⟨dx, e, kvs, ha, he, hd, hE⟩ := hH.ex
    refine ⟨_, (pss_one (ps_if (pt_not (pt_val (pe_call ok_is_within (hr.mono (by decide)) rfl T.D_is_within.g T.D_is_within.F.kp T.D_is_within.b .nil pass0 (pa_cons (pv 2) (pa_cons pe_int (pa_cons (pe_op op_sub (pe_ix (ixT K) (fldC K (pe_fld (pv 0) rfl)) (pv 1) (fun _ _ => rfl)) pe_int) pa_nil)))))) 
      (pss_one (ps_raise rfl (takes_of rfl rfl rfl rfl) (pmk_own PySem.F.excBase_ValueError T.x_BadEnd.x T.x_BadEnd.g T.x_BadEnd.k (raises_own T.x_BadEnd.b T.x_BadEnd.t) rfl))) pss_nil)), ?_⟩
    refine ⟨_, rfl, _, rfl, a, T.C_Hall, dx, _, _, rfl, ha, T.cl_Hall, T.nA_ends, hf_ends _ _ _, _, rfl, e, _, _, _, rfl, rfl, he, ends_at2 L Y sd hs, _, _, rfl, rfl, v, t, _, _, rfl, ht, _, rfl, ?_⟩
    cases c : isIn v 0 ((sideOf L Y sd : Nat) - 1) with
    | true => exact iteF (q c)
    | false => exact iteT (qe c)
def spCount0 (K : PySem.W.Frag) (W : Tbs) (C : Addr) : Sp := fun vs H Q _ => ∃ (a d : Addr) (L Y n : Nat) (R : List Pr), vs = [.ref a] ∧ HallOf K C H a d L Y n R ∧ R.length ≤ 100 ∧ ∀ H', Ext W H H' → Q (.int (cnt R : Nat)) H'
theorem rows_len (R : List Pr) : ∀ r ∈ R.map row, 2 ≤ r.length := by
  intro r hr
  obtain ⟨p, _, rfl⟩ := List.mem_map.mp hr
  show 2 ≤ 3
  decide
theorem ok_Hall_count (T : Txt K mg) : FnOk P w K mg base CX0 3 T.f_Hall_count T.d_Hall_count ["self"] (spCount0 K W T.C_Hall) := by
  have ok_count_of : FnOk P w K mg base CX0 2 T.f_count_of T.d_count_of ["rows"] (spCount K W) := ok_count_of T
  refine T.D_Hall_count.F.ok sc_Hall_count (fun vs H Q E h => ?_) (fun cdv A outer s H vs Q E hr h => ?_)
  · obtain ⟨a, d, L, Y, n, R, rfl, _⟩ := h
    rfl
  · obtain ⟨a, d, L, Y, n, R, rfl, hH, few, q⟩ := h
    obtain ⟨dx, e, kvs, ha, he, hd, hE⟩ := hH.ex
    refine ⟨_, (pss_one (ps_ret (pe_call ok_count_of (hr.mono (by decide)) rfl T.D_count_of.g T.D_count_of.F.kp T.D_count_of.b .nil pass0 (pa_cons (pe_callTy (call_listVw rfl) (by rfl) T.z_list (by decide +kernel) (pa_cons (bm0C K (pe_bm0 PySem.F.plainAttrs_dict PySem.F.slot_dict_values PySem.F.type_dict_values mt_vals (fldC K (pe_fld (pv 0) rfl)))) pa_nil)) pa_nil)))), ?_⟩
    refine ⟨_, rfl, a, T.C_Hall, dx, _, _, rfl, ha, T.cl_Hall, T.nA_rows, hf_rows _ _ _, .inr (.inr (.inl ⟨rfl, .inl ⟨kvs, hd⟩⟩)), d, kvs, rfl, rfl, hd, fun v nv => ?_⟩
    refine newO W (H := H) (p := v) nv fun H1 x1 hv => ?_
    refine ⟨v, d, kvs, rfl, hv, x1.dk hd, fun l nl => ?_⟩
    refine newO W (H := H1) (p := l) nl fun H2 x2 hl => ?_
    obtain ⟨as, e1, e2⟩ := hE.vals
    rw [e1] at hl
    refine ⟨l, R.map row, rfl, ⟨as, SqL.of hl, (x1.trans x2).each e2⟩, rows_len R, by rw [List.length_map]; omega, fun H3 x3 => q _ (x1.trans (x2.trans x3))⟩
def spCheckNumber (K : PySem.W.Frag) (C EN : Addr) : Sp := fun vs H Q E => ∃ (a d : Addr) (L Y n : Nat) (R : List Pr) (v : V) (t : String), vs = [.ref a, v] ∧ HallOf K C H a d L Y n R ∧ TyB K H v t ∧
  (∀ p ∈ R, v = .int (p.n : Nat) → Q .non H) ∧ ((∀ p ∈ R, v ≠ .int (p.n : Nat)) → E (.ref EN) none H)
theorem valV_int {H : Hp} {kvs : List (Key × V)} {R : List Pr} (hE : DEach K H kvs R) (i : Int) : (valV kvs (Sum.inl i)).isSome = true ↔ ∃ p ∈ R, i = (p.n : Nat) := by
  rw [← valV_any, List.any_eq_true]
  constructor
  · rintro ⟨kv, h1, h2⟩
    have h3 : kv.1 ∈ kvs.map (·.1) := List.mem_map.mpr ⟨kv, h1, rfl⟩
    rw [hE.keys] at h3
    obtain ⟨p, hp, e⟩ := List.mem_map.mp h3
    have := of_decide_eq_true h2
    rw [← e] at this
    exact ⟨p, hp, (Sum.inl.inj this).symm⟩
  · rintro ⟨p, hp, rfl⟩
    have h3 : (Sum.inl (p.n : Int) : Key) ∈ kvs.map (·.1) := by
      rw [hE.keys]
      exact List.mem_map.mpr ⟨p, hp, rfl⟩
    obtain ⟨kv, h1, h2⟩ := List.mem_map.mp h3
    exact ⟨kv, h1, decide_eq_true h2⟩
theorem ok_Hall_check_number (T : Txt K mg) : FnOk P w K mg base (L2.CX P w) 2 T.f_Hall_check_number T.d_Hall_check_number ["self", "number"] (spCheckNumber K T.C_Hall T.E_NoPair) := by
  have ok_is_whole : FnOk P w K mg base CX0 1 T.f_is_whole T.d_is_whole ["worth"] (spWhole K) := ok_is_whole T
  refine T.D_Hall_check_number.F.okX sc_Hall_check_number (fun vs H Q E h => ?_) (fun cdv A outer s H vs Q E hr h => ?_)
  · obtain ⟨a, d, L, Y, n, R, v, t, rfl, _⟩ := h
    rfl
  · obtain ⟨a, d, L, Y, n, R, v, t, rfl, hH, ht, q, qe⟩ := h
    obtain ⟨dx, e, kvs, ha, he, hd, hE⟩ := hH.ex
    refine ⟨_, (pss_one (ps_if (PW.pt (pw_or (pt_not (pt_val (pe_call ok_is_whole (hr.mono (by decide)) rfl T.D_is_whole.g T.D_is_whole.F.kp T.D_is_whole.b .nil pass0 (pa_cons (pv 1) pa_nil)))) (pw_or1 (pt_cmp (pc_dnotin (hu_of hr) (pv 1) (fldC K (pe_fld (pv 0) rfl))))))) 
      (pss_one (ps_raise rfl (takes_of rfl rfl rfl rfl) (pmk_own PySem.F.excBase_ValueError T.x_NoPair.x T.x_NoPair.g T.x_NoPair.k (raises_own T.x_NoPair.b T.x_NoPair.t) rfl))) pss_nil)), ?_⟩
    refine ⟨_, rfl, v, t, rfl, ht, _, rfl, ?_⟩
    cases v with
    | int i =>
      refine iteF ?_
      refine ⟨_, rfl, _, rfl, a, T.C_Hall, dx, _, _, rfl, ha, T.cl_Hall, T.nA_rows, hf_rows _ _ _, d, _, rfl, DGet.k (k := Sum.inl i) hd, _, rfl, ?_⟩
      cases c : (valV kvs (Sum.inl i)).isSome with
      | true =>
        obtain ⟨p, hp, e⟩ := (valV_int hE i).mp c
        exact iteF (q p hp (by rw [e]))
      | false =>
        refine iteT (qe fun p hp z => ?_)
        have := (valV_int hE i).mpr ⟨p, hp, V.int.inj z⟩
        rw [c] at this
        cases this
    | _ => exact iteT (iteT (qe fun p hp z => by cases z))
end
end My

set_option Elab.async false
set_option linter.all false
set_option maxRecDepth 100000
set_option maxHeartbeats 4000000
namespace My
open PySem PySem.Spec PyProof.Rows L2 Own Mt
open K08 (most ends)
section
variable {P : Program} {w : World} {K : PySem.W.Frag} {mg : Str → Option Value} {base : Heap} {W : Tbs}
/-! how great a count may be -/
theorem cnt_le (R : List Pr) : cnt R ≤ R.length := by
  rcases cnt_at R with ⟨h, _⟩ | ⟨s, e, _, _, h⟩
  · omega
  · rw [← h]
    unfold deg
    exact Nat.le_trans List.count_le_length (by rw [List.length_map]; exact Nat.le_refl _)
theorem many_le (R : List Pr) (l r : Nat) : manyWith R l r ≤ R.length + 1 := by
  rw [many_is R 0 l r 0]
  have := cnt_le (R ++ [⟨0, l, r, 0⟩])
  rw [List.length_append, List.length_singleton] at this
  exact this
theorem place_len {R : List Pr} {n l r m : Nat} : (place R n l r m).2.length = R.length + 1 := by
  have := congrArg List.length (place_ns (R := R) (n := n) (l := l) (r := r) (m := m))
  rw [List.length_map, List.length_append, List.length_map, List.length_singleton] at this
  exact this
theorem isIn_nat {v : V} {m : Nat} (h : isIn v 0 ((m : Nat) - 1) = true) : ∃ i : Nat, v = .int (i : Nat) ∧ i < m := by
  cases v with
  | int i =>
    have h' : (decide (0 ≤ i) && decide (i ≤ (m : Int) - 1)) = true := h
    simp only [Bool.and_eq_true, decide_eq_true_eq] at h'
    exact ⟨i.toNat, by congr 1; omega, by omega⟩
  | _ => cases h
theorem isIn_of {i m : Nat} (h : i < m) : isIn (.int (i : Nat)) 0 ((m : Nat) - 1) = true := by
  show (decide (0 ≤ (i : Int)) && decide ((i : Int) ≤ (m : Int) - 1)) = true
  simp only [Bool.and_eq_true, decide_eq_true_eq]
  omega
def spCome (K : PySem.W.Frag) (W : Tbs) (C EB EM : Addr) : Sp := fun vs H Q E => ∃ (a d : Addr) (L Y n : Nat) (R : List Pr) (v1 v2 : V) (t1 t2 : String), vs = [.ref a, v1, v2] ∧ HallOf K C H a d L Y n R ∧ Good R ∧ (∀ p ∈ R, p.n < n) ∧ R.length ≤ 50 ∧ (∀ p ∈ W.l, LamX.TabS H p.1 p.2) ∧ TyB K H v1 t1 ∧ TyB K H v2 t2 ∧
  (∀ l r : Nat, v1 = .int (l : Nat) → v2 = .int (r : Nat) → l < L → r < Y → R.length < 40 → ∀ b c H', H b = none → H c = none → Fx W [a, d] H H' → HallOf K C H' a d L Y (n + 1) (come R n l r).2 → ToldAt K H' b c (come R n l r).1 → Q (.ref b) H') ∧
  ((isIn v1 0 ((L : Nat) - 1) && isIn v2 0 ((Y : Nat) - 1)) = false → E (.ref EB) none H) ∧
  ((isIn v1 0 ((L : Nat) - 1) && isIn v2 0 ((Y : Nat) - 1)) = true → 40 ≤ R.length → E (.ref EM) none H)
theorem ok_Hall_come (T : Txt K mg) (B : LamX.TabB base mg T.k_place T.p_place) (WO : Wok W T.p_place) : FnOk P w K mg base (L2.CX P w) 5 T.f_Hall_come T.d_Hall_come ["self", "left", "right"] (spCome K W T.C_Hall T.E_BadEnd T.E_TooMany) := by
  have ok_Hall_check_end : FnOk P w K mg base (L2.CX P w) 3 T.f_Hall_check_end T.d_Hall_check_end ["self", "side", "end"] (spCheckEnd K T.C_Hall T.E_BadEnd) := ok_Hall_check_end T
  have ok_count_of : FnOk P w K mg base CX0 2 T.f_count_of T.d_count_of ["rows"] (spCount K W) := ok_count_of T
  have ok_place : FnOk P w K mg base CX0 4 T.f_place T.d_place ["rows", "number", "left", "right", "many"] (spPlace K W) := ok_place T B WO
  refine T.D_Hall_come.F.okX sc_Hall_come (fun vs H Q E h => ?_) (fun cdv A outer s H vs Q E hr h => ?_)
  · obtain ⟨a, d, L, Y, n, R, v1, v2, t1, t2, rfl, _⟩ := h
    rfl
  · obtain ⟨a, d, L, Y, n, R, v1, v2, t1, t2, rfl, hH, G, hn, few, tabs, ht1, ht2, q, qb, qm⟩ := h
    obtain ⟨dx, e, kvs, ha, he, hd, hE⟩ := hH.ex
    have no : (hf e d (n : Int)).lookup ("_check_end" : Str) = none := hf_no _ _ _ (by decide +kernel) (by decide +kernel) (by decide +kernel)
    refine ⟨_, (pss_cons (ps_expr (pe_meth (pv 0) T.cl_Hall T.D_Hall_check_end.m ok_Hall_check_end (hr.mono (by decide)) T.D_Hall_check_end.b .nil (passes_call (takes_of rfl rfl rfl rfl) (fun _ _ _ _ h => h)) (pa_cons (pe_gi rfl T.c_LEFT) (pa_cons (pv 1) pa_nil))))
    (pss_cons (ps_expr (pe_meth (pv 0) T.cl_Hall T.D_Hall_check_end.m ok_Hall_check_end (hr.mono (by decide)) T.D_Hall_check_end.b .nil (passes_call (takes_of rfl rfl rfl rfl) (fun _ _ _ _ h => h)) (pa_cons (pe_gi rfl T.c_RIGHT) (pa_cons (pv 2) pa_nil))))
    (pss_cons (ps_if (pt_cmpR op_ge (pe_callB call_lenD (by rfl) T.z_len PySem.boot_len (pa_cons (fldC K (pe_fld (pv 0) rfl)) pa_nil)) (pe_gi rfl T.c_MOST_PAIRS) (nomark _)) 
      (pss_one (ps_raise rfl (takes_of rfl rfl rfl rfl) (pmk_own PySem.F.excBase_ValueError T.x_TooMany.x T.x_TooMany.g T.x_TooMany.k (raises_own T.x_TooMany.b T.x_TooMany.t) rfl))) pss_nil)
    (pss_cons (ps_set (i := 3) sc_Hall_come.nd rfl (.inl rfl) (pe_call ok_count_of (hr.mono (by decide)) rfl T.D_count_of.g T.D_count_of.F.kp T.D_count_of.b .nil pass0 (pa_cons (pe_op op_cat (pe_callTy (call_listVw rfl) (by rfl) T.z_list (by decide +kernel) (pa_cons (bm0C K (pe_bm0 PySem.F.plainAttrs_dict PySem.F.slot_dict_values PySem.F.type_dict_values mt_vals (fldC K (pe_fld (pv 0) rfl)))) pa_nil)) (pe_lst (pa_cons (pe_tup (pa_cons (pv 1) (pa_cons (pv 2) pa_nil))) pa_nil))) pa_nil)))
    (pss_cons (ps_set (i := 4) sc_Hall_come.nd rfl (.inl rfl) (fldC K (pe_fld (pv 0) rfl)))
    (pss_cons (ps_fldaug (pv 0) pe_int in_add)
    (pss_one (ps_ret (pe_call ok_place (hr.mono (by decide)) rfl T.D_place.g T.D_place.F.kp T.D_place.b .nil pass0 (pa_cons (fldC K (pe_fld (pv 0) rfl)) (pa_cons (pv 4) (pa_cons (pv 1) (pa_cons (pv 2) (pa_cons (pv 3) pa_nil)))))))))))))), ?_⟩
    refine ⟨_, rfl, a, dx, _, rfl, ha, no, _, rfl, a, d, L, Y, n, R, 0, v1, t1, rfl, hH, by decide, ht1, fun i1 => ?_, fun i1 => qb (by rw [show isIn v1 0 ((L : Nat) - 1) = false from i1, Bool.false_and])⟩
    refine ⟨_, rfl, a, dx, _, rfl, ha, no, _, rfl, a, d, L, Y, n, R, 1, v2, t2, rfl, hH, by decide, ht2, fun i2 => ?_, fun i2 => qb (by rw [show isIn v2 0 ((Y : Nat) - 1) = false from i2, Bool.and_false])⟩
    have i1 : isIn v1 0 ((L : Nat) - 1) = true := i1
    have i2 : isIn v2 0 ((Y : Nat) - 1) = true := i2
    refine ⟨_, rfl, a, T.C_Hall, dx, _, _, rfl, ha, T.cl_Hall, T.nA_rows, hf_rows _ _ _, d, kvs, rfl, hd, _, _, rfl, rfl, _, rfl, ite2 (fun c => ?_) (fun c => ?_)⟩
    · refine qm (by rw [i1, i2]; rfl) ?_
      have := of_decide_eq_true c
      rw [hE.len] at this
      omega
    · have f40 : R.length < 40 := by
        have c : ¬ (decide ((40 : Int) ≤ (kvs.length : Nat)) = true) := c
        rw [decide_eq_true_eq, hE.len] at c
        omega
      obtain ⟨l, rfl, hl⟩ := isIn_nat i1
      obtain ⟨r, rfl, hr'⟩ := isIn_nat i2
      -- list(self._rows.values()) + [(left, right)]
      refine ⟨_, rfl, a, T.C_Hall, dx, _, _, rfl, ha, T.cl_Hall, T.nA_rows, hf_rows _ _ _, .inr (.inr (.inl ⟨rfl, .inl ⟨kvs, hd⟩⟩)), d, kvs, rfl, rfl, hd, fun v nv => ?_⟩
      refine newO W (H := H) (p := v) nv fun H1 x1 hv => ?_
      refine ⟨v, d, kvs, rfl, hv, x1.dk hd, fun u nu => ?_⟩
      refine newO W (H := H1) (p := u) nu fun H2 x2 hu => ?_
      refine ⟨_, rfl, _, rfl, by show 2 ≤ sizeLine; decide, fun t nt => ?_⟩
      refine newO W (H := H2) (p := t) nt fun H3 x3 ht => ?_
      refine ⟨by show 1 ≤ sizeLine; decide, fun u2 nu2 => ?_⟩
      refine newO W (H := H3) (p := u2) nu2 fun H4 x4 hu2 => ?_
      have hu4 := x4.lst (x3.lst hu)
      refine ⟨u, u2, _, _, rfl, rfl, hu4, hu2, ?_, fun s5 ns5 => ?_⟩
      · rw [List.length_map, hE.len]
        show R.length + 1 ≤ sizeLine
        exact Nat.le_of_lt (small1000 (by omega))
      refine newO W (H := H4) (p := s5) ns5 fun H5 x5 hs5 => ?_
      have x05 : Ext W H H5 := x1.trans (x2.trans (x3.trans (x4.trans x5)))
      obtain ⟨as, e1, e2⟩ := hE.vals
      rw [e1] at hs5
      have ht5 := x5.tp (x4.tp ht)
      refine ⟨s5, R.map row ++ [[(l : Int), (r : Int)]], rfl, ⟨as ++ [t], SqL.of (by rw [hs5, List.map_append]; rfl), Each.snoc (x05.each e2) (.inl (.inl ht5))⟩, ?_, by rw [List.length_append, List.length_map, List.length_singleton]; omega, fun H6 x6 => ?_⟩
      · intro rr hrr
        rcases List.mem_append.mp hrr with z | z
        · exact rows_len R rr z
        · rw [List.mem_singleton.mp z]
          show 2 ≤ 2
          exact Nat.le_refl _
      have x06 := x05.trans x6
      have ha6 := x06.ins ha
      have hd6 := x06.dk hd
      have hE6 := x06.deach hE
      have nad : a ≠ d := hH.ne
      -- number = self._next; self._next += 1
      refine ⟨_, rfl, a, T.C_Hall, dx, _, _, rfl, ha6, T.cl_Hall, T.nA_next, hf_next _ _ _, ?_⟩
      refine ⟨_, rfl, a, T.C_Hall, dx, _, _, rfl, ha6, T.cl_Hall, T.nA_next, hf_next _ _ _, _, _, rfl, rfl, dx, _, ha6, hf_few _ _ _, ?_⟩
      have en : ((n : Nat) : Int) + 1 = ((n + 1 : Nat) : Int) := by omega
      rw [en, hf_put]
      have y7 : Fx W [a, d] H (upd H6 a (.ins T.C_Hall dx (hf e d ((n + 1 : Nat) : Int)))) := x06.up.put (.inr (by simp)) ha6
      have z7 : Fx W [a] H6 (upd H6 a (.ins T.C_Hall dx (hf e d ((n + 1 : Nat) : Int)))) := Fx.refl.put (.inr (by simp)) ha6
      have ha7 : (upd H6 a (.ins T.C_Hall dx (hf e d ((n + 1 : Nat) : Int)))) a = _ := upd_same
      revert y7 z7 ha7
      generalize upd H6 a (.ins T.C_Hall dx (hf e d ((n + 1 : Nat) : Int))) = H7
      intro y7 z7 ha7
      have hd7 := z7.dk hd6 (by simpa using nad.symm)
      have hE7 := z7.deach hE6
      obtain ⟨f0, f1⟩ := come_free R l r
      refine ⟨_, rfl, a, T.C_Hall, dx, _, _, rfl, ha7, T.cl_Hall, T.nA_rows, hf_rows _ _ _, _, rfl, _, rfl, _, rfl, _, rfl, ?_⟩
      refine ⟨d, kvs, R, n, l, r, manyWith R l r, rfl, hd7, hE7, by omega, G.P, G.N, fun z => ?_, by have := many_le R l r; omega, f0, f1, fun p hp => y7.l p hp (tabs p hp), fun b c kvs8 H8 nb nc x8 hd8 hE8 hT8 => ?_⟩
      · obtain ⟨p, hp, ep⟩ := List.mem_map.mp z
        have := hn p hp
        have ep : p.n = n := ep
        omega
      · have y8 : Fx W [a, d] H H8 := y7.trans (x8.wk fun x hx => by simp at hx ⊢; exact .inr hx)
        exact q l r rfl rfl hl hr' f40 b c H8 (y7.f _ nb) (y7.f _ nc) y8 ⟨dx, e, kvs8, x8.ins ha7 (by simpa using nad), y8.tup he, hd8, hE8⟩ hT8
/-! asked -/
def srtI (R : List Pr) : List Nat := srt (R.map (·.n))
theorem sorted_is {R : List Pr} {ks ys : List Int} (h : ks = R.map fun p => ((p.n : Nat) : Int)) (h1 : ys.Perm ks) (h2 : ys.Pairwise (· ≤ ·)) : ys = (srtI R).map fun n : Nat => (n : Int) := by
  have e1 : ((srtI R).map fun n : Nat => (n : Int)).Perm ks := by
    rw [h]
    have := (srt_perm (R.map (·.n))).map (fun n : Nat => (n : Int))
    rw [List.map_map] at this
    exact this
  have e2 : ((srtI R).map fun n : Nat => (n : Int)).Pairwise (· ≤ ·) := by
    rw [List.pairwise_map]
    exact (srt_le _).imp (by intro a b h; omega)
  exact (h1.trans e1.symm).eq_of_pairwise (fun x y _ _ h1 h2 => Int.le_antisymm h1 h2) h2 e2
theorem keys_ints {H : Hp} {kvs : List (Key × V)} {R : List Pr} (hE : DEach K H kvs R) : kvs.map (·.1) = (R.map fun p => ((p.n : Nat) : Int)).map Sum.inl := by
  rw [hE.keys, List.map_map]
  rfl
/-- the pairs, as they are told: rising by their numbers -/
def pairRow (p : Pr) : List Int := [(p.n : Int), (p.l : Int), (p.r : Int), (p.h : Int)]
def pairsOf (R : List Pr) : List (List Int) := (srtI R).map fun n => match pairOf R n with | some p => pairRow p | none => []
theorem srtI_in {R : List Pr} (N : (R.map (·.n)).Nodup) {n : Nat} (h : n ∈ srtI R) : ∃ p ∈ R, p.n = n ∧ pairOf R n = some p := by
  obtain ⟨p, hp, e⟩ := List.mem_map.mp (mem_srt.mp h)
  have e : p.n = n := e
  exact ⟨p, hp, e, by rw [← e]; exact pairOf_is N hp⟩
theorem srtI_len (R : List Pr) : (srtI R).length = R.length := by
  unfold srtI
  rw [(srt_perm _).length_eq, List.length_map]
def spPairs (K : PySem.W.Frag) (W : Tbs) (C : Addr) : Sp := fun vs H Q _ => ∃ (a d : Addr) (L Y n : Nat) (R : List Pr), vs = [.ref a] ∧ HallOf K C H a d L Y n R ∧ R.length < 64 ∧ (R.map (·.n)).Nodup ∧
  ∀ b as H', H b = none → Ext W H H' → H' b = some (.lst (as.map V.ref)) → Each K H' as (pairsOf R) → Q (.ref b) H'
theorem ok_Hall_pairs (T : Txt K mg) : FnOk P w K mg base CX0 1 T.f_Hall_pairs T.d_Hall_pairs ["self"] (spPairs K W T.C_Hall) := by
  refine T.D_Hall_pairs.F.ok sc_Hall_pairs (fun vs H Q E h => ?_) (fun cdv A outer s H vs Q E hr h => ?_)
  · obtain ⟨a, d, L, Y, n, R, rfl, _⟩ := h
    rfl
  · obtain ⟨a, d, L, Y, n, R, rfl, hH, few, N, q⟩ := h
    obtain ⟨dx, e, kvs, ha, he, hd, hE⟩ := hH.ex
    refine ⟨_, (pss_one (ps_ret (pe_lc rfl sc_Hall_pairs.nd (own := [("number", 1)]) (pi_list (pe_callB (sortD K rfl) (by rfl) T.z_sorted (by decide +kernel) (pa_cons (fldC K (pe_fld (pv 0) rfl)) pa_nil))) (blkOk_by (N := N_Hall_pairs) (sc := defScope s_Hall_pairs) (by decide +kernel)) (fun _ _ _ _ _ => (pg_name (i := 1) sc_Hall_pairs.nd rfl (.inl rfl))) (fun _ _ _ _ _ => pts_nil) (fun _ _ _ _ _ => (pe_tup (pa_cons (pv 1) (starC K (pe_dget (hu_of hr) (fldC K (pe_fld (pv 0) rfl)) (pv 1) (fun _ _ => rfl)) pa_nil))))))), ?_⟩
    refine ⟨_, rfl, a, T.C_Hall, dx, _, _, rfl, ha, T.cl_Hall, T.nA_rows, hf_rows _ _ _, d, kvs, _, rfl, .inl hd, keys_ints hE, by rw [List.length_map]; exact few, fun ys u hp hs nu => ?_⟩
    rw [sorted_is rfl hp hs]
    have eV : ((srtI R).map fun n : Nat => (n : Int)).map V.int = vN (srtI R) := (vN_ints _).symm
    rw [eV]
    refine newO W (H := H) (p := u) nu fun H1 x1 hu => ?_
    refine ⟨u, rfl, ⟨_, SqL.of hu⟩, fun D nD => lc_list (K := K) (a := u) (xs := vN (srtI R))
      (fun j H2 => ∃ as, Ext W H1 H2 ∧ H2 D = some (.lst (as.map V.ref)) ∧ Each K H2 as ((pairsOf R).take j)) ⟨[], .new nD, upd_same, .nil⟩ (fun j H2 _ ⟨_, x, _⟩ => SqL.of (x.lst hu)) ?_ ?_⟩
    · rintro j y H2 hj ⟨as, x2, hD, hA⟩
      obtain ⟨m, hm, rfl⟩ := vN_get hj
      obtain ⟨p, hp, ep, eo⟩ := srtI_in N (List.mem_of_getElem? hm)
      have x02 := x1.trans x2
      obtain ⟨b, hb, tb⟩ := (x02.deach hE).in N hp
      rw [ep] at hb
      refine ⟨rfl, yesT ?_⟩
      refine ⟨_, rfl, _, rfl, a, T.C_Hall, dx, _, _, rfl, x02.ins ha, T.cl_Hall, T.nA_rows, hf_rows _ _ _, _, rfl, d, .ref b, rfl, ?_, ?_⟩
      · have := DGet.k (k := Sum.inl (m : Int)) (x02.dk hd)
        rw [hb] at this
        exact this
      refine ⟨b, _, rfl, .inl tb, by show 4 ≤ sizeLine; decide, fun t nt => ?_⟩
      refine newO W (H := H2) (p := t) nt fun H3 x3 ht => ?_
      have hD3 := x3.lst hD
      have la : as.length < 64 := by
        have h1 := hA.len
        have h2 := (List.getElem?_eq_some_iff.mp hm).1
        rw [srtI_len] at h2
        rw [List.length_take] at h1
        omega
      refine ⟨_, hD3, by rw [List.length_map]; exact small1000 (by omega), as ++ [t], (x2.trans x3).put (.inl nD) hD3, by rw [upd_same, List.map_append]; rfl, ?_⟩
      have ht' : (pairsOf R)[j]? = some (pairRow p) := by
        unfold pairsOf
        rw [List.getElem?_map, hm, Option.map_some, eo]
      rw [take_one ht']
      have kp : ∀ {c : Addr} {ys : List V}, SqT K H3 c ys → SqT K (upd H3 D (.lst (as.map V.ref ++ [.ref t]))) c ys := fun {c ys} h => tup_upd hD3 (fun _ z => by cases z) (fun _ _ z => by cases z) h
      refine Each.snoc (Paired.mapP (x3.each hA) fun c ys h => kp h) (kp (.inl (.inl ?_)))
      rw [← ep] at ht
      exact ht
    · rintro H2 ⟨as, x2, hD, hA⟩
      have lx : (vN (srtI R)).length = (pairsOf R).length := by
        unfold pairsOf
        rw [List.length_map, List.length_map]
      rw [lx, List.take_length] at hA
      exact q D as H2 (x1.f _ nD) (x1.trans x2) hD hA
end
end My

set_option Elab.async false
set_option linter.all false
set_option maxRecDepth 100000
set_option maxHeartbeats 4000000
namespace My
open PySem PySem.Spec PyProof.Rows L2 Own Mt
section
variable {P : Program} {w : World} {K : PySem.W.Frag} {mg : Str → Option Value} {base : Heap} {W : Tbs}
theorem isIn_of1 {v : V} {hi : Nat} (h : isIn v 1 (hi : Nat) = true) : ∃ k : Nat, v = .int (k : Nat) ∧ 1 ≤ k ∧ k ≤ hi := by
  cases v with
  | int i =>
    have h : (decide ((1 : Int) ≤ i) && decide (i ≤ (hi : Nat))) = true := h
    rw [Bool.and_eq_true, decide_eq_true_eq, decide_eq_true_eq] at h
    refine ⟨i.toNat, ?_, by omega, by omega⟩
    rw [show ((i.toNat : Nat) : Int) = i by omega]
  | _ => cases h
/-- a hall is made -/
def spInit (K : PySem.W.Frag) (W : Tbs) (C EC : Addr) : Sp := fun vs H Q E => ∃ (a dx : Addr) (v1 v2 : V) (t1 t2 : String), vs = [.ref a, v1, v2] ∧ H a = some (.ins C dx []) ∧ TyB K H v1 t1 ∧ TyB K H v2 t2 ∧
  (∀ L Y : Nat, v1 = .int (L : Nat) → v2 = .int (Y : Nat) → 1 ≤ L → L ≤ 8 → 1 ≤ Y → Y ≤ 8 → ∀ d H', H d = none → Fx W [a] H H' → HallOf K C H' a d L Y 0 [] → Q .non H') ∧
  ((isIn v1 1 8 && isIn v2 1 8) = false → E (.ref EC) none H)
theorem ok_Hall_init (T : Txt K mg) : FnOk P w K mg base (L2.CX P w) 3 T.f_Hall_init T.d_Hall_init ["self", "lefts", "rights"] (spInit K W T.C_Hall T.E_BadCount) := by
  have ok_is_within : FnOk P w K mg base CX0 2 T.f_is_within T.d_is_within ["worth", "low", "high"] (spWithin K) := ok_is_within T
  refine T.F_Hall_init.okX sc_Hall_init (fun vs H Q E h => ?_) (fun cdv A outer s H vs Q E hr h => ?_)
  · obtain ⟨a, dx, v1, v2, t1, t2, rfl, _⟩ := h
    rfl
  · obtain ⟨a, dx, v1, v2, t1, t2, rfl, ha, ht1, ht2, q, qe⟩ := h
    refine ⟨_, (pss_cons (ps_if (pt_not (PW.pt (pw_and (pt_val (pe_call ok_is_within (hr.mono (by decide)) rfl T.D_is_within.g T.D_is_within.F.kp T.D_is_within.b .nil pass0 (pa_cons (pv 1) (pa_cons pe_int (pa_cons (pe_gi rfl T.c_MOST_ENDS) pa_nil))))) (pw_and1 (pt_val (pe_call ok_is_within (hr.mono (by decide)) rfl T.D_is_within.g T.D_is_within.F.kp T.D_is_within.b .nil pass0 (pa_cons (pv 2) (pa_cons pe_int (pa_cons (pe_gi rfl T.c_MOST_ENDS) pa_nil))))))))) 
      (pss_one (ps_raise rfl (takes_of rfl rfl rfl rfl) (pmk_own PySem.F.excBase_ValueError T.x_BadCount.x T.x_BadCount.g T.x_BadCount.k (raises_own T.x_BadCount.b T.x_BadCount.t) rfl))) pss_nil)
    (pss_cons (ps_fld (pv 0) (pe_tup (pa_cons (pv 1) (pa_cons (pv 2) pa_nil))) rfl)
    (pss_cons (ps_fld (pv 0) pe_dnewK rfl)
    (pss_one (ps_fld (pv 0) pe_int rfl))))), ?_⟩
    refine ⟨_, rfl, v1, t1, _, _, rfl, ht1, _, rfl, ?_⟩
    cases c1 : isIn v1 1 8 with
    | false => exact iteF (iteT (qe (by rw [c1]; rfl)))
    | true =>
      refine iteT ?_
      refine ⟨_, rfl, v2, t2, _, _, rfl, ht2, _, rfl, ?_⟩
      cases c2 : isIn v2 1 8 with
      | false => exact iteT (qe (by rw [c1, c2]; rfl))
      | true =>
        refine iteF ?_
        obtain ⟨L, rfl, l1, l2⟩ := isIn_of1 (hi := 8) c1
        obtain ⟨Y, rfl, b1, b2⟩ := isIn_of1 (hi := 8) c2
        refine ⟨_, rfl, _, rfl, by show 2 ≤ sizeLine; decide, fun e ne => ?_⟩
        refine newO W (H := H) (p := e) ne fun H1 x1 he => ?_
        have ha1 := x1.ins ha
        refine ⟨_, rfl, a, _, dx, _, rfl, ha1, T.cl_Hall, T.nA_ends, by show 0 < 1000; decide, ?_⟩
        have y2 : Fx W [a] H (upd H1 a (.ins T.C_Hall dx (putF "_ends" (.ref e) []))) := x1.up.put (.inr (by simp)) ha1
        have z2 : Fx W [a] H1 (upd H1 a (.ins T.C_Hall dx (putF "_ends" (.ref e) []))) := Fx.refl.put (.inr (by simp)) ha1
        have ha2 : (upd H1 a (.ins T.C_Hall dx (putF "_ends" (.ref e) []))) a = _ := upd_same
        revert y2 z2 ha2
        generalize upd H1 a (.ins T.C_Hall dx (putF "_ends" (.ref e) [])) = H2
        intro y2 z2 ha2
        have he2 := z2.tp he
        intro d nd
        refine newO W (H := H2) (p := d) nd fun H3 x3 hd => ?_
        have ha3 := x3.ins ha2
        have nad : d ≠ a := (ne_of_none ha2 nd).symm
        refine ⟨_, rfl, a, _, dx, _, rfl, ha3, T.cl_Hall, T.nA_rows, by show 1 < 1000; decide, ?_⟩
        have y4 : Fx W [a] H (upd H3 a (.ins T.C_Hall dx (putF "_rows" (.ref d) (putF "_ends" (.ref e) [])))) := (y2.trans x3.up).put (.inr (by simp)) ha3
        have z4 : Fx W [a] H3 (upd H3 a (.ins T.C_Hall dx (putF "_rows" (.ref d) (putF "_ends" (.ref e) [])))) := Fx.refl.put (.inr (by simp)) ha3
        have ha4 : (upd H3 a (.ins T.C_Hall dx (putF "_rows" (.ref d) (putF "_ends" (.ref e) [])))) a = _ := upd_same
        revert y4 z4 ha4
        generalize upd H3 a (.ins T.C_Hall dx (putF "_rows" (.ref d) (putF "_ends" (.ref e) []))) = H4
        intro y4 z4 ha4
        refine ⟨_, rfl, a, _, dx, _, rfl, ha4, T.cl_Hall, T.nA_next, ?_, ?_⟩
        · have e : (putF "_rows" (V.ref d) (putF "_ends" (V.ref e) [])).length = 2 := by
            show (if ("_ends" : Str) = "_rows" then [(("_rows" : Str), V.ref d)] else (("_ends" : Str), V.ref e) :: putF "_rows" (V.ref d) []).length = 2
            rw [if_neg n_er]
            rfl
          rw [e]
          decide
        have z5 : Fx W [a] H4 (upd H4 a (.ins T.C_Hall dx (hf e d 0))) := Fx.refl.put (.inr (by simp)) ha4
        refine q L Y rfl rfl l1 l2 b1 b2 d _ (y2.f _ nd) (y4.trans z5) ⟨dx, e, [], upd_same, ?_, ?_, .nil⟩
        · exact .inl (.inl (z5.tp (z4.tp (x3.tp he2))))
        · exact z5.dk (z4.dk hd (by simpa using nad)) (by simpa using nad)
end
end My

set_option Elab.async false
set_option linter.all false
set_option maxRecDepth 100000
set_option maxHeartbeats 2000000
namespace Own
open PySem PySem.Spec PyProof.Rows L2
/-! a set comprehension whose members are tuples of ints -/
section
variable {X : Cx} {pins : List (Addr × Obj)} {σ : L2.St} {H : Hp} {s : Shared}
theorem tup_add {E : Value → Shared → Prop} {D b : Addr} {k : List Int} {L : List (Addr × List Int)} {Q : Value → Shared → Prop} (I : Inv X pins σ H s)
    (hD : H D = some (SetTO X.prog X.w D L)) (hb : SqT X.K H b (k.map V.int)) (hL : ∀ p ∈ L, SqT X.K H p.1 (p.2.map V.int))
    (few : L.length + 1 < 64) (hu : X.A.units + 1 < cLine)
    (h : ∀ s' L', (k ∈ L.map (·.2) → L' = L) → (k ∉ L.map (·.2) → L'.Perm ((b, k) :: L)) →
      Inv X pins σ (upd H D (SetTO X.prog X.w D L')) s' → Q .none s') :
    wpAny (model X.prog X.w) X.A (call (.builtin "set.add") [.ref D, .ref b]) Q E s := by
  have R0 : SetT0 X.prog X.w s.heap D L := (I.hok D _ hD).1
  obtain ⟨es, ep, t, R⟩ := R0.full fun p hp => I.isT (hL p hp)
  obtain ⟨o, ho, hex, hd⟩ := R.ob
  have hx := I.isT hb
  refine wpAny_call_entry F.slot_set_add ⟨o, ho, hex.1⟩ F.entry_set_add ?_ (F.args_set_add_2 _ _)
  unfold Builtin.«set.add» Builtin.Frozenset.oneOther
  simp only [List.isEmpty_nil, bind_assoc]
  unfold Builtin.Frozenset.addrOf setAdd
  refine wpAny_bind (wpAny_pure ?_)
  try dsimp only
  refine wpAny_bind (wpAny_pure ?_)
  try dsimp only
  refine wpAny_bind (wpAny_holding (wpAny_bind (wpAny_pyHash_tuple (by show X.A.units + 1 < cLine; exact hu) hx ?_)))
  refine add_at (s := { s with toks := s.toks + (k.length + 1) }) R hx (by show X.A.units + 1 < cLine; exact hu) few fun bb h' L' es' ep' t' sb R' c1 c2 => ?_
  show wpAny _ _ (ret Value.none) _ _ _
  refine wpAny_pure ⟨_, rfl, h _ L' c1 c2 (I.write (e := D) (t' := s.toks + (k.length + 1)) (by rw [hD]; trivial) (.inl rfl)
    (fun c u hc hu => (sb.2 c hc).trans hu) ?_ (setTO_new R'.t0))⟩
  obtain ⟨o', ho', _⟩ := R'.ob
  exact ⟨o', ho'⟩
end

/-! the comprehension, for any sort of set: fr D is what is tracked at first, AD what adding asks -/
section
variable {X : Cx}
abbrev newSetObj (w : World) : Obj :=
  { cls := .type "set", dict := none, data := .set #[] 0 (.fresh 0 0 (!w.params.followText "set-order")) }
structure SetSort (X : Cx) (fr : Addr → HO) (AD : Addr → V → Hp → (Hp → Prop) → Prop) : Prop where
  new : ∀ (H : Hp) (h : Heap) (D : Addr), h.get? D = some (newSetObj X.w) → ObjOk X.prog X.w H h D (fr D)
  add : ∀ (s0 : Shared) (H0 : Hp) (sc : Scope) (en : Env) (fp : List Addr) (pins : List (Addr × Obj)) (σ : L2.St) (H : Hp) (s : Shared)
    (E : Value → Shared → Prop) (D : Addr) (y : V) (u : Value) (Nx : Hp → Prop) (Q : Value → Shared → Prop),
    Inv (X.blk s0 H0 sc en fp) pins σ H s → RelV y u → AD D y H Nx →
    (∀ s' H', Inv (X.blk s0 H0 sc en fp) pins σ H' s' → Nx H' → Q .none s') →
    wpAny (model X.prog X.w) X.A (call (.builtin "set.add") [.ref D, u]) Q E s
def tScA (fr : Addr → HO) (AD : Addr → V → Hp → (Hp → Prop) → Prop) (wi : TI) (g : TG) (tt : TT) (te : TE) (vs : List Nat) : TE :=
  fun σ H Q => wi σ H fun J H1 => ∀ D, H1 D = none → ∃ W : Nat → Nat → Hp → Prop, (∃ m, W 0 m (upd H1 D (fr D))) ∧
    ∀ i m H, W i m H → (J.stop i H ∧ Q (.ref D) H) ∨ (J.go i H ∧ ∃ Nx : Hp → Prop,
      (∀ H', Nx H' → ∃ m', m' < m ∧ W (i + 1) m' H') ∧
      ∀ x H', J.yld i H x H' → g x (wipe σ vs) H' fun σ2 H2 => wipe σ2 vs = wipe σ vs ∧ tt σ2 H2 fun b H3 =>
        if b = true then te σ2 H3 fun y H4 => AD D y H4 Nx else Nx H3)
set_option maxHeartbeats 8000000 in
theorem pe_scA {fr : Addr → HO} {AD : Addr → V → Hp → (Hp → Prop) → Prop} {elt tg iter : Expr} {ifs : List Expr} {scope : Scope}
    {own : List (PySem.Str × Nat)} {pos : Pos} {wi : TI} {g : TG} {tt : TT} {te : TE} (SS : SetSort X fr AD)
    (hc : X.calm = true) (hN : X.N.Nodup) (hi : PI X tg iter wi) (ok : BlkOk X.N X.env.scope scope own)
    (hg : ∀ (s : Shared) (H : Hp) (C : Addr) (cl : List (PySem.Str × Addr)) (fp : List Addr),
      PG (X.blk s H scope (compEnvC scope cl C X.env) fp) tg g)
    (ht : ∀ (s : Shared) (H : Hp) (C : Addr) (cl : List (PySem.Str × Addr)) (fp : List Addr),
      PTs (X.blk s H scope (compEnvC scope cl C X.env) fp) ifs tt)
    (he : ∀ (s : Shared) (H : Hp) (C : Addr) (cl : List (PySem.Str × Addr)) (fp : List Addr),
      PE (X.blk s H scope (compEnvC scope cl C X.env) fp) elt te)
    (hs : ∀ x, foldedSetIterable iter X.env x = pure x := by intro _; rfl) :
    PE X (.SetComp elt [⟨tg, iter, ifs, 0⟩] scope pos) (tScA fr AD wi g tt te (own.map (·.2))) := by
  refine ⟨fun pins z σ H Q I h => ?_⟩
  rw [PpSet.eval_SetComp]
  have fv : ∀ y ∈ scope.names, y.2 = .free → ∃ c, X.env.cells.lookup y.1 = some c := by
    intro y hy e
    exact (ok.free y hy e).elim (fun k => I.ok.has _ (.inl k)) (fun k => I.ok.has _ (.inr k))
  refine wpAny_comprehension_free (use := none) rfl hs (closure_ok fv) ok.kind
    (fun y hy e => by rw [ok.uniq y hy, e]) (thn (hi.run pins z σ H _ I h) fun _ z1 hx => thn hx fun _ z2 h2 => ?_)
  obtain ⟨it, fp, tn, J, H2, rfl, I2, T, t2, f2, q⟩ := h2
  refine PpSet.newSet_ok (newEnv_comp ?_)
  -- the new set, tracked
  obtain ⟨D, hD⟩ : ∃ D, D = z2.heap.objs.size := ⟨_, rfl⟩
  rw [← hD]
  have Dn : H2 D = none := I2.hok.fresh (Nat.le_of_eq hD.symm)
  obtain ⟨W, ⟨m0, w0⟩, turn⟩ := q D Dn
  obtain ⟨z3, e3⟩ : ∃ z3 : Shared, z3 = { z2 with heap := z2.heap.push (newSetObj X.w) } := ⟨_, rfl⟩
  have k3 : ∀ b o, z2.heap.get? b = some o → z3.heap.get? b = some o := fun b o e => by
    rw [e3]
    exact Heap.get?_push_of_some _ e
  have at3 : z3.heap.get? D = some (newSetObj X.w) := by
    rw [e3, hD]
    exact Heap.get?_push_size _ rfl
  have size3 : z3.heap.objs.size = z2.heap.objs.size + 1 := by
    rw [e3]
    exact Heap.size_push _ _
  obtain ⟨H3, eH3⟩ : ∃ H3 : Hp, H3 = upd H2 D (fr D) := ⟨_, rfl⟩
  have I3 : Inv X pins σ H3 z3 := by
    have I3' := I2.laid (a := D) (o := fr D) (h' := z3.heap) (t' := z2.toks) k3 (Nat.le_of_eq hD.symm) (SS.new _ _ _ at3)
    rw [← eH3] at I3'
    rw [e3] at I3' ⊢
    exact I3'
  have okf : ∀ b ∈ fp, FpOk X pins H3 b ∧ b < z3.heap.objs.size := by
    intro b hb
    obtain ⟨o, eo, _⟩ := T.obj _ _ t2 b hb
    have lt := Heap.lt_size eo
    have ne : b ≠ D := by
      rw [hD]
      exact Nat.ne_of_lt lt
    refine ⟨⟨?_, (f2 b hb).2⟩, ?_⟩
    · rw [eH3, upd_ne ne]
      exact (f2 b hb).1
    · rw [size3]
      exact Nat.lt_succ_of_lt lt
  have t3 : tn 0 z3.heap := T.keep _ _ _ t2 fun b _ o e => k3 b o e
  rw [← eH3] at w0
  have I4 := block_start I3 ok hN okf
  obtain ⟨cl, ecl⟩ : ∃ cl, cl = cellsFrom (z3.heap.objs.size + 1) scope.names (cloFrom X.env.cells scope.names []) := ⟨_, rfl⟩
  have PGb := hg z3 H3 z3.heap.objs.size cl fp
  have PTb := ht z3 H3 z3.heap.objs.size cl fp
  have PEb := he z3 H3 z3.heap.objs.size cl fp
  rw [← ecl] at I4
  obtain ⟨ce, ece⟩ : ∃ ce, ce = compEnvC scope cl z3.heap.objs.size X.env := ⟨_, rfl⟩
  have locE : ce.locals = z3.heap.objs.size := by
    rw [ece]
    rfl
  rw [← ece] at I4 PGb PTb PEb
  obtain ⟨z4, e4⟩ : ∃ z4 : Shared, z4 = { z3 with heap := pushCells (z3.heap.push { cls := .type "dict", data := .dict #[] }) scope.names } := ⟨_, rfl⟩
  rw [← e4] at I4
  have t4 : tn 0 z4.heap := T.keep _ _ _ t3 fun b _ o e => by
    rw [e4]
    exact pushCells_keeps _ _ _ _ (Heap.get?_push_of_some _ e)
  have n3 : ∀ b ∈ fp, H3 b = none := fun b hb => (okf b hb).1.1
  have stat : ∀ {τ : L2.St} {G : Hp} {y : Shared}, Inv (X.blk z3 H3 scope ce fp) [] τ G y → (∀ b ∈ fp, G b = none) →
      ∀ b ∈ fp, FpOk (X.blk z3 H3 scope ce fp) [] G b := by
    intro τ G y J' hn b hb
    refine ⟨hn b hb, (J'.ok.exf b hb).1, J'.ok.exfs b hb, .inl hb, fun x c e => (J'.ok.exf b hb).2 x c e, fun p hp => ?_⟩
    cases (show p ∈ ([] : List (Addr × Obj)) ++ [] from hp)
  have goal2 : codeAny (model X.prog X.w) X.A (.compLoop (.SetComp elt [⟨tg, iter, ifs, 0⟩] scope pos) 0 (.ref it) (.ref D) ce)
      (compPost (model X.prog X.w) X.A X.xe none (EP X pins σ Q) (.ref D) z3.heap.objs.size) z4 := by
    refine PpSet.compLoopS_any (fun n y => ∃ i G, Inv (X.blk z3 H3 scope ce fp) [] (wipe σ (own.map (·.2))) G y ∧
      tn i y.heap ∧ (∀ b ∈ fp, G b = none) ∧ W i n G) ?_ m0 ⟨0, H3, I4, t4, n3, w0⟩
    rintro n z5 ⟨i, H5, I5, t5, n5, w5⟩
    rcases turn i n H5 w5 with ⟨stp, fin⟩ | ⟨go, Nx, hNx, stepT⟩
    · refine thnF (T.done (X.blk z3 H3 scope ce fp) rfl rfl rfl hc i [] z5 _ H5 (fun _ _ => False) I5 (stat I5 n5) t5 stp) ?_
      rintro r z6 ⟨rfl, I6⟩
      have back : Inv X pins σ H5 z6 := I3.call' (ch := fp) I6.os I6.base I6.hok I6.bare fun b hb =>
        let w := (okf b hb).1.2
        ⟨w.2.2.1, w.1, w.2.2.2.1, w.2.2.2.2⟩
      have nC : H5 z3.heap.objs.size = none := by
        rw [← locE]
        exact I6.free
      obtain ⟨m, hm, _⟩ := I6.loc
      have hm' : z6.heap.Ns z3.heap.objs.size m := by
        rw [← locE]
        exact hm
      obtain ⟨f0, f1, f2', f3, f4, f5⟩ := I3.fpOk (Nat.le_refl _) nC
      exact ⟨m, hm', fun hp sb => ⟨.ref D, H5, back.turned (t' := z6.toks) (fun b o hb e => (sb.2 b hb).trans e) f0 f1 f3 f4 f5, rfl, fin⟩⟩
    · refine thnF (T.item (X.blk z3 H3 scope ce fp) rfl rfl rfl hc i [] z5 _ H5 (fun _ _ => False) I5 (stat I5 n5) t5 go) ?_
      rintro r z6 ⟨u, rfl, h6⟩
      refine thnF h6 fun _ z7 ⟨x, H7, I7, r7, y7, t7, n7⟩ => ?_
      refine thnF (PGb.run _ z7 _ H7 x u _ (I7.pinned (stat I7 n7) (T.obj _ _ t7)) r7 (stepT x H7 y7)) ?_
      rintro _ z8 ⟨τ, H8, I8, wp8, q8⟩
      refine thnF (PTb.run _ z8 τ H8 _ I8 q8) fun b z9 ⟨H9, I9, q9⟩ => ?_
      have onward : ∀ {y : Shared} {G : Hp}, Inv (X.blk z3 H3 scope ce fp) ([] ++ pinsAt fp z7.heap) τ G y → Nx G →
          ∃ m, m < n ∧ ∃ i G, Inv (X.blk z3 H3 scope ce fp) [] (wipe σ (own.map (·.2))) G y ∧ tn i y.heap ∧
            (∀ b ∈ fp, G b = none) ∧ W i m G := by
        intro y G J' nx
        obtain ⟨m', hm, w'⟩ := hNx G nx
        have held : ∀ b ∈ fp, ∀ o, z7.heap.get? b = some o → y.heap.get? b = some o ∧ G b = none := fun b hb o e =>
          have w := J'.pin (b, o) (List.mem_append_right _ (List.mem_append_right _ (mem_pinsAt hb e)))
          ⟨w.1, w.2.1⟩
        refine ⟨m', hm, i + 1, G, (J'.unpinned (pins := [])).weak (by rw [← wp8, wipe_length]) (fun j v e => ?_),
          T.keep _ _ _ t7 fun b hb o e => (held b hb o e).1, fun b hb => ?_, w'⟩
        · rw [← wp8] at e
          exact (wipe_some e).1
        · obtain ⟨o, e, _⟩ := T.obj _ _ t7 b hb
          exact (held b hb o e).2
      cases b with
      | false =>
        simp only [Bool.false_eq_true, if_false] at q9 ⊢
        exact onward I9 q9
      | true =>
        simp only [if_true] at q9 ⊢
        refine thnF (PEb.run _ z9 τ H9 _ I9 q9) ?_
        rintro v z10 ⟨yv, H10, I10, r10, ad⟩
        exact SS.add _ _ _ _ _ _ _ _ _ _ _ _ _ _ _ I10 r10 ad fun _ _ J' nx => onward J' nx
  have all := PpSet.codeAny_compStart_set goal2 (T.self X.A 0 _ _ _ t4 goal2)
  rw [ece, ecl, e4, e3] at all
  exact all
end

/-! tuples of ints as the members -/
section
variable {X : Cx}
def adT (K : PySem.W.Frag) (P : Program) (w : World) : Addr → V → Hp → (Hp → Prop) → Prop := fun D y H Nx =>
  ∃ (b : Addr) (k : List Int) (L : List (Addr × List Int)), y = .ref b ∧ SqT K H b (k.map V.int) ∧ H D = some (SetTO P w D L) ∧
    (∀ p ∈ L, SqT K H p.1 (p.2.map V.int)) ∧ L.length + 1 < 64 ∧
    ∀ L', (k ∈ L.map (·.2) → L' = L) → (k ∉ L.map (·.2) → L'.Perm ((b, k) :: L)) → Nx (upd H D (SetTO P w D L'))
theorem sort_tup (hu : X.A.units + 1 < cLine) : SetSort X (fun D => SetTO X.prog X.w D []) (adT X.K X.prog X.w) where
  new := fun H h D e => setTO_new (setTR_fresh e).t0
  add := by
    intro s0 H0 sc en fp pins σ H s E D y u Nx Q I r ad h
    obtain ⟨b, k, L, rfl, hb, hD, hL, few, nx⟩ := ad
    cases r
    exact tup_add (X := X.blk s0 H0 sc en fp) I hD hb hL few hu fun s' L' c1 c2 J => h s' _ J (nx L' c1 c2)
def rLenT (K : PySem.W.Frag) (P : Program) (w : World) : List V → Hp → VK → Prop := fun xs H Q =>
  ∃ (D : Addr) (L : List (Addr × List Int)), xs = [.ref D] ∧ H D = some (SetTO P w D L) ∧ (∀ p ∈ L, SqT K H p.1 (p.2.map V.int)) ∧ Q (.int L.length) H
theorem call_lenT : CallR X (.builtin "len") (rLenT X.K X.prog X.w) := by
  intro pins s σ H xs us Q I r h
  obtain ⟨D, L, rfl, hD, hL, q⟩ := h
  rw [Vals.ref1 r]
  have R0 : SetT0 X.prog X.w s.heap D L := (I.hok D _ hD).1
  obtain ⟨es, ep, t, R⟩ := R0.full fun p hp => I.isT (hL p hp)
  obtain ⟨o, ho, hex, hd⟩ := R.ob
  have hz := R.size
  have hf := R.few
  refine Calls.call_function_entry kind_len plain_len entry_len (args_len1 _) (wpAny_len_body_set ho hex hd R.fits (by omega) ?_)
  rw [hz]
  exact ⟨.int (L.length : Nat), H, I.tok _, ⟨_, rfl⟩, q⟩
/-- the reading over a list that stands still: ks, the keys met, each with what it is the tuple of -/
theorem scT_list {K : PySem.W.Frag} {P : Program} {w : World} {a : Addr} {xs : List V} {g : TG} {tt : TT} {te : TE} {vs : List Nat} {σ : L2.St}
    {H1 : Hp} {D : Addr} {Qd : Hp → Prop} {AD : Addr → V → Hp → (Hp → Prop) → Prop} {fr : Addr → HO} (Pv : Nat → Hp → Prop) (h0 : Pv 0 (upd H1 D (fr D)))
    (hl : ∀ i H, i ≤ xs.length → Pv i H → SqL K H a xs)
    (hs : ∀ i x H, xs[i]? = some x → Pv i H → g x (wipe σ vs) H fun σ2 H2 => wipe σ2 vs = wipe σ vs ∧ tt σ2 H2 fun b H3 =>
      if b = true then te σ2 H3 fun y H4 => AD D y H4 (Pv (i + 1)) else Pv (i + 1) H3)
    (hd : ∀ H, Pv xs.length H → Qd H) :
    ∃ W : Nat → Nat → Hp → Prop, (∃ m, W 0 m (upd H1 D (fr D))) ∧
    ∀ i m H, W i m H → ((Itl K a).stop i H ∧ Qd H) ∨ ((Itl K a).go i H ∧ ∃ Nx : Hp → Prop,
      (∀ H', Nx H' → ∃ m', m' < m ∧ W (i + 1) m' H') ∧
      ∀ x H', (Itl K a).yld i H x H' → g x (wipe σ vs) H' fun σ2 H2 => wipe σ2 vs = wipe σ vs ∧ tt σ2 H2 fun b H3 =>
        if b = true then te σ2 H3 fun y H4 => AD D y H4 Nx else Nx H3) := by
  refine ⟨fun i m H => m + i = xs.length ∧ Pv i H, ⟨_, Nat.add_zero _, h0⟩, fun i m H hw => ?_⟩
  obtain ⟨hm, p⟩ := hw
  have here := hl i H (by omega) p
  rcases Nat.lt_or_ge i xs.length with lt | ge
  · refine .inr ⟨⟨xs, xs[i], here, List.getElem?_eq_getElem lt⟩, Pv (i + 1), fun H' p' => ⟨m - 1, by omega, by omega, p'⟩, ?_⟩
    rintro x H' ⟨rfl, hx⟩
    exact hs i x _ (hx xs here) p
  · have e : i = xs.length := by omega
    rw [e] at p
    exact .inl ⟨⟨xs, here, ge⟩, hd H p⟩
end
end Own

namespace K08
/-! a list without doubles and one with the same members -/
theorem len_le {α : Type} [DecidableEq α] : ∀ (l m : List α), l.Nodup → (∀ x ∈ l, x ∈ m) → l.length ≤ m.length
  | [], m, _, _ => Nat.zero_le _
  | a :: r, m, hn, hs => by
    have ha := hs a List.mem_cons_self
    have hr := (List.nodup_cons.mp hn)
    have q := len_le r (m.erase a) hr.2 (fun x hx => (List.mem_erase_of_ne (fun e => hr.1 (by rw [← e]; exact hx))).mpr (hs x (List.mem_cons_of_mem _ hx)))
    rw [List.length_erase_of_mem ha] at q
    have : 0 < m.length := List.length_pos_of_mem ha
    simp only [List.length_cons]
    omega
theorem len_eq {α : Type} [DecidableEq α] : ∀ (m l : List α), l.Nodup → (∀ x, x ∈ l ↔ x ∈ m) → (l.length = m.length ↔ m.Nodup)
  | [], l, hn, hs => by
    have : l = [] := by
      cases l with
      | nil => rfl
      | cons a r => exact absurd ((hs a).mp List.mem_cons_self) (by simp)
    rw [this]
    simp
  | a :: r, l, hn, hs => by
    have ha : a ∈ l := (hs a).mpr List.mem_cons_self
    by_cases h : a ∈ r
    · have le := len_le l r hn (fun x hx => by
        rcases List.mem_cons.mp ((hs x).mp hx) with e | e
        · rw [e]; exact h
        · exact e)
      constructor
      · intro e
        simp only [List.length_cons] at e
        omega
      · intro e
        exact absurd h (List.nodup_cons.mp e).1
    · have ih := len_eq r (l.erase a) (hn.erase a) (fun x => by
        rw [hn.mem_erase_iff, hs x, List.mem_cons]
        constructor
        · rintro ⟨h1, h2 | h2⟩
          · exact absurd h2 h1
          · exact h2
        · intro hx
          exact ⟨fun e => h (by rw [← e]; exact hx), .inr hx⟩)
      rw [List.length_erase_of_mem ha] at ih
      have : 0 < l.length := List.length_pos_of_mem ha
      rw [List.nodup_cons, List.length_cons]
      constructor
      · intro e
        exact ⟨h, ih.mp (by omega)⟩
      · intro e
        have := ih.mpr e.2
        omega
end K08

set_option Elab.async false
set_option linter.all false
set_option maxRecDepth 100000
set_option maxHeartbeats 4000000
namespace My
open PySem PySem.Spec PyProof.Rows L2 Own Mt
open K08 (most ends count keys good Tally vals most_is)
/-! a set's object is no code object -/
theorem set_code (P : Program) (w : World) (a : Addr) (L : List (Addr × List Int)) (q : Str) : SetTO P w a L ≠ LamX.CodeO a q := by
  intro z
  have e := congrArg (fun o => match o with | HO.ext φ => φ | _ => fun _ => False) z
  have e2 : (fun h => SetT0 P w h a L) = fun h => ∃ (oc : Obj) (vs : Array Value) (t : Tok), h.get? a = some oc ∧ oc.data = .fields vs ∧ vs[1]? = some (.str q t) := e
  have ho : (Heap.mk (Array.replicate (a + 1) { cls := .none, data := .fields #[.none, .str q 0] }) {}).get? a = some { cls := .none, data := .fields #[.none, .str q 0] } := by
    unfold Heap.get?
    dsimp only
    rw [Array.getElem?_replicate, if_pos (Nat.lt_succ_self a)]
  have c := congrFun e2 (Heap.mk (Array.replicate (a + 1) { cls := .none, data := .fields #[.none, .str q 0] }) {})
  have k : SetT0 P w (Heap.mk (Array.replicate (a + 1) { cls := .none, data := .fields #[.none, .str q 0] }) {}) a L := by
    have c2 : SetT0 P w (Heap.mk (Array.replicate (a + 1) { cls := .none, data := .fields #[.none, .str q 0] }) {}) a L = _ := c
    rw [c2]
    exact ⟨_, _, 0, ho, rfl, rfl⟩
  obtain ⟨es, ep, t, ⟨o, h1, _, h2⟩, _⟩ := k.ex
  rw [ho] at h1
  rw [← Option.some.inj h1] at h2
  cases h2
section
variable {P : Program} {w : World} {K : PySem.W.Frag} {mg : Str → Option Value} {base : Heap} {W : Tbs}
def spDiffer (K : PySem.W.Frag) (W : Tbs) : Sp := fun vs H Q _ => ∃ (a : Addr) (ts : List (List Int)) (sd : Nat), vs = [.ref a, .int sd] ∧ Rows K H a ts ∧ sd < 2 ∧ (∀ r ∈ ts, r.length = 3) ∧ ts.length ≤ 60 ∧
  ∀ H', Ext W H H' → Q (.bl (decide (keys ts sd).Nodup)) H'
/-- the set's members so far -/
structure Seen (K : PySem.W.Frag) (H : Hp) (L : List (Addr × List Int)) (pre : List (List Int)) : Prop where
  nd : (L.map (·.2)).Nodup
  mem : ∀ k, k ∈ L.map (·.2) ↔ k ∈ pre
  len : L.length ≤ pre.length
  tup : ∀ p ∈ L, SqT K H p.1 (p.2.map V.int)
theorem Seen.put {H H' : Hp} {L L' : List (Addr × List Int)} {pre : List (List Int)} {b : Addr} {k : List Int} (s : Seen K H L pre) (x : ∀ p xs, SqT K H p xs → SqT K H' p xs) (hb : SqT K H' b (k.map V.int))
    (c1 : k ∈ L.map (·.2) → L' = L) (c2 : k ∉ L.map (·.2) → L'.Perm ((b, k) :: L)) : Seen K H' L' (pre ++ [k]) := by
  by_cases h : k ∈ L.map (·.2)
  · rw [c1 h]
    refine ⟨s.nd, fun j => ?_, ?_, fun p hp => x _ _ (s.tup p hp)⟩
    · rw [s.mem, List.mem_append, List.mem_singleton]
      constructor
      · exact .inl
      · rintro (z | z)
        · exact z
        · rw [z]
          exact (s.mem k).mp h
    · have := s.len
      rw [List.length_append, List.length_singleton]
      omega
  · have pm := c2 h
    have pk := pm.map (·.2)
    refine ⟨pk.nodup_iff.mpr (List.nodup_cons.mpr ⟨h, s.nd⟩), fun j => ?_, ?_, fun p hp => ?_⟩
    · rw [pk.mem_iff, List.map_cons, List.mem_cons, s.mem, List.mem_append, List.mem_singleton]
      exact Or.comm
    · have := s.len
      rw [pm.length_eq, List.length_append, List.length_singleton, List.length_cons]
      omega
    · rcases List.mem_cons.mp (pm.mem_iff.mp hp) with z | z
      · rw [z]
        exact hb
      · exact x _ _ (s.tup p z)
theorem ok_hues_differ (T : Txt K mg) : FnOk P w K mg base CX0 1 T.f_hues_differ T.d_hues_differ ["rows", "side"] (spDiffer K W) := by
  refine T.D_hues_differ.F.ok sc_hues_differ (fun vs H Q E h => ?_) (fun cdv A outer s H vs Q E hr h => ?_)
  · obtain ⟨a, ts, sd, rfl, _⟩ := h
    rfl
  · obtain ⟨a, ts, sd, rfl, ⟨as, hS, hE⟩, hsd, hw, hlen, q⟩ := h
    refine ⟨_, (pss_one (ps_ret (pe_cmpR op_eq (pe_callB call_lenT (by rfl) T.z_len PySem.boot_len (pa_cons (pe_scA (sort_tup (by have := hu_of hr; exact this)) rfl sc_hues_differ.nd (own := [("row", 2)]) (pi_list (pv 0)) (blkOk_by (N := N_hues_differ) (sc := defScope s_hues_differ) (by decide +kernel)) (fun _ _ _ _ _ => (pg_name (i := 2) sc_hues_differ.nd rfl (.inl rfl))) (fun _ _ _ _ _ => pts_nil) (fun _ _ _ _ _ => (pe_tup (pa_cons (pe_ix (ixT K) (pv 2) (pv 1) (fun _ _ => rfl)) (pa_cons (pe_ix (ixT K) (pv 2) (pe_gi rfl T.c_HUE) (fun _ _ => rfl)) pa_nil))))) pa_nil)) (pe_callB (lenQ K) (by rfl) T.z_len PySem.boot_len (pa_cons (pv 0) pa_nil)) (nomark _)))), ?_⟩
    refine ⟨_, rfl, a, rfl, ⟨_, hS⟩, fun D nD => ?_⟩
    refine scT_list (K := K) (P := P) (w := w) (a := a) (xs := as.map V.ref) (AD := adT K P w) (fr := fun D => SetTO P w D [])
      (fun i H2 => ∃ L, Ext W H H2 ∧ H2 D = some (SetTO P w D L) ∧ Seen K H2 L ((keys ts sd).take i))
      ⟨[], .new nD, upd_same, ⟨List.nodup_nil, fun k => by simp, Nat.le_refl _, fun p hp => absurd hp (by simp)⟩⟩ (fun i H2 _ ⟨_, x, _⟩ => x.seq hS) ?_ ?_
    · rintro i y H2 hi ⟨L, x, hD, hs⟩
      obtain ⟨b, r, rfl, hb, hr', hq⟩ := hE.val hi
      have lr := hw r (List.mem_of_getElem? hr')
      have il : i < ts.length := (List.getElem?_eq_some_iff.mp hr').1
      have lt : sd < r.length := by omega
      have l2 : 2 < r.length := by omega
      have kl : (keys ts sd).length = ts.length := by
        unfold keys
        rw [List.length_map]
      have few : L.length + 1 < 64 := by
        have := hs.len
        rw [List.length_take] at this
        omega
      refine ⟨rfl, ?_⟩
      refine yesT ?_
      refine ⟨_, rfl, _, rfl, b, _, _, _, rfl, rfl, x.tup hq, at_sd lt, _, rfl, b, _, 2, _, rfl, rfl, x.tup hq, at_sd (sd := 2) l2, (by show 2 ≤ sizeLine; decide), fun p np => ?_⟩
      have x1 : Ext W H2 (upd H2 p (.tup [.int (r.getD sd 0), .int (r.getD 2 0)])) := .new np
      have hD1 := ne_of_none hD np
      refine ⟨p, [r.getD sd 0, r.getD 2 0], L, rfl, .inl (.inl upd_same), by rw [upd_ne hD1]; exact hD, fun z hz => x1.tup (hs.tup z hz), few, fun L' c1 c2 => ?_⟩
      refine ⟨L', (x.trans x1).putG (.inl nD) (o1 := SetTO P w D L) (by rw [upd_ne hD1]; exact hD) (fun _ z => by cases z) (fun q => set_code P w D L q) rfl, upd_same, ?_⟩
      have kk : (keys ts sd)[i]? = some [r.getD sd 0, r.getD 2 0] := by
        unfold keys
        rw [List.getElem?_map, hr']
        rfl
      rw [take_one kk]
      refine hs.put (fun c xs h => tup_upd (by rw [upd_ne hD1]; exact hD) (fun _ => by intro z; cases z) (fun _ _ => by intro z; cases z) (x1.tup h)) ?_ c1 c2
      refine .inl (.inl ?_)
      rw [upd_ne hD1.symm, upd_same]
      rfl
    · rintro H2 ⟨L, x, hD, hs⟩
      have el : (keys ts sd).take (as.map V.ref).length = keys ts sd := List.take_of_length_le (by
        unfold keys
        rw [List.length_map, List.length_map, hE.len]
        exact Nat.le_refl _)
      rw [el] at hs
      refine ⟨D, L, rfl, hD, hs.tup, ?_⟩
      refine ⟨_, rfl, a, _, rfl, .inl (x.seq hS), rfl, ?_⟩
      have kl : (keys ts sd).length = (as.map V.ref).length := by
        unfold keys
        rw [List.length_map, List.length_map, hE.len]
      have e : decide (V.int (L.length : Nat) = V.int ((as.map V.ref).length : Nat)) = decide (keys ts sd).Nodup := by
        rw [Bool.eq_iff_iff, decide_eq_true_eq, decide_eq_true_eq, ← K08.len_eq (keys ts sd) (L.map (·.2)) hs.nd hs.mem, kl]
        have lm : (L.map (·.2)).length = L.length := List.length_map ..
        rw [lm]
        constructor
        · intro z
          have := V.int.inj z
          omega
        · intro z
          rw [z]
      show Q (V.bl (decide (V.int (L.length : Nat) = V.int ((as.map V.ref).length : Nat)))) _
      rw [e]
      exact q _ x

def spGood (K : PySem.W.Frag) (W : Tbs) : Sp := fun vs H Q _ => ∃ (a : Addr) (ts : List (List Int)), vs = [.ref a] ∧ Rows K H a ts ∧ (∀ r ∈ ts, r.length = 3) ∧ ts.length ≤ 60 ∧ (∀ P ∈ W.g, GxR.TabG H P) ∧
  ∀ H', Ext W H H' → Q (.bl (good ts)) H'
theorem ok_is_good (T : Txt K mg) (TG : GxR.TabB base mg T.k_is_good T.p_is_good) (hPT : T.p_is_good ∈ W.g) (nl : ∀ p ∈ W.l, p.1 ≠ T.p_is_good) : FnOk P w K mg base CX0 3 T.f_is_good T.d_is_good ["rows"] (spGood K W) := by
  have ok_count_of : FnOk P w K mg base CX0 2 T.f_count_of T.d_count_of ["rows"] (spCount K W) := ok_count_of T
  have ok_hues_differ : FnOk P w K mg base CX0 1 T.f_hues_differ T.d_hues_differ ["rows", "side"] (spDiffer K W) := ok_hues_differ T
  refine T.FC_is_good.ok sc_is_good (fun vs H Q E h => ?_) (fun A outer s H vs Q E hr h => ?_)
  · obtain ⟨a, ts, rfl, _⟩ := h
    rfl
  · obtain ⟨a, ts, rfl, hR, hw, hlen, hTab, q⟩ := h
    obtain ⟨tHUE, eHUE⟩ := T.c_HUE
    refine ⟨_, (pss_cons (ps_set (i := 1) sc_is_good.nd rfl (.inr rfl) (pe_call ok_count_of (hr.mono (by decide)) rfl T.D_count_of.g T.D_count_of.F.kp T.D_count_of.b .nil pass0 (pa_cons (pv 0) pa_nil)))
    (pss_cons (ps_if (pt_not (pt_val (pe_allL hr rfl T.z_all (by decide +kernel) TG rfl (genS_by (by decide +kernel)) (pv 0) (fun _ => rfl)))) 
      (pss_one (ps_ret pe_bl)) pss_nil)
    (pss_one (ps_ret (pe_and (pe_call ok_hues_differ (hr.mono (by decide)) rfl T.D_hues_differ.g T.D_hues_differ.F.kp T.D_hues_differ.b .nil pass0 (pa_cons (pv 0) (pa_cons (pe_gi rfl T.c_LEFT) pa_nil))) (pe_one (pe_call ok_hues_differ (hr.mono (by decide)) rfl T.D_hues_differ.g T.D_hues_differ.F.kp T.D_hues_differ.b .nil pass0 (pa_cons (pv 0) (pa_cons (pe_gi rfl T.c_RIGHT) pa_nil))))))))), ?_⟩
    refine ⟨_, rfl, a, ts, rfl, hR, fun r h => by have := hw r h; omega, by omega, fun H1 x1 => ?_⟩
    obtain ⟨as, hS, hE⟩ := x1.rows hR
    have tab1 : GxR.TabG H1 T.p_is_good := x1.g _ hPT (hTab _ hPT)
    refine ⟨_, rfl, a, _, rfl, hS, tab1, fun _ => true, fun i => decide ((ts.getD i []).getD 2 0 < (count ts : Nat)), ?_, fun H2 hT2 => ?_⟩
    · intro pins s1 I i y v hy rv
      obtain ⟨b, r, rfl, hb, hr', hq⟩ := hE.val hy
      have hP : ∃ ps, H1 T.p_is_good = some (.tbl ps) := let ⟨ps, h, _⟩ := tab1; ⟨ps, h⟩
      have eg : ts.getD i [] = r := by
        rw [List.getD_eq_getElem?_getD, hr']
        rfl
      refine ⟨qt_nil, fun _ => ?_⟩
      dsimp only
      rw [eg]
      exact qe_lt (qe_ixT I hP (qe_var rfl rfl rv) (qe_glob I (fun _ _ => TG.gP) rfl rfl eHUE ⟨_, rfl⟩) hq
        (at_sd (sd := 2) (by have := hw r (List.mem_of_getElem? hr'); omega)) (fun _ _ => rfl)) (qe_free I hP (i := 1) rfl rfl (.inl rfl) rfl rfl)
    · have x2 : Ext W H H2 := x1.trans (Fx.tab tab1 hT2 nl)
      have lx : (as.map V.ref).length = ts.length := by
        rw [List.length_map]
        exact hE.len
      have ev : ((List.range (as.map V.ref).length).filter fun _ => true).all (fun i => decide ((ts.getD i []).getD 2 0 < (count ts : Nat))) = ts.all fun r => decide (r.getD 2 0 < (count ts : Nat)) := by
        rw [lx, List.filter_eq_self.mpr (fun _ _ => rfl), Bool.eq_iff_iff, List.all_eq_true, List.all_eq_true]
        constructor
        · intro h r hr
          obtain ⟨i, hi, e⟩ := List.getElem_of_mem hr
          have := h i (List.mem_range.mpr hi)
          have g : ts.getD i [] = r := by rw [List.getD_eq_getElem?_getD, List.getElem?_eq_getElem hi, e]; rfl
          rw [g] at this
          exact this
        · intro h i hi
          have hi' := List.mem_range.mp hi
          have g : ts.getD i [] = ts[i] := by rw [List.getD_eq_getElem?_getD, List.getElem?_eq_getElem hi']; rfl
          rw [g]
          exact h _ (List.getElem_mem hi')
      rw [ev]
      refine ⟨_, rfl, ?_⟩
      cases hall : ts.all fun r => decide (r.getD 2 0 < (count ts : Nat)) with
      | false =>
        refine iteT ?_
        have e : good ts = false := by
          unfold good
          rw [hall]
          rfl
        have := q _ x2
        rw [e] at this
        exact this
      | true =>
        refine iteF ?_
        refine ⟨_, rfl, a, ts, 0, rfl, x2.rows hR, by decide, hw, hlen, fun H3 x3 => ⟨_, rfl, ?_⟩⟩
        have x3' := x2.trans x3
        have e : good ts = (decide (keys ts 0).Nodup && decide (keys ts 1).Nodup) := by
          unfold good
          rw [hall, Bool.true_and]
        cases h0 : decide (keys ts 0).Nodup with
        | false =>
          refine iteF ?_
          have := q _ x3'
          rw [e, h0] at this
          exact this
        | true =>
          refine iteT ?_
          refine ⟨_, rfl, a, ts, 1, rfl, x3'.rows hR, by decide, hw, hlen, fun H4 x4 => ?_⟩
          have := q _ (x3'.trans x4)
          rw [e, h0, Bool.true_and] at this
          exact this
end
end My

set_option Elab.async false
set_option linter.all false
set_option maxRecDepth 100000
set_option maxHeartbeats 1000000
namespace My
open PySem PySem.Spec PyProof.Rows L2 Own Mt
open K08 (most ends count keys good)
theorem come_len (R : List Pr) (n l r : Nat) : (come R n l r).2.length = R.length + 1 := by
  have := congrArg List.length (place_ns (R := R) (n := n) (l := l) (r := r) (m := manyWith R l r))
  rw [List.length_map, List.length_append, List.length_map, List.length_singleton] at this
  exact this
/-! pairs come one behind the other -/
def comes (R : List Pr) (n : Nat) : List (Nat × Nat) → List Pr
  | [] => R
  | p :: t => comes (come R n p.1 p.2).2 (n + 1) t
theorem comes_snoc : ∀ (t : List (Nat × Nat)) (R : List Pr) (n : Nat) (p : Nat × Nat), comes R n (t ++ [p]) = (come (comes R n t) (n + t.length) p.1 p.2).2
  | [], R, n, p => rfl
  | q :: t, R, n, p => by
    show comes (come R n q.1 q.2).2 (n + 1) (t ++ [p]) = (come (comes (come R n q.1 q.2).2 (n + 1) t) (n + (t.length + 1)) p.1 p.2).2
    rw [comes_snoc t, show n + 1 + t.length = n + (t.length + 1) by omega]
/-- the pairs of a hall that these pairs have come to -/
def hallR (ps : List (Nat × Nat)) : List Pr := comes [] 0 ps
theorem hallR_snoc (t : List (Nat × Nat)) (p : Nat × Nat) : hallR (t ++ [p]) = (come (hallR t) t.length p.1 p.2).2 := by
  unfold hallR
  rw [comes_snoc, Nat.zero_add]
theorem hallR_take {ps : List (Nat × Nat)} {j : Nat} {p : Nat × Nat} (h : ps[j]? = some p) : hallR (ps.take (j + 1)) = (come (hallR (ps.take j)) j p.1 p.2).2 := by
  have l := (List.getElem?_eq_some_iff.mp h).1
  rw [List.take_add_one, h]
  show hallR (ps.take j ++ [p]) = _
  rw [hallR_snoc, List.length_take, Nat.min_eq_left (by omega)]
def numd : Nat → List (Nat × Nat) → List (Nat × Nat × Nat)
  | _, [] => []
  | n, p :: t => (n, p.1, p.2) :: numd (n + 1) t
theorem comes_nlr : ∀ (t : List (Nat × Nat)) (R : List Pr) (n : Nat), (comes R n t).map nlr = R.map nlr ++ numd n t
  | [], R, n => (List.append_nil _).symm
  | p :: t, R, n => by
    show (comes (come R n p.1 p.2).2 (n + 1) t).map nlr = R.map nlr ++ ((n, p.1, p.2) :: numd (n + 1) t)
    rw [comes_nlr t, show (come R n p.1 p.2).2.map nlr = R.map nlr ++ [(n, p.1, p.2)] from place_nlr, List.append_assoc]
    rfl
theorem hallR_nlr (ps : List (Nat × Nat)) : (hallR ps).map nlr = numd 0 ps := by
  unfold hallR
  rw [comes_nlr]
  rfl
theorem numd_len : ∀ (ps : List (Nat × Nat)) (n : Nat), (numd n ps).length = ps.length
  | [], _ => rfl
  | _ :: t, n => congrArg (· + 1) (numd_len t (n + 1))
theorem numd_get : ∀ {ps : List (Nat × Nat)} {n j : Nat} {p : Nat × Nat}, ps[j]? = some p → (numd n ps)[j]? = some (n + j, p.1, p.2)
  | [], _, _, _, h => by simp at h
  | _ :: _, n, 0, p, h => by
    cases h
    rfl
  | _ :: t, n, j + 1, p, h => by
    have := numd_get (ps := t) (n := n + 1) (j := j) (p := p) (by simpa using h)
    rw [show n + 1 + j = n + (j + 1) by omega] at this
    simpa [numd] using this
theorem hallR_len (ps : List (Nat × Nat)) : (hallR ps).length = ps.length := by
  have := congrArg List.length (hallR_nlr ps)
  rw [List.length_map, numd_len] at this
  exact this
theorem hallR_at {ps : List (Nat × Nat)} {j : Nat} {p : Pr} (h : (hallR ps)[j]? = some p) : ps[j]? = some (p.l, p.r) ∧ p.n = j := by
  have l := (List.getElem?_eq_some_iff.mp h).1
  rw [hallR_len] at l
  have h1 : ((hallR ps).map nlr)[j]? = some (nlr p) := by rw [List.getElem?_map, h]; rfl
  rw [hallR_nlr, numd_get (List.getElem?_eq_getElem l)] at h1
  have h2 := Option.some.inj h1
  have e1 : 0 + j = p.n := congrArg (·.1) h2
  have e2 : ps[j].1 = p.l := congrArg (·.2.1) h2
  have e3 : ps[j].2 = p.r := congrArg (·.2.2) h2
  refine ⟨?_, by omega⟩
  rw [List.getElem?_eq_getElem l, ← e2, ← e3]
theorem numd_ns : ∀ (ps : List (Nat × Nat)) (n : Nat), (numd n ps).map (·.1) = List.range' n ps.length
  | [], _ => rfl
  | _ :: t, n => by
    rw [numd, List.map_cons, numd_ns t, List.length_cons, List.range'_succ]
theorem hallR_ns (ps : List (Nat × Nat)) : (hallR ps).map (·.n) = List.range ps.length := by
  rw [map_n, hallR_nlr, numd_ns, List.range_eq_range']
theorem hallR_lt {ps : List (Nat × Nat)} {p : Pr} (h : p ∈ hallR ps) : p.n < ps.length := by
  have : p.n ∈ (hallR ps).map (·.n) := List.mem_map.mpr ⟨p, h, rfl⟩
  rw [hallR_ns] at this
  exact List.mem_range.mp this
theorem comes_good : ∀ (t : List (Nat × Nat)) (R : List Pr) (n : Nat), Good R → (∀ p ∈ R, p.n < n) → Good (comes R n t)
  | [], R, n, G, _ => G
  | p :: t, R, n, G, h => by
    refine comes_good t _ (n + 1) (come_good G fun z => ?_) fun q hq => ?_
    · obtain ⟨q, hq, e⟩ := List.mem_map.mp z
      have := h q hq
      have e : q.n = n := e
      omega
    · have : q.n ∈ (come R n p.1 p.2).2.map (·.n) := List.mem_map.mpr ⟨q, hq, rfl⟩
      rw [show (come R n p.1 p.2).2.map (·.n) = R.map (·.n) ++ [n] from place_ns] at this
      rcases List.mem_append.mp this with z | z
      · obtain ⟨u, hu, e⟩ := List.mem_map.mp z
        have := h u hu
        have e : u.n = q.n := e
        omega
      · have := List.mem_singleton.mp z
        have : q.n = n := this
        omega
theorem hallR_good (ps : List (Nat × Nat)) : Good (hallR ps) := comes_good ps [] 0 Good.nil (fun p hp => absurd hp (by simp))
theorem hallR_srt (ps : List (Nat × Nat)) : srtI (hallR ps) = (hallR ps).map (·.n) := by
  unfold srtI
  refine (srt_is (List.Perm.refl _) ?_).symm
  rw [hallR_ns]
  exact List.pairwise_lt_range.imp fun h => Nat.le_of_lt h
theorem hallR_pairs (ps : List (Nat × Nat)) : pairsOf (hallR ps) = (hallR ps).map pairRow := by
  unfold pairsOf
  rw [hallR_srt, List.map_map]
  refine List.map_congr_left fun p hp => ?_
  show (match pairOf (hallR ps) p.n with | some p => pairRow p | none => []) = pairRow p
  rw [pairOf_is (hallR_good ps).N hp]
/-- the hues of the pairs, one behind the other -/
def huesR (ps : List (Nat × Nat)) : List Nat := (hallR ps).map (·.h)
theorem huesR_len (ps : List (Nat × Nat)) : (huesR ps).length = ps.length := by
  unfold huesR
  rw [List.length_map, hallR_len]
theorem huesR_at {ps : List (Nat × Nat)} {j : Nat} {p : Nat × Nat} (h : ps[j]? = some p) : ∃ q, (hallR ps)[j]? = some q ∧ q ∈ hallR ps ∧ q.n = j ∧ q.l = p.1 ∧ q.r = p.2 ∧ (huesR ps)[j]? = some q.h := by
  have l := (List.getElem?_eq_some_iff.mp h).1
  have l2 : j < (hallR ps).length := by rw [hallR_len]; exact l
  have e := List.getElem?_eq_getElem l2
  obtain ⟨e1, e2⟩ := hallR_at e
  rw [h] at e1
  have e3 := Option.some.inj e1
  refine ⟨_, e, List.getElem_mem l2, e2, ?_, ?_, ?_⟩
  · rw [e3]
  · rw [e3]
  · unfold huesR
    rw [List.getElem?_map, e]
    rfl
/-! the rows are good -/
theorem row_lt {R : List Pr} (G : Good R) : (R.map row).all (fun r => decide (r.getD 2 0 < (count (R.map row) : Nat))) = true := by
  rw [List.all_map, List.all_eq_true]
  intro p hp
  have := G.H p hp
  refine decide_eq_true ?_
  show ((p.h : Nat) : Int) < ((cnt R : Nat) : Int)
  omega
theorem row_keys {R : List Pr} (G : Good R) {s : Nat} (hs : s < 2) : (keys (R.map row) s).Nodup := by
  unfold keys
  rw [List.map_map, List.nodup_iff_pairwise_ne, List.pairwise_map]
  have N := G.N
  rw [List.nodup_iff_pairwise_ne, List.pairwise_map] at N
  refine N.imp_of_mem fun {p q} hp hq ne e => ne ?_
  have e2 : ((p.h : Nat) : Int) = ((q.h : Nat) : Int) := congrArg (fun l : List Int => l.getD 1 0) e
  have e1 : p.e s = q.e s := by
    match s, hs with
    | 0, _ =>
      have : ((p.l : Nat) : Int) = ((q.l : Nat) : Int) := congrArg (fun l : List Int => l.getD 0 0) e
      show p.l = q.l
      omega
    | 1, _ =>
      have : ((p.r : Nat) : Int) = ((q.r : Nat) : Int) := congrArg (fun l : List Int => l.getD 0 0) e
      show p.r = q.r
      omega
  rw [G.P p hp q hq s hs e1 (by omega)]
theorem row_good {R : List Pr} (G : Good R) : good (R.map row) = true := by
  unfold good
  rw [row_lt G, decide_eq_true (row_keys G (s := 0) (by decide)), decide_eq_true (row_keys G (s := 1) (by decide))]
  rfl
end My

set_option Elab.async false
set_option linter.all false
set_option maxRecDepth 100000
set_option maxHeartbeats 4000000
namespace My
open PySem PySem.Spec PyProof.Rows L2 Own Mt
theorem TyB.ext {K : PySem.W.Frag} {W : Tbs} {S : List Addr} {H H' : Hp} {v : V} {t : String} (x1 : Ext W H H') (ht : TyB K H v t) : TyB K H' v t := by
  cases ht with
  | non => exact .non
  | bl b => exact .bl b
  | int i => exact .int i
  | str x => exact .str x
  | byt b => exact .byt b
  | lst h => exact .lst (x1.seq h)
  | tup h => exact .tup (x1.tup h)
  | dK h => exact .dK (x1.dk h)
/-- a hall of 1 to 8 ends a side may be made -/
theorem in18 {L : Nat} (h1 : 1 ≤ L) (h2 : L ≤ 8) : isIn (V.int (L : Nat)) 1 8 = true := by
  show (decide ((1 : Int) ≤ (L : Nat)) && decide (((L : Nat) : Int) ≤ 8)) = true
  rw [decide_eq_true (by omega), decide_eq_true (by omega)]
  rfl
/-- the list at a tells these pairs of ends ahead of all else -/
structure PairsAt (K : PySem.W.Frag) (H : Hp) (L Y : Nat) (a : Addr) (as : List Addr) (ps : List (Nat × Nat)) : Prop where
  s : SqL K H a (as.map V.ref)
  few : ps.length ≤ 43
  le : ps.length ≤ as.length
  at_ : ∀ (j : Nat) (p : Nat × Nat), ps[j]? = some p → p.1 < L ∧ p.2 < Y ∧ ∃ b, as[j]? = some b ∧ SqT K H b [.int (p.1 : Nat), .int (p.2 : Nat)]
theorem PairsAt.ext {K : PySem.W.Frag} {W : Tbs} {H H' : Hp} {L Y : Nat} {a : Addr} {as : List Addr} {ps : List (Nat × Nat)} (h : PairsAt K H L Y a as ps) (x : Ext W H H') : PairsAt K H' L Y a as ps :=
  ⟨x.seq h.s, h.few, h.le, fun j p e => let ⟨h1, h2, b, h3, h4⟩ := h.at_ j p e; ⟨h1, h2, b, h3, x.tup h4⟩⟩
/-- what stands behind the pairs that may come, and is refused -/
def Stop (K : PySem.W.Frag) (H : Hp) (L Y : Nat) (as : List Addr) (ps : List (Nat × Nat)) (bad : Bool) : Prop := ∃ (b : Addr) (v1 v2 : V) (t1 t2 : String), as[ps.length]? = some b ∧ SqT K H b [v1, v2] ∧ TyB K H v1 t1 ∧ TyB K H v2 t2 ∧
  (isIn v1 0 ((L : Nat) - 1) && isIn v2 0 ((Y : Nat) - 1)) = !bad ∧ (bad = false → ps.length = 40)
section
variable {P : Program} {w : World} {K : PySem.W.Frag} {mg : Str → Option Value} {base : Heap} {W : Tbs}
def spHued (K : PySem.W.Frag) (W : Tbs) (EB EM : Addr) : Sp := fun vs H Q E => ∃ (L Y : Nat) (a : Addr) (as : List Addr) (ps : List (Nat × Nat)), vs = [.int (L : Nat), .int (Y : Nat), .ref a] ∧ 1 ≤ L ∧ L ≤ 8 ∧ 1 ≤ Y ∧ Y ≤ 8 ∧ PairsAt K H L Y a as ps ∧ ps.length ≤ 40 ∧
  (∀ p ∈ W.l, LamX.TabS H p.1 p.2) ∧
  ((as.length = ps.length ∧ ∀ l H', H l = none → Ext W H H' → H' l = some (.lst (vN (huesR ps))) → Q (.ref l) H') ∨
    ∃ bad, Stop K H L Y as ps bad ∧ ∀ H', Ext W H H' → E (.ref (if bad then EB else EM)) none H')
theorem ok_hued (T : Txt K mg) (B : LamX.TabB base mg T.k_place T.p_place) (WO : Wok W T.p_place) : FnOk P w K mg base (L2.CX P w) 6 T.f_hued T.d_hued ["lefts", "rights", "pairs"] (spHued K W T.E_BadEnd T.E_TooMany) := by
  have ok_Hall_init : FnOk P w K mg base (L2.CX P w) 3 T.f_Hall_init T.d_Hall_init ["self", "lefts", "rights"] (spInit K W T.C_Hall T.E_BadCount) := ok_Hall_init T
  have ok_Hall_come : FnOk P w K mg base (L2.CX P w) 5 T.f_Hall_come T.d_Hall_come ["self", "left", "right"] (spCome K W T.C_Hall T.E_BadEnd T.E_TooMany) := ok_Hall_come T B WO
  have ok_Hall_pairs : FnOk P w K mg base CX0 1 T.f_Hall_pairs T.d_Hall_pairs ["self"] (spPairs K W T.C_Hall) := ok_Hall_pairs T
  refine T.D_hued.F.okX sc_hued (fun vs H Q E h => ?_) (fun cdv A outer s H vs Q E hr h => ?_)
  · obtain ⟨L, Y, a, as, ps, rfl, _⟩ := h
    rfl
  · obtain ⟨L, Y, p0, as, ps, rfl, L1, L2, Y1, Y2, hP, few, tabs, q⟩ := h
    refine ⟨_, (pss_cons (ps_set (i := 3) sc_hued.nd rfl (.inl rfl) (pe_make T.M_Hall ok_Hall_init (hr.mono (by decide)) rfl T.g_Hall T.b_Hall_init .nil (passes_call (takes_of rfl rfl rfl rfl) (fun _ _ _ _ h => h)) (pa_cons (pv 0) (pa_cons (pv 1) pa_nil))))
    (pss_cons (ps_for (passes_of rfl) rfl (pi_list (pv 2)) (pg_tup rfl (pgs_cons (pg_name (i := 4) sc_hued.nd rfl (.inl rfl)) (pgs_cons (pg_name (i := 5) sc_hued.nd rfl (.inl rfl)) pgs_nil))) 
      (pss_one (ps_expr (pe_meth (pv 3) T.cl_Hall T.D_Hall_come.m ok_Hall_come (hr.mono (by decide)) T.D_Hall_come.b .nil (passes_call (takes_of rfl rfl rfl rfl) (fun _ _ _ _ h => h)) (pa_cons (pv 4) (pa_cons (pv 5) pa_nil))))))
    (pss_one (ps_ret (pe_lc rfl sc_hued.nd (own := [("number", 6), ("left", 4), ("right", 5), ("hue", 7)]) (pi_list (pe_meth0 (pv 3) T.cl_Hall T.D_Hall_pairs.m ok_Hall_pairs (hr.mono (by decide)) T.D_Hall_pairs.b .nil pass0)) (blkOk_by (N := N_hued) (sc := defScope s_hued) (by decide +kernel)) (fun _ _ _ _ _ => (pg_tupK K 4 rfl (pgs_cons (pg_name (i := 6) sc_hued.nd rfl (.inl rfl)) (pgs_cons (pg_name (i := 4) sc_hued.nd rfl (.inl rfl)) (pgs_cons (pg_name (i := 5) sc_hued.nd rfl (.inl rfl)) (pgs_cons (pg_name (i := 7) sc_hued.nd rfl (.inl rfl)) pgs_nil)))))) (fun _ _ _ _ _ => pts_nil) (fun _ _ _ _ _ => (pv 7))))))), ?_⟩
    refine ⟨_, rfl, _, rfl, fun a dx na ndx nax => ?_⟩
    have x2 : Ext W H (upd (upd H dx (.own a)) a (.ins T.C_Hall dx [])) := (Fx.new (W := W) (S := []) ndx).trans (.new (by rw [upd_ne nax.symm]; exact na))
    have ha2 : (upd (upd H dx (.own a)) a (.ins T.C_Hall dx [])) a = some (.ins T.C_Hall dx []) := upd_same
    revert x2 ha2
    generalize upd (upd H dx (.own a)) a (.ins T.C_Hall dx []) = H2
    intro x2 ha2
    refine ⟨a, dx, _, _, _, _, rfl, ha2, TyB.int _, TyB.int _, fun L' Y' eL eY _ _ _ _ d H3 nd x3 hH3 => ⟨rfl, ?main⟩, fun z => ?bad⟩
    case bad =>
      exfalso
      rw [in18 L1 L2, in18 Y1 Y2] at z
      cases z
    have eL' : L' = L := by have := V.int.inj eL; omega
    have eY' : Y' = Y := by have := V.int.inj eY; omega
    subst eL' eY'
    have x03 : Ext W H H3 := (x2.up.trans x3).down fun b hb => by rw [List.mem_singleton.mp hb]; exact na
    have nd0 : H d = none := x2.f _ nd
    have down : ∀ {G : Hp}, Fx W [a, d] H G → Ext W H G := fun x => x.down fun b hb => by
      rcases List.mem_cons.mp hb with z | z
      · rw [z]; exact na
      · rw [List.mem_singleton.mp z]; exact nd0
    refine ⟨_, rfl, p0, rfl, ⟨_, (hP.ext x03).s⟩, for_list (K := K) (a := p0) (xs := as.map V.ref) (fun i σ G => ∃ (v4 v5 v6 v7 : Option V),
      σ = [some (.int (L' : Nat)), some (.int (Y' : Nat)), some (.ref p0), some (.ref a), v4, v5, v6, v7] ∧ i ≤ ps.length ∧ Fx W [a, d] H G ∧ HallOf K T.C_Hall G a d L' Y' i (hallR (ps.take i)))
      ⟨none, none, none, none, rfl, Nat.zero_le _, x03.up, hH3⟩
      (fun i σ G _ ⟨_, _, _, _, _, _, x, _⟩ => (hP.ext (down x)).s) ?_ ?_⟩
    · rintro i y σ G hi ⟨v4, v5, v6, v7, rfl, il, x, hH⟩
      have xe := down x
      have hPG := hP.ext xe
      have hlen : (hallR (ps.take i)).length = i := by rw [hallR_len, List.length_take, Nat.min_eq_left il]
      have hns : ∀ p ∈ hallR (ps.take i), p.n < i := fun p hp => by
        have := hallR_lt hp
        rw [List.length_take] at this
        omega
      have htabs : ∀ p ∈ W.l, LamX.TabS G p.1 p.2 := fun p hp => x.l p hp (tabs p hp)
      have hno : ∀ e d n, (hf e d n).lookup ("come" : Str) = none := fun e d n => hf_no _ _ _ (by decide +kernel) (by decide +kernel) (by decide +kernel)
      obtain ⟨dx1, e1, kv1, ha1, he1, hd1, hE1⟩ := hH.ex
      rw [List.getElem?_map] at hi
      obtain ⟨b, hb, rfl⟩ := Option.map_eq_some_iff.mp hi
      have hl50 : (hallR (ps.take i)).length ≤ 50 := by omega
      by_cases lt : i < ps.length
      · obtain ⟨p1, p2, b', hb', hq⟩ := hPG.at_ i _ (List.getElem?_eq_getElem lt)
        have eb : b' = b := by
          rw [hb'] at hb
          exact Option.some.inj hb
        subst eb
        refine ⟨b', _, rfl, hq, rfl, _, _, rfl, _, _, rfl, rfl, ?_⟩
        refine ⟨_, rfl, a, dx1, _, rfl, ha1, hno _ _ _, _, rfl, _, rfl, a, d, L', Y', i, _, _, _, _, _, rfl, hH, hallR_good _, hns, hl50, htabs, TyB.int _, TyB.int _, fun l r el er hl hr f40 b c G1 nb nc x1 hH1 hT => ?_, fun z => ?_, fun z z2 => ?_⟩
        · have el' : l = ps[i].1 := by have := V.int.inj el; omega
          have er' : r = ps[i].2 := by have := V.int.inj er; omega
          subst el' er'
          refine ⟨_, _, _, _, rfl, lt, x.trans x1, ?_⟩
          rw [hallR_take (List.getElem?_eq_getElem lt)]
          exact hH1
        · exfalso
          rw [isIn_of p1, isIn_of p2] at z
          cases z
        · omega
      · have ei : i = ps.length := by omega
        subst ei
        rcases q with ⟨el, _⟩ | ⟨bad, ⟨b', v1, v2, t1, t2, hb', hq, h1, h2, hin, h40⟩, qe⟩
        · have := (List.getElem?_eq_some_iff.mp hb).1
          omega
        · have eb : b' = b := by
            rw [hb'] at hb
            exact Option.some.inj hb
          subst eb
          refine ⟨b', _, rfl, xe.tup hq, rfl, _, _, rfl, _, _, rfl, rfl, ?_⟩
          refine ⟨_, rfl, a, dx1, _, rfl, ha1, hno _ _ _, _, rfl, _, rfl, a, d, L', Y', ps.length, _, v1, v2, t1, t2, rfl, hH, hallR_good _, hns, hl50, htabs, TyB.ext (S := []) xe h1, TyB.ext (S := []) xe h2, fun l r el er hl hr f40 b c G1 nb nc x1 hH1 hT => ?_, fun z => ?_, fun z z2 => ?_⟩
          · exfalso
            subst el er
            rw [isIn_of hl, isIn_of hr] at hin
            cases bad with
            | false =>
              have := h40 rfl
              omega
            | true => cases hin
          · rw [z] at hin
            cases bad with
            | false => cases hin
            | true => exact qe G xe
          · rw [z] at hin
            cases bad with
            | false => exact qe G xe
            | true => cases hin
    · rintro σ G ⟨v4, v5, v6, v7, rfl, il, x, hH⟩
      rw [List.length_map] at il hH
      have xe := down x
      rcases q with ⟨el, q⟩ | ⟨bad, ⟨b', v1, v2, t1, t2, hb', _⟩, qe⟩
      · have et : ps.take as.length = ps := List.take_of_length_le (by omega)
        rw [et] at hH
        obtain ⟨dx1, e1, kv1, ha1, he1, hd1, hE1⟩ := hH.ex
        have hno : ∀ e d n, (hf e d n).lookup ("pairs" : Str) = none := fun e d n => hf_no _ _ _ (by decide +kernel) (by decide +kernel) (by decide +kernel)
        refine ⟨_, rfl, a, dx1, _, rfl, ha1, hno _ _ _, a, d, L', Y', as.length, _, rfl, hH, by rw [hallR_len]; omega, (hallR_good ps).N, fun u us G1 nu x1 hu hE => ?_⟩
        rw [hallR_pairs] at hE
        refine ⟨u, rfl, ⟨_, SqL.of hu⟩, fun D nD => lc_list (K := K) (a := u) (xs := us.map V.ref)
          (fun j G2 => Ext W G1 G2 ∧ G2 D = some (.lst (vN ((huesR ps).take j)))) ⟨.new nD, upd_same⟩ (fun j G2 _ ⟨x2, _⟩ => SqL.of (x2.lst hu)) ?_ ?_⟩
        · rintro j y G2 hj ⟨x2, hD⟩
          obtain ⟨b, r, rfl, hb, hr', hq⟩ := hE.val hj
          rw [List.getElem?_map] at hr'
          obtain ⟨p, hp, rfl⟩ := Option.map_eq_some_iff.mp hr'
          refine ⟨b, _, rfl, x2.tup hq, rfl, _, _, rfl, _, _, rfl, _, _, rfl, _, _, rfl, rfl, rfl, yesT ?_⟩
          refine ⟨_, rfl, _, hD, ?_, x2.put (.inl nD) hD, ?_⟩
          · rw [List.length_map, List.length_take]
            exact small1000 (by have := huesR_len ps; omega)
          · have hh : (huesR ps)[j]? = some p.h := by
              unfold huesR
              rw [List.getElem?_map, hp]
              rfl
            rw [upd_same, take_one hh]
            unfold vN
            rw [List.map_append]
            rfl
        · rintro G2 ⟨x2, hD⟩
          have e3 : (huesR ps).take (us.map V.ref).length = huesR ps := List.take_of_length_le (by
            have := hE.len
            rw [List.length_map, hallR_len] at this
            rw [huesR_len, List.length_map]
            omega)
          rw [e3] at hD
          exact q D G2 (xe.f _ (x1.f _ nD)) (xe.trans (x1.trans x2)) hD
      · have := (List.getElem?_eq_some_iff.mp hb').1
        omega
end
end My

set_option Elab.async false
set_option linter.all false
set_option maxRecDepth 100000
set_option maxHeartbeats 4000000
namespace My
open PySem PySem.Spec PyProof.Rows L2 Own Mt
open K08 (most ends count)
theorem vN_snoc (l : List Nat) (x : Nat) : vN (l ++ [x]) = vN l ++ [V.int (x : Nat)] := by
  unfold vN
  rw [List.map_append]
  rfl
section
variable {P : Program} {w : World} {K : PySem.W.Frag} {mg : Str → Option Value} {base : Heap} {W : Tbs}
/-! what the law reads from its draw -/
def spDraw (K : PySem.W.Frag) : Sp := fun vs H Q _ => ∃ (a : Addr) (ns : List Int) (k : Nat), vs = [.ref a, .int (k : Nat)] ∧ SqL K H a (ns.map V.int) ∧ Q (.int (ns.getD k 0)) H
theorem ok_l_cell_at (T : Txt K mg) : FnOk P w K mg base CX0 1 T.f_l_cell_at T.d_l_cell_at ["_law_script", "_law_k"] (spDraw K) := by
  refine T.D_l_cell_at.F.ok sc_l_cell_at (fun vs H Q E h => ?_) (fun cdv A outer s H vs Q E hr h => ?_)
  · obtain ⟨a, ns, k, rfl, _⟩ := h
    rfl
  · obtain ⟨a, ns, k, rfl, hS, q⟩ := h
    refine ⟨_, (pss_cons (ps_if (pt_cmpR op_lt (pv 1) (pe_callB (lenQ K) (by rfl) T.z_len PySem.boot_len (pa_cons (pv 0) pa_nil)) (nomark _)) 
      (pss_one (ps_ret (pe_ix (ixL K) (pv 0) (pv 1) (fun _ _ => rfl)))) pss_nil)
    (pss_one (ps_ret pe_int))), ?_⟩
    refine ⟨_, rfl, _, rfl, a, _, rfl, .inl hS, _, _, rfl, rfl, _, rfl, ite2 (fun h => ?_) (fun h => ?_)⟩
    · have lt : k < ns.length := by
        have := of_decide_eq_true h
        rw [List.length_map] at this
        omega
      refine ⟨_, rfl, _, rfl, a, _, _, _, rfl, rfl, hS, atI_nat (j := k) (by rw [List.getElem?_map, List.getElem?_eq_getElem lt]; rfl), ?_⟩
      rw [List.getD_eq_getElem?_getD, List.getElem?_eq_getElem lt] at q
      exact q
    · have ge : ns.length ≤ k := by
        by_cases lt : k < ns.length
        · exact absurd (decide_eq_true (by rw [List.length_map]; omega)) h
        · omega
      rw [List.getD_eq_getElem?_getD, List.getElem?_eq_none ge] at q
      exact q
def mixI (c k : Int) : Int := (c * 48271 + 7919 * k * k + 31 * k) % 2147483647 / 7
theorem mixI_nn (c k : Int) : 0 ≤ mixI c k := by
  unfold mixI
  have := Int.emod_nonneg (c * 48271 + 7919 * k * k + 31 * k) (show (2147483647 : Int) ≠ 0 by decide)
  omega
def spMix : Sp := fun vs H Q _ => ∃ (c k : Int), vs = [.int c, .int k] ∧ 0 ≤ k ∧ k ≤ 1000 ∧ Q (.int (mixI c k)) H
theorem ok_l_mixed (T : Txt K mg) : FnOk P w K mg base CX0 1 T.f_l_mixed T.d_l_mixed ["_law_cell", "_law_k"] spMix := by
  refine T.D_l_mixed.F.ok sc_l_mixed (fun vs H Q E h => ?_) (fun cdv A outer s H vs Q E hr h => ?_)
  · obtain ⟨c, k, rfl, _⟩ := h
    rfl
  · obtain ⟨c, k, rfl, h0, h1, q⟩ := h
    refine ⟨_, (pss_one (ps_ret (pe_op op_fdiv (pe_op op_mod (pe_op op_add (pe_op op_add (pe_op op_mul (pv 0) pe_int) (pe_op op_mul (pe_op op_mul pe_int (pv 1)) (pv 1))) (pe_op op_mul pe_int (pv 1))) pe_int) pe_int))), ?_⟩
    refine ⟨_, rfl, _, _, rfl, rfl, .inr ⟨by decide, by decide⟩, ?_⟩
    refine ⟨_, rfl, _, _, rfl, rfl, .inl ⟨by decide, by decide⟩, ?_⟩
    refine ⟨_, rfl, _, _, rfl, rfl, .inr ⟨by omega, by omega⟩, ?_⟩
    refine ⟨_, _, rfl, rfl, ?_⟩
    refine ⟨_, rfl, _, _, rfl, rfl, .inl ⟨by decide, by decide⟩, ?_⟩
    refine ⟨_, _, rfl, rfl, ?_⟩
    refine ⟨_, _, rfl, rfl, (by show (0 : Int) < 2147483647; decide), ?_⟩
    refine ⟨_, _, rfl, rfl, ⟨by decide, by decide⟩, ?_⟩
    exact q
end
end My

set_option Elab.async false
set_option linter.all false
set_option maxRecDepth 100000
set_option maxHeartbeats 4000000
namespace My
open PySem PySem.Spec PyProof.Rows L2 Own Mt
open K08 (most ends count)
/-- sizes that the law draws: each side has 1 to 8 ends -/
def isSz (r : List Int) : Prop := ∃ (L Y : Nat) (z : Int), r = [(L : Int), (Y : Int), z] ∧ 1 ≤ L ∧ L ≤ 8 ∧ 1 ≤ Y ∧ Y ≤ 8
theorem szd {a b : Int} (z : Int) (h1 : 1 ≤ a) (h2 : a ≤ 8) (h3 : 1 ≤ b) (h4 : b ≤ 8) : isSz [a, b, z] := ⟨a.toNat, b.toNat, z, by rw [show ((a.toNat : Nat) : Int) = a by omega, show ((b.toNat : Nat) : Int) = b by omega], by omega, by omega, by omega, by omega⟩
theorem range_ints (S : Nat) : rgV 0 (S : Nat) = vN (List.range S) := by
  unfold rgV vN
  rw [show (((S : Nat) : Int) - 0).toNat = S by omega]
  refine List.map_congr_left fun i _ => ?_
  rw [show (0 : Int) + (i : Nat) = (i : Nat) by omega]
section
variable {P : Program} {w : World} {K : PySem.W.Frag} {mg : Str → Option Value} {base : Heap} {W : Tbs}
def spSizesBy (K : PySem.W.Frag) (W : Tbs) : Sp := fun vs H Q _ => ∃ c : Int, vs = [.int c] ∧ ∀ a r H', isSz r → Ext W H H' → SqT K H' a (r.map V.int) → Q (.ref a) H'
theorem ok_l_sizes_by (T : Txt K mg) : FnOk P w K mg base CX0 1 T.f_l_sizes_by T.d_l_sizes_by ["_law_cell"] (spSizesBy K W) := by
  refine T.D_l_sizes_by.F.ok sc_l_sizes_by (fun vs H Q E h => ?_) (fun cdv A outer s H vs Q E hr h => ?_)
  · obtain ⟨c, rfl, _⟩ := h
    rfl
  · obtain ⟨c, rfl, q⟩ := h
    refine ⟨_, (pss_cons (ps_set (i := 1) sc_l_sizes_by.nd rfl (.inl rfl) (pe_lst (pa_cons (pe_tup (pa_cons pe_int (pa_cons pe_int (pa_cons pe_int pa_nil)))) (pa_cons (pe_tup (pa_cons pe_int (pa_cons pe_int (pa_cons pe_int pa_nil)))) (pa_cons (pe_tup (pa_cons pe_int (pa_cons pe_int (pa_cons pe_int pa_nil)))) (pa_cons (pe_tup (pa_cons pe_int (pa_cons pe_int (pa_cons pe_int pa_nil)))) (pa_cons (pe_tup (pa_cons pe_int (pa_cons pe_int (pa_cons pe_int pa_nil)))) (pa_cons (pe_tup (pa_cons pe_int (pa_cons pe_int (pa_cons pe_int pa_nil)))) (pa_cons (pe_tup (pa_cons pe_int (pa_cons pe_int (pa_cons pe_int pa_nil)))) (pa_cons (pe_tup (pa_cons pe_int (pa_cons pe_int (pa_cons pe_int pa_nil)))) pa_nil))))))))))
    (pss_one (ps_ret (pe_ix (ixL K) (pe_op op_cat (pv 1) (pe_lst (pa_cons (pe_tup (pa_cons (pe_op op_add pe_int (pe_op op_mod (pe_op op_fdiv (pv 0) pe_int) pe_int)) (pa_cons (pe_op op_add pe_int (pe_op op_mod (pe_op op_fdiv (pv 0) pe_int) pe_int)) (pa_cons (pe_op op_add pe_int (pe_op op_mod (pe_op op_fdiv (pv 0) pe_int) pe_int)) pa_nil)))) (pa_cons (pe_tup (pa_cons pe_int (pa_cons pe_int (pa_cons pe_int pa_nil)))) pa_nil)))) (pe_op op_mod (pv 0) pe_int) (fun _ _ => rfl))))), ?_⟩
    have S3 : 3 ≤ sizeLine := by decide
    refine ⟨S3, fun t0 nt0 => ?_⟩
    refine newO W (H := H) (p := t0) nt0 fun G0 x0 ht0 => ?_
    refine ⟨S3, fun t1 nt1 => ?_⟩
    refine newO W (H := G0) (p := t1) nt1 fun G1 x1 ht1 => ?_
    refine ⟨S3, fun t2 nt2 => ?_⟩
    refine newO W (H := G1) (p := t2) nt2 fun G2 x2 ht2 => ?_
    refine ⟨S3, fun t3 nt3 => ?_⟩
    refine newO W (H := G2) (p := t3) nt3 fun G3 x3 ht3 => ?_
    refine ⟨S3, fun t4 nt4 => ?_⟩
    refine newO W (H := G3) (p := t4) nt4 fun G4 x4 ht4 => ?_
    refine ⟨S3, fun t5 nt5 => ?_⟩
    refine newO W (H := G4) (p := t5) nt5 fun G5 x5 ht5 => ?_
    refine ⟨S3, fun t6 nt6 => ?_⟩
    refine newO W (H := G5) (p := t6) nt6 fun G6 x6 ht6 => ?_
    refine ⟨S3, fun t7 nt7 => ?_⟩
    refine newO W (H := G6) (p := t7) nt7 fun G7 x7 ht7 => ?_
    refine ⟨by show 8 ≤ sizeLine; decide, fun l0 nl0 => ?_⟩
    refine newO W (H := G7) (p := l0) nl0 fun G8 x8 hl0 => ?_
    have m0 := Int.emod_nonneg (c / 10) (show (8 : Int) ≠ 0 by decide)
    have m1 := Int.emod_lt_of_pos (c / 10) (show (0 : Int) < 8 by decide)
    have m2 := Int.emod_nonneg (c / 80) (show (8 : Int) ≠ 0 by decide)
    have m3 := Int.emod_lt_of_pos (c / 80) (show (0 : Int) < 8 by decide)
    refine ⟨_, rfl, _, rfl, _, _, rfl, rfl, ⟨by decide, by decide⟩, _, _, rfl, rfl, (by show (0 : Int) < 8; decide), _, _, rfl, rfl, _, rfl, _, _, rfl, rfl, ⟨by decide, by decide⟩, _, _, rfl, rfl, (by show (0 : Int) < 8; decide), _, _, rfl, rfl, _, rfl, _, _, rfl, rfl, ⟨by decide, by decide⟩, _, _, rfl, rfl, (by show (0 : Int) < 7; decide), _, _, rfl, rfl, S3, fun t8 nt8 => ?_⟩
    refine newO W (H := G8) (p := t8) nt8 fun G9 x9 ht8 => ?_
    refine ⟨S3, fun t9 nt9 => ?_⟩
    refine newO W (H := G9) (p := t9) nt9 fun G10 x10 ht9 => ?_
    refine ⟨by show 2 ≤ sizeLine; decide, fun l1 nl1 => ?_⟩
    refine newO W (H := G10) (p := l1) nl1 fun G11 x11 hl1 => ?_
    refine ⟨l0, l1, _, _, rfl, rfl, x11.lst (x10.lst (x9.lst hl0)), hl1, by show 10 ≤ sizeLine; decide, fun l2 nl2 => ?_⟩
    refine newO W (H := G11) (p := l2) nl2 fun G12 x12 hl2 => ?_
    have E : Each K G12 [t0, t1, t2, t3, t4, t5, t6, t7, t8, t9] [[8, 8, 2], [7, 8, 2], [6, 6, 3], [8, 8, 3], [4, 4, 3], [3, 3, 40], [2, 5, 40], [5, 5, 2], [1 + c / 10 % 8, 1 + c / 80 % 8, 2 + c / 640 % 7], [8, 8, 40]] := by
      exact .cons (.inl (.inl (x12.tp (x11.tp (x10.tp (x9.tp (x8.tp (x7.tp (x6.tp (x5.tp (x4.tp (x3.tp (x2.tp (x1.tp ht0)))))))))))))) (.cons (.inl (.inl (x12.tp (x11.tp (x10.tp (x9.tp (x8.tp (x7.tp (x6.tp (x5.tp (x4.tp (x3.tp (x2.tp ht1))))))))))))) (.cons (.inl (.inl (x12.tp (x11.tp (x10.tp (x9.tp (x8.tp (x7.tp (x6.tp (x5.tp (x4.tp (x3.tp ht2)))))))))))) (.cons (.inl (.inl (x12.tp (x11.tp (x10.tp (x9.tp (x8.tp (x7.tp (x6.tp (x5.tp (x4.tp ht3))))))))))) (.cons (.inl (.inl (x12.tp (x11.tp (x10.tp (x9.tp (x8.tp (x7.tp (x6.tp (x5.tp ht4)))))))))) (.cons (.inl (.inl (x12.tp (x11.tp (x10.tp (x9.tp (x8.tp (x7.tp (x6.tp ht5))))))))) (.cons (.inl (.inl (x12.tp (x11.tp (x10.tp (x9.tp (x8.tp (x7.tp ht6)))))))) (.cons (.inl (.inl (x12.tp (x11.tp (x10.tp (x9.tp (x8.tp ht7))))))) (.cons (.inl (.inl (x12.tp (x11.tp (x10.tp ht8))))) (.cons (.inl (.inl (x12.tp (x11.tp ht9)))) (.nil))))))))))
    have x0' : Ext W H G12 := x0.trans (x1.trans (x2.trans (x3.trans (x4.trans (x5.trans (x6.trans (x7.trans (x8.trans (x9.trans (x10.trans (x11.trans (x12))))))))))))
    have k0 := Int.emod_nonneg c (show (10 : Int) ≠ 0 by decide)
    have k1 := Int.emod_lt_of_pos c (show (0 : Int) < 10 by decide)
    obtain ⟨j, hj⟩ : ∃ j : Nat, c % 10 = (j : Nat) := ⟨(c % 10).toNat, by omega⟩
    have jl : j < 10 := by omega
    have any : ∀ r ∈ ([[8, 8, 2], [7, 8, 2], [6, 6, 3], [8, 8, 3], [4, 4, 3], [3, 3, 40], [2, 5, 40], [5, 5, 2], [1 + c / 10 % 8, 1 + c / 80 % 8, 2 + c / 640 % 7], [8, 8, 40]] : List (List Int)), isSz r := by
      intro r hr
      simp only [List.mem_cons, List.not_mem_nil, or_false] at hr
      rcases hr with rfl | rfl | rfl | rfl | rfl | rfl | rfl | rfl | rfl | rfl <;> exact szd _ (by omega) (by omega) (by omega) (by omega)
    obtain ⟨b, hb⟩ : ∃ b, ([t0, t1, t2, t3, t4, t5, t6, t7, t8, t9] : List Addr)[j]? = some b := ⟨_, List.getElem?_eq_getElem (show j < 10 from jl)⟩
    obtain ⟨r, h1, h2⟩ := E.on hb
    refine ⟨_, rfl, _, _, rfl, rfl, (by show (0 : Int) < 10; decide), l2, _, _, _, rfl, rfl, SqL.of hl2, ?_, q b r G12 (any r (List.mem_of_getElem? h1)) x0' h2⟩
    rw [hj]
    refine atI_nat (j := j) ?_
    have := congrArg (Option.map V.ref) hb
    rw [← List.getElem?_map] at this
    exact this
end
end My

set_option Elab.async false
set_option linter.all false
set_option maxRecDepth 100000
set_option maxHeartbeats 4000000
namespace My
open PySem PySem.Spec PyProof.Rows L2 Own Mt
open K08 (most ends count)
theorem mod_at {α : Type} {xs : List α} {i : Int} (h : 0 < xs.length) : ∃ v, atI xs (i % (xs.length : Nat)) = some v ∧ v ∈ xs := by
  have h0 := Int.emod_nonneg i (show ((xs.length : Nat) : Int) ≠ 0 by omega)
  have h1 := Int.emod_lt_of_pos i (show (0 : Int) < (xs.length : Nat) by omega)
  have e : i % (xs.length : Nat) = (((i % (xs.length : Nat)).toNat : Nat) : Int) := by omega
  have l : (i % (xs.length : Nat)).toNat < xs.length := by omega
  rw [e]
  exact ⟨_, atI_nat (List.getElem?_eq_getElem l), List.getElem_mem l⟩
section
variable {P : Program} {w : World} {K : PySem.W.Frag} {mg : Str → Option Value} {base : Heap} {W : Tbs}
def spEnds (K : PySem.W.Frag) (W : Tbs) : Sp := fun vs H Q _ => ∃ (c : Int) (z d : Addr) (kvs : List (Key × V)) (as : List Addr) (ts : List (List Int)) (L Y : Nat) (m : Int), vs = [.int c, .ref z, .ref d] ∧ SqT K H z [.int (L : Nat), .int (Y : Nat), .int m] ∧ 1 ≤ L ∧ L ≤ 8 ∧ 1 ≤ Y ∧ Y ≤ 8 ∧
  H d = some (.dK kvs) ∧ kvs.map (·.2) = as.map V.ref ∧ Each K H as ts ∧ (∀ r ∈ ts, 2 ≤ r.length) ∧ ts.length ≤ 200 ∧ ∀ a (l r : Nat) H', l < L → r < Y → H a = none → Ext W H H' → H' a = some (.tup [.int (l : Nat), .int (r : Nat)]) → Q (.ref a) H'
theorem ok_l_ends (T : Txt K mg) : FnOk P w K mg base CX0 1 T.f_l_ends T.d_l_ends ["_law_cell", "_law_sizes", "_law_rows"] (spEnds K W) := by
  refine T.D_l_ends.F.ok sc_l_ends (fun vs H Q E h => ?_) (fun cdv A outer s H vs Q E hr h => ?_)
  · obtain ⟨c, z, d, kvs, as, ts, L, Y, m, rfl, _⟩ := h
    rfl
  · obtain ⟨c, z, d, kvs, as, ts, L, Y, m, rfl, hz, L1, L2, Y1, Y2, hd, ev, hE, hw, few, q⟩ := h
    refine ⟨_, (pss_cons (ps_set (i := 3) sc_l_ends.nd rfl (.inl rfl) (pe_lst pa_nil))
    (pss_cons (ps_for PassesOwn.never rfl (pi_range1 rfl T.z_range (pa_cons pe_int pa_nil)) (pg_name (i := 4) sc_l_ends.nd rfl (.inr rfl)) 
      (pss_cons (ps_set (i := 5) sc_l_ends.nd rfl (.inr rfl) (pe_lock (pe_lc rfl sc_l_ends.nd (own := [("_law_row", 6)]) (pi_values (pv 2)) (blkOk_by (N := N_l_ends) (sc := defScope s_l_ends) (by decide +kernel)) (fun _ _ _ _ _ => (pg_name (i := 6) sc_l_ends.nd rfl (.inl rfl))) (fun _ _ _ _ _ => pts_nil) (fun _ _ _ _ _ => (pe_ix (ixT K) (pv 6) (pv 4) (fun _ _ => rfl))))))
      (pss_cons (ps_set (i := 7) sc_l_ends.nd rfl (.inl rfl) (pe_listRg rfl (by rfl) T.z_list (prg_1 (by rfl) T.z_range (pe_ix (ixT K) (pv 1) (pv 4) (fun _ _ => rfl)))))
      (pss_cons (ps_set (i := 8) sc_l_ends.nd rfl (.inl rfl) (pe_orT (pe_lc rfl sc_l_ends.nd (own := [("_law_end", 9)]) (pi_list (pv 7)) (blkOk_by (N := N_l_ends) (sc := defScope s_l_ends) (by decide +kernel)) (fun _ _ _ _ _ => (pg_name (i := 9) sc_l_ends.nd rfl (.inl rfl))) (fun _ _ _ _ _ => (pts_one (pt_cmpR op_lt (bmC K (pe_bm PySem.F.plainAttrs_list PySem.F.slot_list_count PySem.F.type_list_count (cntL K) (pv 5) (pa_cons (pv 9) pa_nil))) (pe_ix (ixT K) (pv 1) pe_int (fun _ _ => rfl)) (nomark _)))) (fun _ _ _ _ _ => (pv 9))) (pe_one (pv 7))))
      (pss_one (ps_expr (bmC K (pe_bm PySem.F.plainAttrs_list PySem.F.slot_list_append PySem.F.type_list_append mt_append (pv 3) (pa_cons (pe_ix (ixL K) (pv 8) (pe_op op_mod (pe_op op_fdiv (pv 0) (pe_ix (ixL K) (pe_lst (pa_cons pe_int (pa_cons pe_int pa_nil))) (pv 4) (fun _ _ => rfl))) (pe_callB (lenQ K) (by rfl) T.z_len PySem.boot_len (pa_cons (pv 8) pa_nil))) (fun _ _ => rfl)) pa_nil)))))))))
    (pss_one (ps_ret (pe_tup (pa_cons (pe_ix (ixL K) (pv 3) pe_int (fun _ _ => rfl)) (pa_cons (pe_ix (ixL K) (pv 3) pe_int (fun _ _ => rfl)) pa_nil))))))), ?_⟩
    have len : kvs.length = ts.length := by
      have := congrArg List.length ev
      rw [List.length_map, List.length_map, hE.len] at this
      exact this
    refine ⟨by show 0 ≤ sizeLine; decide, fun F nF => ?_⟩
    refine newO W (H := H) (p := F) nF fun H1 x1 hF => ?_
    refine ⟨_, rfl, by decide, by decide, for_range (lo := 0) (n := 2) (fun i σ H2 => ∃ (v4 v5 v6 v7 v8 v9 : Option V) (fs : List Nat), σ = [some (.int c), some (.ref z), some (.ref d), some (.ref F), v4, v5, v6, v7, v8, v9] ∧
      Ext W H H2 ∧ H2 F = some (.lst (vN fs)) ∧ fs.length = i ∧ ∀ s x, fs[s]? = some x → x < sideOf L Y s)
      ⟨none, none, none, none, none, none, [], rfl, x1, hF, rfl, fun s x h => by simp at h⟩ ?_ ?_⟩
    · rintro i σ H2 hi ⟨v4, v5, v6, v7, v8, v9, fs, rfl, x, hF2, lf, hfs⟩
      have ez : ((0 : Int) + (i : Nat)) = (i : Nat) := by omega
      rw [ez]
      have hS : atI [V.int (L : Nat), .int (Y : Nat), .int m] (i : Int) = some (V.int (sideOf L Y i : Nat)) := by
        match i, hi with
        | 0, _ => exact atI_nat (j := 0) rfl
        | 1, _ => exact atI_nat (j := 1) rfl
      have sS : 1 ≤ sideOf L Y i ∧ sideOf L Y i ≤ 8 := by
        unfold sideOf
        split <;> omega
      generalize eS : sideOf L Y i = S at hS sS
      have hd2 := x.dk hd
      have hE2 := x.each hE
      -- taken = [row[side] for row in rows.values()]
      refine ⟨d, _, hd2, trivial, fun od => ?_⟩
      refine ⟨_, rfl, d, od, kvs, rfl, upd_same, fun D nD => lc_it walk_values (fun j H3 => Fx W [D] (upd H2 d (.frz od (.dK kvs))) H3 ∧ H3 D = some (.lst (((ends ts i).take j).map V.int)))
        ⟨.new nD, by rw [List.take_zero]; exact upd_same⟩ (fun j H3 _ ⟨x3, _⟩ => x3.fz upd_same (by simpa using (ne_of_none upd_same nD))) ?_ ?_⟩
      · rintro j y H3 H4 hj ⟨x3, hD⟩ ⟨rfl, kk, hk⟩
        have hy : (as.map V.ref)[j]? = some y := by
          rw [← ev, List.getElem?_map, hk]
          rfl
        obtain ⟨b, r, rfl, hb, hr', hc0⟩ := hE2.val hy
        have lt := hw r (List.mem_of_getElem? hr')
        have hc3 : SqT K H4 b (r.map V.int) := x3.tup (tup_upd hd2 (fun _ z => by cases z) (fun _ _ z => by cases z) hc0)
        refine ⟨rfl, ?_⟩
        refine ⟨_, rfl, _, rfl, b, _, _, _, rfl, rfl, hc3, at_sd (sd := i) (by omega), _, hD, ?_, x3.put (.inr (by simp)) hD, ?_⟩
        · rw [List.length_map, List.length_take]
          exact small1000 (by omega)
        · rw [upd_same, take_one (ends_at hr'), List.map_append]
          rfl
      rintro H3 ⟨x3, hD⟩
      have nDd : D ≠ d := (ne_of_none upd_same nD).symm
      have hd3 := x3.fz (a := d) upd_same (by simpa using nDd.symm)
      refine ⟨hd3, ?_⟩
      have eT : (ends ts i).take kvs.length = ends ts i := List.take_of_length_le (by unfold ends; rw [List.length_map]; omega)
      rw [eT] at hD
      have nD2 : H2 D = none := by
        rw [upd_ne nDd] at nD
        exact nD
      have x23 : Ext W H2 (upd H3 d (.dK kvs)) := (Fx.locked hd2 rfl rfl x3 hd3).down fun b hb => by rw [List.mem_singleton.mp hb]; exact nD2
      have hD' : (upd H3 d (.dK kvs)) D = some (.lst ((ends ts i).map V.int)) := by
        rw [upd_ne nDd]
        exact hD
      revert x23 hD'
      generalize upd H3 d (.dK kvs) = H4
      intro x24 hD4
      -- every = list(range(sizes[side]))
      have hz4 := (x.trans x24).tup hz
      refine ⟨_, rfl, _, rfl, z, _, _, _, rfl, rfl, hz4, hS, _, rfl, ?_, fun E0 nE0 => ?_⟩
      · exact RgOk.of_le (by decide) (by omega) (by decide) (by omega)
      rw [range_ints]
      refine newO W (H := H4) (p := E0) nE0 fun H5 x5 hE5 => ?_
      have hD5 := x5.lst hD4
      have x25 := x24.trans x5
      have hz5 := x5.tup hz4
      -- some = [.. if taken.count(end) < sizes[2]] or every
      generalize hg : (fun e : Nat => decide ((((ends ts i).count (e : Int) : Nat) : Int) < m)) = g
      refine ⟨_, rfl, E0, rfl, ⟨_, SqL.of hE5⟩, fun G nG => lc_list (K := K) (a := E0) (xs := vN (List.range S))
        (fun j H6 => Ext W H5 H6 ∧ H6 G = some (.lst (vN (((List.range S).take j).filter g)))) ⟨.new nG, upd_same⟩ (fun j H6 _ ⟨x6, _⟩ => SqL.of (x6.lst hE5)) ?_ ?_⟩
      · rintro j y H6 hj ⟨x6, hG⟩
        obtain ⟨e, he, rfl⟩ := vN_get hj
        have jl := (List.getElem?_eq_some_iff.mp he).1
        rw [List.length_range] at jl
        refine ⟨rfl, ?_⟩
        refine ⟨_, rfl, .inl ⟨rfl, _, SqL.of (x6.lst hD5)⟩, _, rfl, D, ends ts i, _, rfl, rfl, SqL.of (x6.lst hD5), ?_⟩
        refine ⟨_, rfl, z, _, _, _, rfl, rfl, x6.tup hz5, atI_nat (j := 2) rfl, _, _, rfl, rfl, _, rfl, ?_⟩
        rw [take_one he, List.filter_append]
        cases c : g e with
        | true =>
          rw [show (decide ((((ends ts i).count (e : Int) : Nat) : Int) < m)) = true by rw [← c, ← hg]]
          refine iteT ?_
          refine ⟨_, rfl, _, hG, ?_, x6.put (.inl nG) hG, ?_⟩
          · rw [List.length_map]
            refine small1000 ?_
            have := List.length_filter_le g ((List.range S).take j)
            rw [List.length_take] at this
            omega
          · rw [upd_same, List.filter_cons, if_pos c, List.filter_nil, vN_snoc]
        | false =>
          rw [show (decide ((((ends ts i).count (e : Int) : Nat) : Int) < m)) = false by rw [← c, ← hg]]
          refine iteF ⟨x6, ?_⟩
          rw [List.filter_cons, if_neg (by rw [c]; exact Bool.false_ne_true), List.filter_nil, List.append_nil]
          exact hG
      rintro H6 ⟨x6, hG⟩
      rw [show List.take (vN (List.range S)).length (List.range S) = List.range S from List.take_of_length_le (by rw [List.length_map]; exact Nat.le_refl _)] at hG
      have x26 := x25.trans x6
      have x06 := x.trans x26
      refine ⟨_, .inl ⟨_, SqL.of hG, rfl⟩, ?_⟩
      -- one of them
      by_cases ne : (List.range S).filter g = []
      case' pos =>
        rw [ne]
        refine iteF ⟨_, rfl, ?_⟩
        obtain ⟨xs, hB, lx, hx⟩ : ∃ xs : List Nat, H6 E0 = some (.lst (vN xs)) ∧ 0 < xs.length ∧ ∀ u ∈ xs, u < S := ⟨_, x6.lst hE5, by rw [List.length_range]; exact sS.1, fun u hu => List.mem_range.mp hu⟩
      case' neg =>
        have lf : 0 < ((List.range S).filter g).length := List.length_pos_iff.mpr ne
        rw [show (vN ((List.range S).filter g)).isEmpty = false by
          rw [List.isEmpty_eq_false_iff]
          intro z
          have := congrArg List.length z
          rw [List.length_map] at this
          rw [this] at lf
          exact absurd lf (by decide)]
        refine iteT ?_
        obtain ⟨xs, hB, lx, hx⟩ : ∃ xs : List Nat, H6 G = some (.lst (vN xs)) ∧ 0 < xs.length ∧ ∀ u ∈ xs, u < S := ⟨_, hG, lf, fun u hu => List.mem_range.mp (List.mem_filter.mp hu).1⟩
      all_goals
        have hF6 := x26.lst hF2
        refine ⟨_, rfl, .inl ⟨rfl, _, SqL.of hF6⟩, _, rfl, _, rfl, by show 2 ≤ sizeLine; decide, fun pq npq => ?_⟩
        refine newO W (H := H6) (p := pq) npq fun H7 x7 hpq => ?_
        have hB7 := x7.lst hB
        obtain ⟨j, ej, hj, hj'⟩ : ∃ j : Int, atI [V.int 1, V.int 40] (i : Int) = some (V.int j) ∧ 0 < j ∧ j < 1073741824 := by
          match i, hi with
          | 0, _ => exact ⟨1, atI_nat (j := 0) rfl, by decide, by decide⟩
          | 1, _ => exact ⟨40, atI_nat (j := 1) rfl, by decide, by decide⟩
        have lv : 0 < (vN xs).length := by rw [List.length_map]; exact lx
        obtain ⟨u, au, mu⟩ := mod_at (xs := vN xs) (i := c / j) lv
        obtain ⟨y, my, rfl⟩ := List.mem_map.mp mu
        have hF7 := x7.lst hF6
        refine ⟨_, rfl, _, _, _, _, rfl, rfl, SqL.of hpq, ej, _, _, rfl, rfl, ⟨hj, hj'⟩, _, rfl, _, _, rfl, .inl (SqL.of hB7), _, _, rfl, rfl, ?_, _, _, _, _, rfl, rfl, SqL.of hB7, au, F, _, _, rfl, rfl, hF7, ?_, ?_⟩
        · show (0 : Int) < ((vN xs).length : Nat)
          omega
        · rw [List.length_map]
          exact small1000 (by omega)
        · refine ⟨_, _, _, _, _, _, fs ++ [y], rfl, (x06.trans x7).put (.inl nF) hF7, by rw [upd_same, vN_snoc], by rw [List.length_append, List.length_singleton]; omega, fun s2 w2 h2 => ?_⟩
          by_cases z : s2 < fs.length
          · rw [List.getElem?_append_left z] at h2
            exact hfs s2 w2 h2
          · rw [List.getElem?_append_right (by omega)] at h2
            have z2 : s2 - fs.length = 0 := by
              by_cases y0 : s2 - fs.length = 0
              · exact y0
              · rw [List.getElem?_eq_none (by rw [List.length_singleton]; omega)] at h2
                cases h2
            rw [z2] at h2
            cases h2
            have e2 : s2 = i := by omega
            rw [e2, eS]
            exact hx _ my
    · rintro σ H2 ⟨v4, v5, v6, v7, v8, v9, fs, rfl, x, hF2, lf, hfs⟩
      match fs, lf with
      | [l, r], _ =>
        refine ⟨_, rfl, F, _, _, _, rfl, rfl, SqL.of hF2, atI_nat (j := 0) rfl, _, rfl, F, _, _, _, rfl, rfl, SqL.of hF2, atI_nat (j := 1) rfl, by show 2 ≤ sizeLine; decide, fun a na => ?_⟩
        exact q a l r _ (hfs 0 l rfl) (hfs 1 r rfl) (x.f _ na) (x.trans (.new na)) upd_same
end
end My

set_option Elab.async false
set_option linter.all false
set_option maxRecDepth 100000
set_option maxHeartbeats 4000000
namespace My
open PySem PySem.Spec PyProof.Rows L2 Own Mt
section
variable {P : Program} {w : World} {K : PySem.W.Frag} {mg : Str → Option Value} {base : Heap} {W : Tbs}
def spHueOf (K : PySem.W.Frag) (C EN : Addr) : Sp := fun vs H Q E => ∃ (a d : Addr) (L Y n : Nat) (R : List Pr) (v : V) (t : String), vs = [.ref a, v] ∧ HallOf K C H a d L Y n R ∧ (R.map (·.n)).Nodup ∧ TyB K H v t ∧
  (∀ p ∈ R, v = .int (p.n : Nat) → Q (.int (p.h : Nat)) H) ∧ ((∀ p ∈ R, v ≠ .int (p.n : Nat)) → E (.ref EN) none H)
theorem ok_Hall_hue_of (T : Txt K mg) : FnOk P w K mg base (L2.CX P w) 3 T.f_Hall_hue_of T.d_Hall_hue_of ["self", "number"] (spHueOf K T.C_Hall T.E_NoPair) := by
  have ok_Hall_check_number : FnOk P w K mg base (L2.CX P w) 2 T.f_Hall_check_number T.d_Hall_check_number ["self", "number"] (spCheckNumber K T.C_Hall T.E_NoPair) := ok_Hall_check_number T
  refine T.D_Hall_hue_of.F.okX sc_Hall_hue_of (fun vs H Q E h => ?_) (fun cdv A outer s H vs Q E hr h => ?_)
  · obtain ⟨a, d, L, Y, n, R, v, t, rfl, _⟩ := h
    rfl
  · obtain ⟨a, d, L, Y, n, R, v, t, rfl, hH, N, ht, q, qe⟩ := h
    obtain ⟨dx, e, kvs, ha, he, hd, hE⟩ := hH.ex
    have no : (hf e d (n : Int)).lookup ("_check_number" : Str) = none := hf_no _ _ _ (by decide +kernel) (by decide +kernel) (by decide +kernel)
    refine ⟨_, (pss_cons (ps_expr (pe_meth (pv 0) T.cl_Hall T.D_Hall_check_number.m ok_Hall_check_number (hr.mono (by decide)) T.D_Hall_check_number.b .nil (passes_call (takes_of rfl rfl rfl rfl) (fun _ _ _ _ h => h)) (pa_cons (pv 1) pa_nil)))
    (pss_one (ps_ret (pe_ix (ixT K) (pe_dget (hu_of hr) (fldC K (pe_fld (pv 0) rfl)) (pv 1) (fun _ _ => rfl)) (pe_gi rfl T.c_HUE) (fun _ _ => rfl))))), ?_⟩
    refine ⟨_, rfl, a, dx, _, rfl, ha, no, _, rfl, a, d, L, Y, n, R, v, t, rfl, hH, ht, fun p hp ev => ?_, qe⟩
    obtain ⟨b, hb, tb⟩ := hE.in N hp
    subst ev
    refine ⟨_, rfl, a, T.C_Hall, dx, _, _, rfl, ha, T.cl_Hall, T.nA_rows, hf_rows _ _ _, _, rfl, d, .ref b, rfl, ?_, b, _, _, _, rfl, rfl, tb, atI_nat (j := 2) rfl, q p hp rfl⟩
    have := DGet.k (k := Sum.inl (p.n : Int)) hd
    rw [hb] at this
    exact this
end
end My

set_option Elab.async false
set_option linter.all false
set_option maxRecDepth 100000
set_option maxHeartbeats 1000000
namespace Own
open PySem PySem.Spec PyProof.Rows L2
/-! dict(enumerate(xs)) -/
def enumK : Nat → List V → List (Key × V)
  | _, [] => []
  | i, x :: t => (Sum.inl (i : Int), x) :: enumK (i + 1) t
def enumV : Nat → List Value → List (Key × Value)
  | _, [] => []
  | i, x :: t => (Sum.inl (i : Int), x) :: enumV (i + 1) t
theorem enumKV : ∀ {xs : List V} {us : List Value} (i : Nat), Vals xs us → KV (enumK i xs) (enumV i us)
  | _, _, _, .nil => .nil
  | _, _, i, .cons r t => .cons ⟨rfl, r⟩ (enumKV (i + 1) t)
theorem enumV_len : ∀ (i : Nat) (us : List Value), (enumV i us).length = us.length
  | _, [] => rfl
  | i, _ :: t => by
    rw [enumV, List.length_cons, List.length_cons, enumV_len (i + 1) t]
theorem enumK_len : ∀ (i : Nat) (us : List V), (enumK i us).length = us.length
  | _, [] => rfl
  | i, _ :: t => by
    rw [enumK, List.length_cons, List.length_cons, enumK_len (i + 1) t]
theorem enumV_get : ∀ {us : List Value} {i j : Nat} {v : Value}, us[j]? = some v → (enumV i us)[j]? = some (Sum.inl ((i + j : Nat) : Int), v)
  | [], _, _, _, h => by simp at h
  | _ :: _, i, 0, v, h => by
    cases h
    rfl
  | _ :: t, i, j + 1, v, h => by
    have := enumV_get (us := t) (i := i + 1) (j := j) (v := v) (by simpa using h)
    rw [show i + 1 + j = i + (j + 1) by omega] at this
    simpa [enumV] using this
theorem enumV_key : ∀ {us : List Value} {i : Nat} {k : Key}, k ∈ (enumV i us).map (·.1) → ∃ n : Nat, k = Sum.inl (n : Int) ∧ i ≤ n
  | [], _, _, h => by simp [enumV] at h
  | _ :: t, i, k, h => by
    rw [enumV, List.map_cons] at h
    rcases List.mem_cons.mp h with z | z
    · exact ⟨i, z, Nat.le_refl _⟩
    · obtain ⟨n, e, l⟩ := enumV_key z
      exact ⟨n, e, by omega⟩
theorem enumV_nodup : ∀ (i : Nat) (us : List Value), ((enumV i us).map (·.1)).Nodup
  | _, [] => List.nodup_nil
  | i, _ :: t => by
    rw [enumV, List.map_cons]
    refine List.nodup_cons.mpr ⟨fun h => ?_, enumV_nodup (i + 1) t⟩
    obtain ⟨n, e, l⟩ := enumV_key h
    have := Sum.inl.inj e
    omega
theorem enumK_vals : ∀ (i : Nat) (us : List V), (enumK i us).map (·.2) = us
  | _, [] => rfl
  | i, _ :: t => by
    rw [enumK, List.map_cons, enumK_vals (i + 1) t]
def tDictEnum (K : PySem.W.Frag) (ta : TE) : TE := fun σ H Q => ta σ H fun x H1 => ∃ (l : Addr) (xs : List V), x = .ref l ∧ SqL K H1 l xs ∧ ∀ p, H1 p = none → Q (.ref p) (upd H1 p (.dK (enumK 0 xs)))
theorem pe_dictEnum {X : Cx} {a : Expr} {ta : TE} {p p2 q pos : Pos} (hg : Gl X "dict") (hm : X.mg "dict" = none) (hg2 : Gl X "enumerate") (hm2 : X.mg "enumerate" = none) (ha : PE X a ta) (hc : X.calm = true := by rfl)
    (na : starEach [a] X.env = (false, eval a X.env) :: starEach [] X.env := by rfl) : PE X (.Call (.Name "dict" p) [.Call (.Name "enumerate" p2) [a] [] q] [] pos) (tDictEnum X.K ta) := by
  refine ⟨fun pins s σ H Q I h => ?_⟩
  refine Call_ (ld_blt I hg hm boot_dict ?_)
  refine PyProof.Rows.callWith_type1 (PyProof.Rows.args_cons ?_ rfl) rfl rfl
  refine Call_ (ld_blt I hg2 hm2 boot_enumerate ?_)
  refine PyProof.Rows.callWith_type1 (PyProof.Rows.args_cons (thn (ha.run pins s σ H _ I h) fun v s1 ⟨x, H1, I1, r1, q1⟩ => PyProof.Rows.args_nil ?_) na) na rfl
  obtain ⟨l, xs, rfl, hq, q1⟩ := q1
  cases r1
  obtain ⟨its, r, pl, hz⟩ := I1.list hq
  have hlen : its.length = xs.length := r.length.symm
  refine call_enumerate_list pl.isList fun h1 he hit hsz hk => ?_
  refine PyProof.Rows.args_nil ?_
  have ll : l < s1.heap.objs.size := by
    obtain ⟨o, ho, _⟩ := pl.isList
    exact Heap.lt_size ho
  have hl1 : h1.IsList l its.toArray := pl.isList.at fun o e => hk _ o e
  refine PySem.call_dict_pairs (s := { s1 with heap := h1 }) (knd := mixKind X.prog X.w) (kvs := enumV 0 its) (PairArg.enumerate (s1.heap.objs.size + 1) s1.heap.objs.size l (Nat.succ_ne_self _) (by intro z; rw [z] at ll; exact absurd ll (Nat.not_lt_of_le (Nat.le_succ _))) (Nat.ne_of_lt ll) its.toArray) (I1.ok.hd hc)
    ⟨⟨_, he⟩, hit, hl1⟩ ⟨by rw [enumV_len, List.size_toArray], ?_⟩ (by rw [List.size_toArray, hlen]; exact hz) fun h' tk hd hk2 => ?_
  · rintro i key v ⟨⟨t, rfl⟩, hv⟩
    refine ⟨Sum.inl (i : Int), ?_, ?_⟩
    · have := enumV_get (i := 0) (j := i) (v := v) (us := its) (by simpa using hv)
      rw [Nat.zero_add] at this
      exact this
    · show Value.isInt (i : Int) (.int (i : Int) t) = true
      exact decide_eq_true rfl
  · have hd : h'.DictOf (mixKind X.prog X.w) h1.objs.size (merged [] (enumV 0 its)) := hd
    rw [merged_nil_of_nodup _ (enumV_nodup 0 its)] at hd
    have big : s1.heap.objs.size ≤ h1.objs.size := by rw [hsz]; omega
    have hm : (h1.objs.size == sysModules) = false := beq_eq_false_iff_ne.mpr (Nat.ne_of_gt (Nat.lt_of_lt_of_le I1.big big))
    have k : ∀ b u, s1.heap.get? b = some u → h'.get? b = some u := fun b u e => by
      have lt := Heap.lt_size e
      refine hk2 b u ?_ (hk b u e)
      intro z
      rcases List.mem_cons.mp z with z | z
      · rw [z] at lt
        exact absurd lt (Nat.not_lt_of_le (Nat.le_succ _))
      · rw [List.mem_singleton.mp z] at lt
        exact absurd lt (Nat.lt_irrefl _)
    refine ⟨.ref h1.objs.size, upd H1 h1.objs.size (.dK (enumK 0 xs)), I1.laid (t' := tk) k big (show ObjOk X.prog X.w _ _ _ (.dK (enumK 0 xs)) from ⟨by rw [enumK_len]; exact hz, hm, _, enumKV 0 r, hd⟩), rfl, q1 _ (I1.hok.fresh big)⟩
/-! set(xs) of a list of ints, with its order's facts -/
section
variable {P : Program} {w : World} {A : Around} {E : Value → Shared → Prop} {s : Shared}
/-- the object that set() lays down -/
abbrev freshS (w : World) : Obj := { cls := .type "set", dict := none, data := .set #[] 0 (.fresh 0 0 (!w.params.followText "set-order")) }
set_option maxHeartbeats 3200000 in
theorem call_setL {l : Addr} {items : Array Value} (ns : List Int) {Q : Value → Shared → Prop} (hh : A.handled = none) (hl : s.heap.IsList l items) (hit : IntsAre items.toList ns) (hb : ns.length + 1 < scanBound)
    (h : ∀ (h' : Heap) (tk c : Nat), SetR w h' s.heap.objs.size (fun j => decide (j ∈ ns)) c → c ≤ ns.length → (∀ b o, s.heap.get? b = some o → h'.get? b = some o) → Q (.ref s.heap.objs.size) { s with heap := h', toks := tk }) :
    wpAny (model P w) A (call (.type "set") [.ref l]) Q E s := by
  have sz : items.size = ns.length := by
    rw [← IntsAre.length hit, Array.length_toList]
  have at_i : ∀ (i : Nat) (v : Value), items[i]? = some v → ∃ k t, ns[i]? = some k ∧ v = .int k t := fun i v hv => by
    have hi : i < ns.length := by rw [← sz]; exact (Array.getElem?_eq_some_iff.mp hv).1
    obtain ⟨t, e⟩ := PyProof.Rows.IntsAre.int_at hit i v (by rw [Array.getElem?_toList]; exact hv)
    refine ⟨ns[i], t, List.getElem?_eq_getElem hi, ?_⟩
    rw [e, List.getD_eq_getElem?_getD, List.getElem?_eq_getElem hi] <;> rfl
  have lS : l < s.heap.objs.size := by
    obtain ⟨o, ho, _⟩ := hl
    exact Heap.lt_size ho
  have pz : (s.heap.push (freshS w)).objs.size = s.heap.objs.size + 1 := Heap.size_push ..
  have hS : (s.heap.push (freshS w)).get? s.heap.objs.size = some (freshS w) := Heap.get?_push_size _ rfl
  have hT : Shared.TypeIs { s with heap := s.heap.push (freshS w) } (.ref s.heap.objs.size) "set" := ⟨_, hS, rfl⟩
  obtain ⟨_, _, hmro⟩ := F.called_set.mro
  have k1 := F.called_set.made
  have k2 := F.called_set.sub
  have k3 := F.called_set.notType
  have k4 := F.called_set.canCreate
  have k5 := F.typeCall_set_1 (.ref l)
  have k6 := F.called_set.init.lookup
  have k7 := F.called_set.init.bind (.ref s.heap.objs.size)
  refine wpAny_call (codeAny_of_tree ?_)
  show wpAny _ _ (callAny (.type "set") _) _ _ _
  refine wpAny_pure ⟨Code.quiet_builtin _ (by decide +kernel), codeAny_builtin F.entry_type_call ?_⟩
  rw [Around.under_plain (weight_type_call_type "set" [.ref l] []) rfl]
  repeat (any_goals (first | assumption | wp_step))
  refine codeAny_mono (code_set_led1 (.ref l) (E := E) (Q₁ := fun obj s₁ => obj = .ref s.heap.objs.size ∧ s₁ = { s with heap := s.heap.push (freshS w) }) ⟨rfl, rfl⟩) fun r s₁ hr => ?_
  match r, hr with
  | .error _, hr => exact hr
  | .ok (.ret _), hr =>
    obtain ⟨rfl, rfl⟩ := hr
    repeat (any_goals (first | assumption | wp_step))
    refine codeAny_mono (codeAny_call_builtin (R := wants (fun r s₂ => r = .none ∧ ∃ h' tk c, s₂ = { s with heap := h', toks := tk } ∧ SetR w h' s.heap.objs.size (fun j => decide (j ∈ ns)) c ∧ c ≤ ns.length ∧
        (∀ b o, s.heap.get? b = some o → h'.get? b = some o)) E) F.called_set.init.plain F.entry_set_init (check_set_init_1 hT ?_)) fun r₂ s₂ hr₂ => ?_
    · obtain ⟨⟨oc, od, ob, os⟩, hol, hcl, nl, hdl⟩ := hl
      simp only at hcl hdl
      subst hcl hdl
      have hol' : (s.heap.push (freshS w)).get? l = some { cls := .type "list", dict := od, data := .seq items nl, slots := os } := Heap.get?_push_of_some _ hol
      have hl1 : (s.heap.push (freshS w)).IsList l items := ⟨_, hol', rfl, nl, rfl⟩
      have j1 := F.sub_list_set
      have j2 := F.sub_list_frozenset
      have j3 : (Value.type "list" == Value.type "dict") = false := by decide
      unfold Builtin.«set.__init__» noKeywords Builtin.Frozenset.updateFrom
      generalize hPI : pyIter = PI
      wp_walk
      subst hPI
      refine wpAny_pyIter_list hl1 (wpAny_bind (wpAny_runValue ?_))
      have hh3 : A.in1.in1.in1.handled = none := by simp [hh]
      refine set_update_ints ((Walks.list hh3 _ l (by rw [pz]; exact Nat.ne_of_lt (Nat.lt_succ_of_lt lS)) items).toS) s.heap.objs.size
        (by
          rw [pz]
          simp only [List.mem_cons, List.mem_singleton, List.not_mem_nil, or_false, not_or]
          exact ⟨Nat.ne_of_lt (Nat.lt_succ_self _), Nat.ne_of_gt lS⟩) ns sz hb at_i (items.size - 0) 0 _ (by omega) (Nat.zero_le _)
        ⟨⟨_, Heap.get?_push_size _ rfl, rfl, rfl⟩, hl1.push _⟩ ⟨0, Nat.le_refl 0, setR_new_at (Heap.get?_push_of_some _ hS)⟩ ?_
      intro s' c' hm hc' hS'
      obtain ⟨h', g2, d', tk', os'⟩ := s'
      obtain rfl : g2 = s.gens := hm.gens
      obtain rfl : d' = s.drawn := hm.drawn
      obtain rfl : os' = s.os := hm.os
      show wpAny _ _ _ _ _ _
      refine wpAny_pure ?_
      show wpAny _ _ (ret Value.none) _ _ _
      rw [sz] at hc'
      refine wpAny_pure ⟨rfl, h', tk', c', rfl, hS', hc', fun b o e => hm.heap b o ?_ (Heap.get?_push_of_some _ (Heap.get?_push_of_some _ e))⟩
      have lb := Heap.lt_size e
      rw [pz]
      simp only [List.mem_cons, List.mem_singleton, List.not_mem_nil, or_false, not_or]
      exact ⟨Nat.ne_of_lt lb, Nat.ne_of_lt (Nat.lt_succ_of_lt lb)⟩
    · match r₂, hr₂ with
      | .error _, hr₂ => exact hr₂
      | .ok (.ret _), hr₂ =>
        obtain ⟨rfl, h', tk, c, rfl, R, hc, k⟩ := hr₂
        repeat (any_goals (first | assumption | wp_step))
        exact h h' tk c R hc k
end
/-! sorted(set(xs)), ints -/
def tSortSet (K : PySem.W.Frag) (ta : TE) : TE := fun σ H Q => ta σ H fun x H1 => ∃ (l : Addr) (ns : List Int), x = .ref l ∧ SqL K H1 l (ns.map V.int) ∧ ns.length < 64 ∧
  ∀ (ys : List Int) p, ys.Pairwise (· < ·) → (∀ k : Int, k ∈ ys ↔ k ∈ ns) → H1 p = none → Q (.ref p) (upd H1 p (.lst (ys.map V.int)))
theorem pe_sortSet {X : Cx} {a : Expr} {ta : TE} {p p2 q pos : Pos} (hg : Gl X "sorted") (hm : X.mg "sorted" = none) (hg2 : Gl X "set") (hm2 : X.mg "set" = none) (ha : PE X a ta) (hc : X.calm = true := by rfl)
    (na : starEach [a] X.env = (false, eval a X.env) :: starEach [] X.env := by rfl) : PE X (.Call (.Name "sorted" p) [.Call (.Name "set" p2) [a] [] q] [] pos) (tSortSet X.K ta) := by
  refine ⟨fun pins s σ H Q I h => ?_⟩
  refine Call_ (ld_blt I hg hm boot_sorted ?_)
  refine PyProof.Rows.callWith_builtin1 (PyProof.Rows.args_cons ?_ rfl) rfl rfl
  refine Call_ (ld_blt I hg2 hm2 boot_set ?_)
  refine PyProof.Rows.callWith_type1 (PyProof.Rows.args_cons (thn (ha.run pins s σ H _ I h) fun v s1 ⟨x, H1, I1, r1, q1⟩ => PyProof.Rows.args_nil ?_) na) na rfl
  obtain ⟨l, ns, rfl, hq, few, q1⟩ := q1
  cases r1
  obtain ⟨its, r, pl, hz⟩ := I1.list hq
  refine call_setL ns (I1.ok.hd hc) pl.isList (by simpa using RZ.intsAre_vals r) (by unfold scanBound; omega) fun h' tk c R hcl hk => ?_
  refine PyProof.Rows.args_nil ?_
  have I2 : Inv X pins σ H1 { s1 with heap := h', toks := tk } := I1.kept hk
  refine sorted_set R (I2.ok.hd hc) (by omega) fun s' p out c' ys k g o hp hg hi hs hm hl => ?_
  have hlen : (ys.map V.int).length ≤ sizeLine := by rw [List.length_map, hl, sizeLine_eq]; omega
  have hn : H1 p = none := I2.hok.fresh hp
  have J : Inv X pins σ (upd H1 p (.lst (ys.map V.int))) { { s1 with heap := h', toks := tk } with heap := s'.heap, gens := s'.gens, drawn := s'.drawn, toks := s'.toks } :=
    I2.call (s := { s1 with heap := h', toks := tk }) (ch := []) (Un.laid k hp hn) (I2.hok.laid k hp ⟨hlen, out.toList, c', vals_of_ints hi, hg⟩) (by rw [g]; exact I2.bare) (fun _ z => nomatch z)
  have e : s' = { s1 with heap := s'.heap, gens := s'.gens, drawn := s'.drawn, toks := s'.toks } := by
    cases s'
    cases s1
    cases o
    rfl
  rw [e]
  exact ⟨.ref p, _, J, rfl, q1 ys p hs (fun k => by rw [hm k]; exact decide_eq_true_iff) hn⟩
end Own

set_option Elab.async false
set_option linter.all false
set_option maxRecDepth 100000
set_option maxHeartbeats 4000000
namespace My
open PySem PySem.Spec PyProof.Rows L2 Own Mt
section
variable {P : Program} {w : World} {K : PySem.W.Frag} {mg : Str → Option Value} {base : Heap} {W : Tbs}
def spTold9 (K : PySem.W.Frag) (W : Tbs) : Sp := fun vs H Q _ => ∃ (z a : Addr) (L Y : Nat) (m : Int) (as : List Addr) (ps : List (Nat × Nat)), vs = [.ref z, .ref a] ∧ SqT K H z [.int (L : Nat), .int (Y : Nat), .int m] ∧ 1 ≤ L ∧ L ≤ 8 ∧ 1 ≤ Y ∧ Y ≤ 8 ∧ PairsAt K H L Y a as ps ∧ ps.length ≤ 40 ∧
  (∀ p ∈ W.l, LamX.TabS H p.1 p.2) ∧
  ((as.length = ps.length ∧ ∀ l H', H l = none → Ext W H H' → H' l = some (.lst (vN (huesR ps))) → Q (.ref l) H') ∨
    ∃ bad, Stop K H L Y as ps bad ∧ ∀ t H', H t = none → Ext W H H' → H' t = some (.tup [.bl bad, .bl (!bad)]) → Q (.ref t) H')
theorem ok_l_told (T : Txt K mg) (B : LamX.TabB base mg T.k_place T.p_place) (WO : Wok W T.p_place) : FnOk P w K mg base CX0 7 T.f_l_told T.d_l_told ["_law_sizes", "_law_pairs_here"] (spTold9 K W) := by
  have ok_hued : FnOk P w K mg base (L2.CX P w) 6 T.f_hued T.d_hued ["lefts", "rights", "pairs"] (spHued K W T.E_BadEnd T.E_TooMany) := ok_hued T B WO
  refine T.D_l_told.F.ok sc_l_told (fun vs H Q E h => ?_) (fun cdv A outer s H vs Q E hr h => ?_)
  · obtain ⟨z, a, L, Y, m, as, ps, rfl, _⟩ := h
    rfl
  · obtain ⟨z, a, L, Y, m, as, ps, rfl, hz, L1, L2, Y1, Y2, hP, few, tabs, q⟩ := h
    refine ⟨_, (pss_one (ps_try_as (i := 2) rfl rfl sc_l_told.nd rfl rfl ⟨rfl, by decide, .inl T.x_PairError.g⟩ takes0 (fun W pn xe tk _ => 
      (pss_one (ps_ret (pe_callS ok_hued (hr.mono (by decide)) rfl T.D_hued.g T.D_hued.F.kp T.D_hued.b (fun σ => passAt tk σ) (pa_cons (pe_ix (ixT K) (pv 0) pe_int (fun _ _ => rfl)) (pa_cons (pe_ix (ixT K) (pv 0) pe_int (fun _ _ => rfl)) (pa_cons (pv 1) pa_nil))))))) (fun a oe cls d pn hz hf => 
      (pss_one (ps_ret (pe_tup (pa_cons (pe_callB (isEg K hz hf) (by rfl) T.z_isinstance (by decide +kernel) (pa_cons (pv 2) (pa_cons (pe_glob (v := .ref T.E_BadEnd) rfl T.x_BadEnd.g rfl) pa_nil))) (pa_cons (pe_callB (isEg K hz hf) (by rfl) T.z_isinstance (by decide +kernel) (pa_cons (pv 2) (pa_cons (pe_glob (v := .ref T.E_TooMany) rfl T.x_TooMany.g rfl) pa_nil))) pa_nil)))))))), ?_⟩
    refine ⟨_, rfl, z, _, _, _, rfl, rfl, hz, atI_nat (j := 0) rfl, _, rfl, z, _, _, _, rfl, rfl, hz, atI_nat (j := 1) rfl, _, rfl, L, Y, a, as, ps, rfl, L1, L2, Y1, Y2, hP, few, tabs, ?_⟩
    rcases q with ⟨el, q⟩ | ⟨bad, st, q⟩
    · exact .inl ⟨el, q⟩
    · refine .inr ⟨bad, st, fun H1 x1 => ?_⟩
      cases bad with
      | true =>
        refine ⟨true, T.e_BadEnd_PairError, fun _ u nu => ?_, fun z => by cases z⟩
        refine ⟨_, rfl, _, rfl, rfl, T.q_BadEnd, _, _, _, rfl, fun u h => h, T.i_BadEnd_BadEnd, _, rfl, _, rfl, rfl, T.q_BadEnd, _, _, _, rfl, fun u h => h, T.i_BadEnd_TooMany, by show 2 ≤ sizeLine; decide, fun t nt => ?_⟩
        refine newO W (H := H1) (p := t) nt fun H2 x2 ht => ?_
        exact q t H2 (x1.f _ nt) (x1.trans x2) ht
      | false =>
        refine ⟨true, T.e_TooMany_PairError, fun _ u nu => ?_, fun z => by cases z⟩
        refine ⟨_, rfl, _, rfl, rfl, T.q_TooMany, _, _, _, rfl, fun u h => h, T.i_TooMany_BadEnd, _, rfl, _, rfl, rfl, T.q_TooMany, _, _, _, rfl, fun u h => h, T.i_TooMany_TooMany, by show 2 ≤ sizeLine; decide, fun t nt => ?_⟩
        refine newO W (H := H1) (p := t) nt fun H2 x2 ht => ?_
        exact q t H2 (x1.f _ nt) (x1.trans x2) ht
def spHall9 (K : PySem.W.Frag) (W : Tbs) : Sp := fun vs H Q _ => ∃ (z a : Addr) (L Y : Nat) (m : Int) (as : List Addr) (ps : List (Nat × Nat)), vs = [.ref z, .ref a] ∧ SqT K H z [.int (L : Nat), .int (Y : Nat), .int m] ∧ 1 ≤ L ∧ L ≤ 8 ∧ 1 ≤ Y ∧ Y ≤ 8 ∧ PairsAt K H L Y a as ps ∧ ps.length ≤ 40 ∧
  (∀ p ∈ W.l, LamX.TabS H p.1 p.2) ∧ as.length = ps.length ∧ ∀ l H', H l = none → Ext W H H' → H' l = some (.lst (vN (huesR ps))) → Q (.ref l) H'
theorem ok_l_hall (T : Txt K mg) (B : LamX.TabB base mg T.k_place T.p_place) (WO : Wok W T.p_place) : FnOk P w K mg base CX0 6 T.f_l_hall T.d_l_hall ["_law_sizes", "_law_pairs_here"] (spHall9 K W) := by
  have ok_Hall_init : FnOk P w K mg base (L2.CX P w) 3 T.f_Hall_init T.d_Hall_init ["self", "lefts", "rights"] (spInit K W T.C_Hall T.E_BadCount) := ok_Hall_init T
  have ok_Hall_come : FnOk P w K mg base (L2.CX P w) 5 T.f_Hall_come T.d_Hall_come ["self", "left", "right"] (spCome K W T.C_Hall T.E_BadEnd T.E_TooMany) := ok_Hall_come T B WO
  have ok_Hall_hue_of : FnOk P w K mg base (L2.CX P w) 3 T.f_Hall_hue_of T.d_Hall_hue_of ["self", "number"] (spHueOf K T.C_Hall T.E_NoPair) := ok_Hall_hue_of T
  refine T.D_l_hall.F.ok sc_l_hall (fun vs H Q E h => ?_) (fun cdv A outer s H vs Q E hr h => ?_)
  · obtain ⟨z, a, L, Y, m, as, ps, rfl, _⟩ := h
    rfl
  · obtain ⟨z, p0, L, Y, m, as, ps, rfl, hz, L1, L2, Y1, Y2, hP, few, tabs, el, q⟩ := h
    refine ⟨_, (pss_cons (ps_set (i := 2) sc_l_hall.nd rfl (.inr rfl) (pe_make T.M_Hall ok_Hall_init (hr.mono (by decide)) rfl T.g_Hall T.b_Hall_init .nil passL (pa_cons (pe_ix (ixT K) (pv 0) pe_int (fun _ _ => rfl)) (pa_cons (pe_ix (ixT K) (pv 0) pe_int (fun _ _ => rfl)) pa_nil))))
    (pss_cons (ps_for PassesOwn.never rfl (pi_list (pv 1)) (pg_tup rfl (pgs_cons (pg_name (i := 3) sc_l_hall.nd rfl (.inl rfl)) (pgs_cons (pg_name (i := 4) sc_l_hall.nd rfl (.inl rfl)) pgs_nil))) 
      (pss_one (ps_expr (pe_meth (pv 2) T.cl_Hall T.D_Hall_come.m ok_Hall_come (hr.mono (by decide)) T.D_Hall_come.b .nil passL (pa_cons (pv 3) (pa_cons (pv 4) pa_nil))))))
    (pss_one (ps_ret (pe_lc rfl sc_l_hall.nd (own := [("_law_number", 5)]) (pi_range1 rfl T.z_range (pa_cons (pe_callB (lenQ K) (by rfl) T.z_len PySem.boot_len (pa_cons (pv 1) pa_nil)) pa_nil)) (blkOk_by (N := N_l_hall) (sc := defScope s_l_hall) (by decide +kernel)) (fun _ _ _ _ _ => (pg_name (i := 5) sc_l_hall.nd rfl (.inl rfl))) (fun _ _ _ _ _ => pts_nil) (fun _ _ _ _ _ => (pe_meth (pv 2) T.cl_Hall T.D_Hall_hue_of.m ok_Hall_hue_of (hr.mono (by decide)) T.D_Hall_hue_of.b .nil passL (pa_cons (pv 5) pa_nil)))))))), ?_⟩
    refine ⟨_, rfl, z, _, _, _, rfl, rfl, hz, atI_nat (j := 0) rfl, _, rfl, z, _, _, _, rfl, rfl, hz, atI_nat (j := 1) rfl, fun a dx na ndx nax => ?_⟩
    have x2 : Ext W H (upd (upd H dx (.own a)) a (.ins T.C_Hall dx [])) := (Fx.new (W := W) (S := []) ndx).trans (.new (by rw [upd_ne nax.symm]; exact na))
    have ha2 : (upd (upd H dx (.own a)) a (.ins T.C_Hall dx [])) a = some (.ins T.C_Hall dx []) := upd_same
    revert x2 ha2
    generalize upd (upd H dx (.own a)) a (.ins T.C_Hall dx []) = H2
    intro x2 ha2
    refine ⟨a, dx, _, _, _, _, rfl, ha2, TyB.int _, TyB.int _, fun L' Y' eL eY _ _ _ _ d H3 nd x3 hH3 => ⟨rfl, ?main⟩, fun z => ?bad⟩
    case bad =>
      exfalso
      rw [in18 L1 L2, in18 Y1 Y2] at z
      cases z
    have eL' : L' = L := by have := V.int.inj eL; omega
    have eY' : Y' = Y := by have := V.int.inj eY; omega
    subst eL' eY'
    have x03 : Ext W H H3 := (x2.up.trans x3).down fun b hb => by rw [List.mem_singleton.mp hb]; exact na
    have nd0 : H d = none := x2.f _ nd
    have down : ∀ {G : Hp}, Fx W [a, d] H G → Ext W H G := fun x => x.down fun b hb => by
      rcases List.mem_cons.mp hb with z | z
      · rw [z]; exact na
      · rw [List.mem_singleton.mp z]; exact nd0
    refine ⟨_, rfl, p0, rfl, ⟨_, (hP.ext x03).s⟩, for_list (K := K) (a := p0) (xs := as.map V.ref) (fun i σ G => ∃ (v3 v4 v5 : Option V),
      σ = [some (.ref z), some (.ref p0), some (.ref a), v3, v4, v5] ∧ Fx W [a, d] H G ∧ HallOf K T.C_Hall G a d L' Y' i (hallR (ps.take i)))
      ⟨none, none, none, rfl, x03.up, hH3⟩
      (fun i σ G _ ⟨_, _, _, _, x, _⟩ => (hP.ext (down x)).s) ?_ ?_⟩
    · rintro i y σ G hi ⟨v3, v4, v5, rfl, x, hH⟩
      have xe := down x
      have hPG := hP.ext xe
      rw [List.getElem?_map] at hi
      obtain ⟨b, hb, rfl⟩ := Option.map_eq_some_iff.mp hi
      have lt : i < ps.length := by
        have := (List.getElem?_eq_some_iff.mp hb).1
        omega
      have hlen : (hallR (ps.take i)).length = i := by rw [hallR_len, List.length_take, Nat.min_eq_left (by omega)]
      have hns : ∀ p ∈ hallR (ps.take i), p.n < i := fun p hp => by
        have := hallR_lt hp
        rw [List.length_take] at this
        omega
      have htabs : ∀ p ∈ W.l, LamX.TabS G p.1 p.2 := fun p hp => x.l p hp (tabs p hp)
      have hno : ∀ e d n, (hf e d n).lookup ("come" : Str) = none := fun e d n => hf_no _ _ _ (by decide +kernel) (by decide +kernel) (by decide +kernel)
      obtain ⟨dx1, e1, kv1, ha1, he1, hd1, hE1⟩ := hH.ex
      have hl50 : (hallR (ps.take i)).length ≤ 50 := by omega
      obtain ⟨p1, p2, b', hb', hq⟩ := hPG.at_ i _ (List.getElem?_eq_getElem lt)
      have eb : b' = b := by
        rw [hb'] at hb
        exact Option.some.inj hb
      subst eb
      refine ⟨b', _, rfl, hq, rfl, _, _, rfl, _, _, rfl, rfl, ?_⟩
      refine ⟨_, rfl, a, dx1, _, rfl, ha1, hno _ _ _, _, rfl, _, rfl, a, d, L', Y', i, _, _, _, _, _, rfl, hH, hallR_good _, hns, hl50, htabs, TyB.int _, TyB.int _, fun l r el er hl hr f40 b c G1 nb nc x1 hH1 hT => ?_, fun z => ?_, fun z z2 => ?_⟩
      · have el' : l = ps[i].1 := by have := V.int.inj el; omega
        have er' : r = ps[i].2 := by have := V.int.inj er; omega
        subst el' er'
        refine ⟨_, _, _, rfl, x.trans x1, ?_⟩
        rw [hallR_take (List.getElem?_eq_getElem lt)]
        exact hH1
      · exfalso
        rw [isIn_of p1, isIn_of p2] at z
        cases z
      · exfalso
        omega
    · rintro σ G ⟨v3, v4, v5, rfl, x, hH⟩
      rw [List.length_map] at hH
      have xe := down x
      have et : ps.take as.length = ps := List.take_of_length_le (by omega)
      rw [et] at hH
      refine ⟨_, rfl, p0, _, rfl, .inl (hP.ext xe).s, _, rfl, by omega, by rw [List.length_map]; omega, fun D nD => ?_⟩
      have en : (((as.map V.ref).length : Nat) : Int).toNat = ps.length := by rw [List.length_map]; omega
      rw [en]
      refine lc_range (lo := 0) (n := ps.length) (fun j G2 => Ext W G G2 ∧ G2 D = some (.lst (vN ((huesR ps).take j)))) ⟨.new nD, upd_same⟩ ?_ ?_
      · rintro j G2 hj ⟨x2, hD⟩
        have ez : ((0 : Int) + (j : Nat)) = (j : Nat) := by omega
        rw [ez]
        obtain ⟨p, hp, hpm, en, el2, er2, hh⟩ := huesR_at (List.getElem?_eq_getElem hj)
        have hH2 := hH.ext x2
        have hno : ∀ e d n, (hf e d n).lookup ("hue_of" : Str) = none := fun e d n => hf_no _ _ _ (by decide +kernel) (by decide +kernel) (by decide +kernel)
        obtain ⟨dx1, e1, kv1, ha1, he1, hd1, hE1⟩ := hH2.ex
        refine ⟨rfl, yesT ?_⟩
        refine ⟨_, rfl, a, dx1, _, rfl, ha1, hno _ _ _, _, rfl, a, d, L', Y', as.length, _, _, _, rfl, hH2, (hallR_good ps).N, TyB.int _, fun p' hp' e' => ?_, fun z => ?_⟩
        · have : p' = p := by
            refine n_inj (hallR_good ps).N hp' hpm ?_
            have := V.int.inj e'
            omega
          subst this
          refine ⟨_, hD, ?_, x2.put (.inl nD) hD, ?_⟩
          · rw [List.length_map, List.length_take]
            exact small1000 (by have := huesR_len ps; omega)
          · rw [upd_same, take_one hh]
            unfold vN
            rw [List.map_append]
            rfl
        · exact absurd (by rw [en]) (z p hpm)
      · rintro G2 ⟨x2, hD⟩
        rw [show (huesR ps).take ps.length = huesR ps from List.take_of_length_le (by rw [huesR_len]; exact Nat.le_refl _)] at hD
        exact q D G2 (xe.f _ nD) (xe.trans x2) hD
end
end My

set_option Elab.async false
set_option linter.all false
set_option maxRecDepth 100000
set_option maxHeartbeats 4000000
namespace My
open PySem PySem.Spec PyProof.Rows L2 Own Mt
def prI (p : Nat × Nat) : List Int := [(p.1 : Int), (p.2 : Int)]
theorem prI_len (ps : List (Nat × Nat)) : ∀ r ∈ ps.map prI, 2 ≤ r.length := by
  intro r hr
  obtain ⟨p, _, rfl⟩ := List.mem_map.mp hr
  exact Nat.le_refl 2
theorem pairs_at {K : PySem.W.Frag} {H : Hp} {L Y : Nat} {a : Addr} {as : List Addr} {ps : List (Nat × Nat)} (s : SqL K H a (as.map V.ref)) (hE : Each K H as (ps.map prI)) (hb : ∀ p ∈ ps, p.1 < L ∧ p.2 < Y) (few : ps.length ≤ 43) : PairsAt K H L Y a as ps ∧ as.length = ps.length := by
  have hl := hE.len
  rw [List.length_map] at hl
  refine ⟨⟨s, few, by omega, fun j p hj => ?_⟩, hl⟩
  obtain ⟨h1, h2⟩ := hb p (List.mem_of_getElem? hj)
  obtain ⟨b, hb', ht⟩ := pget hE (i := j) (b := prI p) (by rw [List.getElem?_map, hj]; rfl)
  exact ⟨h1, h2, b, hb', ht⟩
section
variable {P : Program} {w : World} {K : PySem.W.Frag} {mg : Str → Option Value} {base : Heap} {W : Tbs}
def spPairs9 (K : PySem.W.Frag) (W : Tbs) : Sp := fun vs H Q _ => ∃ (a z : Addr) (ns : List Int) (L Y : Nat) (m : Int), vs = [.ref a, .ref z] ∧ SqL K H a (ns.map V.int) ∧ SqT K H z [.int (L : Nat), .int (Y : Nat), .int m] ∧ 1 ≤ L ∧ L ≤ 8 ∧ 1 ≤ Y ∧ Y ≤ 8 ∧
  ∀ (F : Addr) (as : List Addr) (ps : List (Nat × Nat)) (H' : Hp), H F = none → Ext W H H' → H' F = some (.lst (as.map V.ref)) → Each K H' as (ps.map prI) → (∀ p ∈ ps, p.1 < L ∧ p.2 < Y) → ps.length ≤ 43 → Q (.ref F) H'
theorem ok_l_pairs (T : Txt K mg) : FnOk P w K mg base CX0 2 T.f_l_pairs T.d_l_pairs ["_law_script", "_law_sizes"] (spPairs9 K W) := by
  have ok_l_cell_at : FnOk P w K mg base CX0 1 T.f_l_cell_at T.d_l_cell_at ["_law_script", "_law_k"] (spDraw K) := ok_l_cell_at T
  have ok_l_mixed : FnOk P w K mg base CX0 1 T.f_l_mixed T.d_l_mixed ["_law_cell", "_law_k"] spMix := ok_l_mixed T
  have ok_l_ends : FnOk P w K mg base CX0 1 T.f_l_ends T.d_l_ends ["_law_cell", "_law_sizes", "_law_rows"] (spEnds K W) := ok_l_ends T
  refine T.D_l_pairs.F.ok sc_l_pairs (fun vs H Q E h => ?_) (fun cdv A outer s H vs Q E hr h => ?_)
  · obtain ⟨a, z, ns, L, Y, m, rfl, _⟩ := h
    rfl
  · obtain ⟨a0, z, ns, L, Y, m, rfl, hS, hz, L1, L2, Y1, Y2, q⟩ := h
    refine ⟨_, (pss_cons (ps_set (i := 2) sc_l_pairs.nd rfl (.inl rfl) (pe_ix (ixL K) (pe_lst (pa_cons pe_int (pa_cons pe_int pa_nil))) (pe_callTy call_int1 (by rfl) T.z_int (by decide +kernel) (pa_cons (pe_cmpR op_eq (pe_op op_mod (pe_op op_fdiv (pe_call ok_l_cell_at (hr.mono (by decide)) rfl T.D_l_cell_at.g T.D_l_cell_at.F.kp T.D_l_cell_at.b .nil pass0 (pa_cons (pv 0) (pa_cons pe_int pa_nil))) pe_int) pe_int) pe_int (nomark _)) pa_nil)) (fun _ _ => rfl)))
    (pss_cons (ps_set (i := 3) sc_l_pairs.nd rfl (.inl rfl) (pe_lst pa_nil))
    (pss_cons (ps_for PassesOwn.never rfl (pi_enum (by rfl) T.z_enumerate (pa_cons (pe_slice (slL K) (pv 0) (po_some pe_int) (po_some (pe_op op_add pe_int (pv 2)))) pa_nil)) (pg_tup rfl (pgs_cons (pg_name (i := 4) sc_l_pairs.nd rfl (.inl rfl)) (pgs_cons (pg_name (i := 5) sc_l_pairs.nd rfl (.inl rfl)) pgs_nil))) 
      (pss_one (ps_expr (bmC K (pe_bm PySem.F.plainAttrs_list PySem.F.slot_list_append PySem.F.type_list_append mt_append (pv 3) (pa_cons (pe_call ok_l_ends (hr.mono (by decide)) rfl T.D_l_ends.g T.D_l_ends.F.kp T.D_l_ends.b .nil pass0 (pa_cons (pe_call ok_l_mixed (hr.mono (by decide)) rfl T.D_l_mixed.g T.D_l_mixed.F.kp T.D_l_mixed.b .nil pass0 (pa_cons (pv 5) (pa_cons (pv 4) pa_nil))) (pa_cons (pv 1) (pa_cons (pe_dictEnum rfl T.z_dict rfl T.z_enumerate (pv 3)) pa_nil)))) pa_nil))))))
    (pss_one (ps_ret (pv 3)))))), ?_⟩
    refine ⟨by show 2 ≤ sizeLine; decide, fun p1 np1 => ?_⟩
    refine newO W (H := H) (p := p1) np1 fun H1 x1 hp1 => ?_
    refine ⟨_, rfl, a0, ns, 0, rfl, x1.seq hS, ?_⟩
    generalize ns.getD 0 0 = c0
    refine ⟨_, _, rfl, rfl, ⟨by decide, by decide⟩, _, _, rfl, rfl, (by show (0 : Int) < 8; decide), rfl, .inr ⟨_, rfl, ?_⟩⟩
    dsimp only
    obtain ⟨mo, em, hm⟩ : ∃ mo : Nat, atI [V.int 30, V.int 43] (if decide (V.int (c0 / 5120 % 8) = V.int 1) = true then 1 else 0) = some (V.int (mo : Nat)) ∧ mo ≤ 43 := by
      cases decide (V.int (c0 / 5120 % 8) = V.int 1) with
      | true => exact ⟨43, atI_nat (j := 1) rfl, Nat.le_refl _⟩
      | false => exact ⟨30, atI_nat (j := 0) rfl, by decide⟩
    refine ⟨p1, _, _, _, rfl, rfl, SqL.of hp1, em, ?_⟩
    refine ⟨by show 0 ≤ sizeLine; decide, fun F nF => ?_⟩
    refine newO W (H := H1) (p := F) nF fun H2 x2 hF => ?_
    have x02 := x1.trans x2
    refine ⟨_, rfl, 2, rfl, _, rfl, _, _, rfl, rfl, _, rfl, a0, _, rfl, x02.seq hS, fun p3 np3 => ?_⟩
    have ec : cutV (ns.map V.int) (some 2) (some (2 + (mo : Nat))) = ((ns.drop 2).take mo).map V.int := by
      have := cut_ij (ns.map V.int) 2 (2 + mo)
      rw [show 2 + mo - 2 = mo by omega, ← List.map_drop, ← List.map_take] at this
      rw [← this]
      rfl
    rw [ec]
    refine newO W (H := H2) (p := p3) np3 fun H3 x3 hp3 => ?_
    have lc : ((ns.drop 2).take mo).length ≤ 43 := by
      have := List.length_take_le mo (ns.drop 2)
      omega
    generalize (ns.drop 2).take mo = cs at hp3 lc
    have nFp : p3 ≠ F := (ne_of_none hF np3).symm
    have x03 := x02.trans x3
    have nF0 : H F = none := x1.f _ nF
    refine ⟨p3, _, rfl, SqL.of hp3, for_enum (K := K) (a := p3) (xs := cs.map V.int) (fun i σ G => ∃ (v4 v5 : Option V) (as : List Addr) (ps : List (Nat × Nat)),
      σ = [some (.ref a0), some (.ref z), some (.int (mo : Nat)), some (.ref F), v4, v5] ∧ Ext W H G ∧ G p3 = some (.lst (cs.map V.int)) ∧ G F = some (.lst (as.map V.ref)) ∧ Each K G as (ps.map prI) ∧ (∀ p ∈ ps, p.1 < L ∧ p.2 < Y) ∧ ps.length = i)
      ⟨none, none, [], [], rfl, x03, hp3, x3.lst hF, .nil, fun p hp => absurd hp (by simp), rfl⟩ (fun i σ G _ ⟨_, _, _, _, _, _, y, _⟩ => SqL.of y) ?_ ?_⟩
    · rintro i y σ G T0 hi ⟨v4, v5, as, ps, rfl, x, hp, hD, hE, hb, hl⟩ nT
      rw [List.getElem?_map] at hi
      obtain ⟨c, hc, rfl⟩ := Option.map_eq_some_iff.mp hi
      have il := (List.getElem?_eq_some_iff.mp hc).1
      have lE := hE.len
      rw [List.length_map] at lE
      refine newO W (H := G) (p := T0) nT fun G0 x0 hT => ?_
      refine ⟨T0, _, rfl, .inl (.inl hT), rfl, _, _, rfl, _, _, rfl, rfl, ?_⟩
      have hD0 := x0.lst hD
      refine ⟨_, rfl, .inl ⟨rfl, _, SqL.of hD0⟩, _, rfl, _, rfl, c, (i : Nat), rfl, by omega, by omega, _, rfl, _, rfl, F, _, rfl, SqL.of hD0, fun p np => ?_⟩
      refine newO W (H := G0) (p := p) np fun G1 x1' hd => ?_
      have x01 := x0.trans x1'
      refine ⟨_, z, p, enumK 0 (as.map V.ref), as, ps.map prI, L, Y, m, rfl, (x.trans x01).tup hz, L1, L2, Y1, Y2, hd, enumK_vals 0 _, x01.each hE, prI_len ps, by rw [List.length_map]; omega, fun b l r G2 hl' hr' nb x2' hb' => ?_⟩
      have x02' := x01.trans x2'
      have hD2 := x02'.lst hD
      have nFG : G F ≠ none := by rw [hD]; exact Option.some_ne_none _
      refine ⟨F, _, _, rfl, rfl, hD2, by rw [List.length_map]; exact small1000 (by omega), ?_⟩
      have x2F : Fx W [] H (upd G2 F (.lst ((as ++ [b]).map V.ref))) := (x.trans x02').put (.inl nF0) hD2
      refine ⟨_, _, as ++ [b], ps ++ [(l, r)], rfl, ?_, ?_, ?_, ?_, ?_, ?_⟩
      · rw [List.map_append] at x2F
        exact x2F
      · have := x02'.lst hp
        rw [upd_ne nFp]
        exact this
      · rw [upd_same, List.map_append]
        rfl
      · rw [List.map_append]
        have kp : ∀ {c : Addr} {ys : List V}, SqT K G2 c ys → SqT K (upd G2 F (.lst (as.map V.ref ++ [.ref b]))) c ys := fun {c ys} h => tup_upd hD2 (fun _ z => by cases z) (fun _ _ z => by cases z) h
        exact Each.snoc (Paired.mapP (x02'.each hE) fun c ys h => kp h) (kp (.inl (.inl hb')))
      · intro q' hq'
        rcases List.mem_append.mp hq' with e | e
        · exact hb q' e
        · rw [List.mem_singleton.mp e]
          exact ⟨hl', hr'⟩
      · rw [List.length_append, List.length_singleton, hl]
    · rintro σ G ⟨v4, v5, as, ps, rfl, x, hp, hD, hE, hb, hl⟩
      rw [List.length_map] at hl
      exact ⟨_, rfl, q F as ps G nF0 x hD hE hb (by omega)⟩
end
end My

set_option Elab.async false
set_option linter.all false
set_option maxRecDepth 100000
set_option maxHeartbeats 4000000
namespace My
open PySem PySem.Spec PyProof.Rows L2 Own Mt
open K08 (most ends count)
section
variable {P : Program} {w : World} {K : PySem.W.Frag} {mg : Str → Option Value} {base : Heap} {W : Tbs}
def spLWhole (K : PySem.W.Frag) : Sp := fun vs H Q _ => ∃ v : V, vs = [v] ∧ ((∃ i : Int, v = .int i ∧ Q (.bl true) H) ∨ (v = .non ∧ Q (.bl false) H))
theorem ok_l_whole (T : Txt K mg) : FnOk P w K mg base CX0 1 T.f_l_whole T.d_l_whole ["_law_found"] (spLWhole K) := by
  refine T.D_l_whole.F.ok sc_l_whole (fun vs H Q E h => ?_) (fun cdv A outer s H vs Q E hr h => ?_)
  · obtain ⟨v, rfl, _⟩ := h
    rfl
  · obtain ⟨v, rfl, h⟩ := h
    refine ⟨_, (pss_one (ps_ret (pe_and (pe_callB (isiO K) (by rfl) T.z_isinstance (by decide +kernel) (pa_cons (pv 0) (pa_cons (pe_bltn (v := .ty "int") (by rfl) T.z_int (by decide +kernel) rfl) pa_nil))) (pe_one (pe_not (pe_callB (isiO K) (by rfl) T.z_isinstance (by decide +kernel) (pa_cons (pv 0) (pa_cons (pe_bltn (v := .ty "bool") (by rfl) T.z_bool (by decide +kernel) rfl) pa_nil)))))))), ?_⟩
    rcases h with ⟨i, rfl, q⟩ | ⟨rfl, q⟩
    · refine ⟨_, rfl, _, _, _, _, true, rfl, ClsV.ty _, .base (.int i), kit_ty (by decide +kernel), ⟨_, rfl, iteT ?_⟩⟩
      refine ⟨_, rfl, _, _, _, _, false, rfl, ClsV.ty _, .base (.int i), kit_ty (by decide +kernel), ⟨_, rfl, ?_⟩⟩
      exact q
    · refine ⟨_, rfl, _, _, _, _, false, rfl, ClsV.ty _, .base .non, kit_ty (by decide +kernel), ⟨_, rfl, iteF ?_⟩⟩
      exact q
end
end My

set_option Elab.async false
set_option linter.all false
set_option maxRecDepth 100000
namespace Own
open PySem PySem.Spec PyProof.Rows L2
/-! data: ints, None, texts, and lists and tuples of them -/
def okD (k : Nat) (d : PyData) : Prop := d.canLay0 = true ∧ d.depth ≤ k
theorem okD.of {k j : Nat} {d : PyData} (h : okD k d) (l : k ≤ j) : okD j d := ⟨h.1, Nat.le_trans h.2 l⟩
theorem okD_int (i : Int) : okD 1 (.int i) := ⟨rfl, by simp [PyData.depth]⟩
theorem okD_non : okD 1 .none := ⟨rfl, by simp [PyData.depth]⟩
theorem okD_all {k : Nat} : ∀ {ds : List PyData}, (∀ d ∈ ds, okD k d) → PyData.canLayAll0 ds = true ∧ PyData.depthAll ds ≤ k
  | [], _ => ⟨rfl, Nat.zero_le _⟩
  | d :: ds, h => by
    obtain ⟨h1, h2⟩ := okD_all (k := k) (ds := ds) fun x hx => h x (List.mem_cons_of_mem _ hx)
    obtain ⟨g1, g2⟩ := h d List.mem_cons_self
    simp only [PyData.canLayAll0, PyData.depthAll, h1, g1, Bool.and_self, true_and]
    omega
theorem okD.list {k : Nat} {ds : List PyData} (h : ∀ d ∈ ds, okD k d) : okD (k + 1) (.list ds) := by
  obtain ⟨h1, h2⟩ := okD_all h
  refine ⟨h1, ?_⟩
  simp only [PyData.depth]
  omega
theorem okD.tuple {k : Nat} {ds : List PyData} (h : ∀ d ∈ ds, okD k d) : okD (k + 1) (.tuple ds) := by
  obtain ⟨h1, h2⟩ := okD_all h
  refine ⟨h1, ?_⟩
  simp only [PyData.depth]
  omega
theorem okD.shaped {k : Nat} {d : PyData} (h : okD k d) (l : k ≤ 64 := by decide) : SeqAt.shaped d = true := by
  unfold SeqAt.shaped
  rw [h.1, Bool.true_and]
  exact decide_eq_true (Nat.le_trans h.2 l)
mutual
theorem eqv_same : ∀ d : PyData, d.canLay0 = true → PyData.eqv d d = true
  | .none, _ => by simp [PyData.eqv]
  | .bool b, _ => by simp [PyData.eqv]
  | .int i, _ => by simp [PyData.eqv]
  | .str x, _ => by simp [PyData.eqv]
  | .list xs, h => by
    rw [PyData.eqv]
    exact eqvAll_same xs h
  | .tuple xs, h => by
    rw [PyData.eqv]
    exact eqvAll_same xs h
  | .dict _, h => by cases h
theorem eqvAll_same : ∀ ds : List PyData, PyData.canLayAll0 ds = true → PyData.eqvAll ds ds = true
  | [], _ => by simp [PyData.eqvAll]
  | d :: ds, h => by
    rw [PyData.canLayAll0, Bool.and_eq_true] at h
    rw [PyData.eqvAll, eqv_same d h.1, eqvAll_same ds h.2]
    rfl
end
/-- lists of ints as data -/
def intsD (ns : List Int) : PyData := .list (ns.map PyData.int)
theorem intsD_ok (ns : List Int) : okD 2 (intsD ns) := okD.list fun d hd => by
  obtain ⟨i, _, rfl⟩ := List.mem_map.mp hd
  exact okD_int i
theorem eqv_intsD (a b : List Int) : PyData.eqv (intsD a) (intsD b) = decide (a = b) := PySem.W.ked_eqvAll a b
def natsD (ns : List Nat) : PyData := intsD (ns.map fun n : Nat => (n : Int))
theorem natsD_ok (ns : List Nat) : okD 2 (natsD ns) := intsD_ok _
theorem casts_inj {a b : List Nat} (h : (a.map fun n : Nat => (n : Int)) = b.map fun n : Nat => (n : Int)) : a = b := by
  induction a generalizing b with
  | nil => cases b with
    | nil => rfl
    | cons y b => cases h
  | cons x a ih => cases b with
    | nil => cases h
    | cons y b =>
      rw [List.map_cons, List.map_cons] at h
      have h1 := (List.cons.inj h).1
      rw [ih (List.cons.inj h).2, show x = y by omega]
theorem eqv_natsD (a b : List Nat) : PyData.eqv (natsD a) (natsD b) = decide (a = b) := by
  unfold natsD
  rw [eqv_intsD, Bool.eq_iff_iff, decide_eq_true_eq, decide_eq_true_eq]
  exact ⟨casts_inj, fun h => by rw [h]⟩
/-! rows of ints as data -/
def rowD (r : List Int) : PyData := .tuple (r.map PyData.int)
theorem rowD_ok (r : List Int) : okD 2 (rowD r) := okD.tuple fun d hd => by
  obtain ⟨i, _, rfl⟩ := List.mem_map.mp hd
  exact okD_int i
def rowsD (ts : List (List Int)) : PyData := .list (ts.map rowD)
theorem rowsD_ok (ts : List (List Int)) : okD 3 (rowsD ts) := okD.list fun d hd => by
  obtain ⟨i, _, rfl⟩ := List.mem_map.mp hd
  exact rowD_ok i
theorem eqv_rowD (t u : List Int) : PyData.eqv (rowD t) (rowD u) = decide (t = u) := PySem.W.ked_eqvAll t u
theorem eqvAll_rows : ∀ ts us : List (List Int), PyData.eqvAll (ts.map rowD) (us.map rowD) = decide (ts = us)
  | [], [] => by simp [PyData.eqvAll]
  | [], _ :: _ => by simp [PyData.eqvAll]
  | _ :: _, [] => by simp [PyData.eqvAll]
  | t :: ts, u :: us => by
    have h := eqvAll_rows ts us
    simp only [List.map_cons, PyData.eqvAll]
    rw [eqv_rowD, h, Bool.eq_iff_iff]
    simp
theorem eqv_rows (ts us : List (List Int)) : PyData.eqv (rowsD ts) (rowsD us) = decide (ts = us) := eqvAll_rows ts us
section
variable {K : PySem.W.Frag} {H : Hp}
theorem dp_ints : ∀ r : List Int, DpAll K H (r.map V.int) (r.map PyData.int)
  | [] => .nil
  | x :: r => .cons (.int x) (dp_ints r)
theorem dp_nats {a : Addr} {ns : List Nat} (h : SqL K H a (vN ns)) : Dp K H (.ref a) (natsD ns) := by
  rw [vN_ints] at h
  exact .lst h (dp_ints _)
theorem dp_each : ∀ {as : List Addr} {ts : List (List Int)}, Each K H as ts → DpAll K H (as.map V.ref) (ts.map rowD)
  | _, _, .nil => .nil
  | _, _, .cons h t => .cons (.tup h (dp_ints _)) (dp_each t)
theorem dp_rows {a : Addr} {ts : List (List Int)} (h : Rows K H a ts) : Dp K H (.ref a) (rowsD ts) := by
  obtain ⟨as, h1, h2⟩ := h
  exact .lst h1 (dp_each h2)
end
end Own

set_option Elab.async false
set_option linter.all false
namespace Mt
open K08 (count most ends)
/-! all pairs of one hue, and what is left without them -/
theorem hue_in {R : List Pr} (N : (R.map (·.n)).Nodup) {p : Pr} (hp : p ∈ R) {h : Nat} : p.n ∈ ofHue R h ↔ p.h = h := by
  rw [mem_ofHue]
  exact ⟨fun ⟨q, hq, e1, e2⟩ => by rw [← n_inj N hq hp e1]; exact e2, fun e => ⟨p, hp, rfl, e⟩⟩
theorem hue_some {R : List Pr} (G : Good R) {h : Nat} (hh : h < cnt R) : ofHue R h ≠ [] := by
  rcases cnt_at R with ⟨z, _⟩ | ⟨s, e, hs, _, z⟩
  · omega
  · obtain ⟨p, hp, _, e2⟩ := G.full hs z hh
    exact List.ne_nil_of_mem ((hue_in G.N hp).mpr e2)
def endOf (R : List Pr) (s x : Nat) : Nat := match pairOf R x with
  | some p => p.e s
  | none => 0
theorem endOf_is {R : List Pr} (N : (R.map (·.n)).Nodup) {p : Pr} (hp : p ∈ R) (s : Nat) : endOf R s p.n = p.e s := by
  unfold endOf
  rw [pairOf_is N hp]
theorem hue_ends {R : List Pr} (G : Good R) {s : Nat} (hs : s < 2) (h : Nat) : ((ofHue R h).map (endOf R s)).Nodup := by
  rw [List.nodup_iff_pairwise_ne, List.pairwise_map]
  refine List.Pairwise.imp_of_mem (fun ha hb hn z => hn ?_) (List.nodup_iff_pairwise_ne.mp (ofHue_nodup G.N h))
  obtain ⟨p, hp, e1, e2⟩ := mem_ofHue.mp ha
  obtain ⟨q, hq, f1, f2⟩ := mem_ofHue.mp hb
  rw [← e1, ← f1, endOf_is G.N hp, endOf_is G.N hq] at z
  rw [← e1, ← f1, G.P p hp q hq s hs z (e2.trans f2.symm)]
theorem hue_full {R : List Pr} (G : Good R) {s e h : Nat} (hs : s < 2) (hd : deg R s e = cnt R) (hh : h < cnt R) : e ∈ (ofHue R h).map (endOf R s) := by
  obtain ⟨p, hp, e1, e2⟩ := G.full hs hd hh
  exact List.mem_map.mpr ⟨p.n, (hue_in G.N hp).mpr e2, by rw [endOf_is G.N hp, e1]⟩
def noHue (R : List Pr) (h : Nat) : List Pr := R.filter fun p => decide (p.h ≠ h)
def atHue (R : List Pr) (s e h : Nat) : List Pr := R.filter fun p => decide (p.e s = e) && decide (p.h = h)
theorem noHue_deg (R : List Pr) (s e h : Nat) : deg R s e = deg (noHue R h) s e + (atHue R s e h).length := by
  rw [deg_filter, deg_filter]
  unfold noHue atHue
  induction R with
  | nil => rfl
  | cons p R ih =>
    rw [List.filter_cons, List.filter_cons, List.filter_cons]
    by_cases c1 : p.e s = e <;> by_cases c2 : p.h = h <;> simp [c1, c2, List.filter_cons] at ih ⊢ <;> omega
theorem nodup_of_n {R : List Pr} (N : (R.map (·.n)).Nodup) : R.Nodup := by
  rw [List.nodup_iff_pairwise_ne, List.pairwise_map] at N
  exact List.nodup_iff_pairwise_ne.mpr (N.imp fun h z => h (by rw [z]))
theorem atHue_le {R : List Pr} (G : Good R) {s : Nat} (hs : s < 2) (e h : Nat) : (atHue R s e h).length ≤ 1 := by
  have nd : (atHue R s e h).Nodup := List.filter_sublist.nodup (nodup_of_n G.N)
  have one : ∀ p ∈ atHue R s e h, ∀ q ∈ atHue R s e h, p = q := fun p hp q hq => by
    obtain ⟨a1, a2⟩ := List.mem_filter.mp hp
    obtain ⟨b1, b2⟩ := List.mem_filter.mp hq
    simp only [Bool.and_eq_true, decide_eq_true_eq] at a2 b2
    exact G.P p a1 q b1 s hs (a2.1.trans b2.1.symm) (a2.2.trans b2.2.symm)
  match hl : atHue R s e h with
  | [] => simp
  | [_] => simp
  | p :: q :: r =>
    rw [hl] at nd one
    have := one p List.mem_cons_self q (List.mem_cons_of_mem _ List.mem_cons_self)
    rw [this] at nd
    simp at nd
theorem noHue_cnt {R : List Pr} (G : Good R) {h : Nat} (hh : h < cnt R) : cnt (noHue R h) + 1 = cnt R := by
  have hi : cnt (noHue R h) + 1 ≤ cnt R := by
    rcases cnt_at (noHue R h) with ⟨z, _⟩ | ⟨s, e, hs, _, z⟩
    · omega
    · have a := noHue_deg R s e h
      have b := deg_le R (s := s) (e := e) hs
      by_cases c : deg R s e = cnt R
      · obtain ⟨p, hp, e1, e2⟩ := G.full hs c hh
        have : 0 < (atHue R s e h).length := List.length_pos_iff.mpr (List.ne_nil_of_mem (List.mem_filter.mpr ⟨hp, by simp [e1, e2]⟩))
        omega
      · omega
  have lo : cnt R ≤ cnt (noHue R h) + 1 := by
    rcases cnt_at R with ⟨z, _⟩ | ⟨s, e, hs, _, z⟩
    · omega
    · have a := noHue_deg R s e h
      have b := atHue_le G hs e h
      have c := deg_le (noHue R h) (s := s) (e := e) hs
      omega
  omega
/-- without these numbers -/
def noN (E : List (Nat × Nat × Nat)) (xs : List Nat) : List (Nat × Nat × Nat) := E.filter fun t => decide (t.1 ∉ xs)
theorem noN_nil (E : List (Nat × Nat × Nat)) : noN E [] = E := by
  unfold noN
  exact List.filter_eq_self.mpr fun t _ => by simp
theorem noN_snoc (E : List (Nat × Nat × Nat)) (xs : List Nat) (x : Nat) : noN E (xs ++ [x]) = (noN E xs).filter fun t => decide (t.1 ≠ x) := by
  unfold noN
  rw [List.filter_filter]
  refine List.filter_congr fun t _ => ?_
  rw [Bool.eq_iff_iff]
  simp
  constructor
  · exact fun h => ⟨h.2, h.1⟩
  · exact fun h => ⟨h.2, h.1⟩
theorem noN_hue {R : List Pr} (N : (R.map (·.n)).Nodup) {h : Nat} {xs : List Nat} (e : ∀ x, x ∈ xs ↔ x ∈ ofHue R h) : noN (R.map nlr) xs = (noHue R h).map nlr := by
  unfold noN noHue
  rw [List.filter_map]
  congr 1
  refine List.filter_congr fun p hp => ?_
  show decide (p.n ∉ xs) = decide (p.h ≠ h)
  rw [Bool.eq_iff_iff, decide_eq_true_eq, decide_eq_true_eq, e, hue_in N hp]
theorem drop_nlr (R : List Pr) (x : Nat) : (drop R x).map nlr = (R.map nlr).filter fun t => decide (t.1 ≠ x) := by
  unfold drop
  rw [List.filter_map]
  rfl
theorem go_nlr {R : List Pr} (G : Good R) {E : List (Nat × Nat × Nat)} {xs : List Nat} {x : Nat} (h : (R.map nlr).Perm (noN E xs)) (hx : x ∈ R.map (·.n)) : ((go R x).2.map nlr).Perm (noN E (xs ++ [x])) := by
  refine (go_ok G hx).2.trans ?_
  rw [drop_nlr, noN_snoc]
  exact h.filter _
theorem in_noN {R : List Pr} {E : List (Nat × Nat × Nat)} {xs : List Nat} (h : (R.map nlr).Perm (noN E xs)) {x : Nat} (h1 : x ∈ E.map (·.1)) (h2 : x ∉ xs) : x ∈ R.map (·.n) := by
  rw [map_n]
  obtain ⟨t, ht, e⟩ := List.mem_map.mp h1
  refine List.mem_map.mpr ⟨t, h.mem_iff.mpr (List.mem_filter.mpr ⟨ht, decide_eq_true ?_⟩), e⟩
  rw [e]
  exact h2
theorem nil_of_cnt {R : List Pr} (h : cnt R = 0) : R = [] := by
  rcases cnt_at R with ⟨_, z⟩ | ⟨s, e, hs, ⟨p, hp, e1⟩, z⟩
  · exact z
  · exfalso
    rw [h] at z
    have : 0 < deg R s e := by
      unfold deg
      exact List.count_pos_iff.mpr (List.mem_map.mpr ⟨p, hp, e1⟩)
    omega
end Mt

set_option Elab.async false
set_option linter.all false
set_option maxRecDepth 100000
set_option maxHeartbeats 4000000
namespace My
open PySem PySem.Spec PyProof.Rows L2 Own Mt
open K08 (most ends count keys good)
theorem okD_bool (b : Bool) : okD 1 (.bool b) := ⟨rfl, by simp [PyData.depth]⟩
/-- what a refusal is told as -/
def twoD (a b : Bool) : PyData := .tuple [.bool a, .bool b]
theorem twoD_ok (a b : Bool) : okD 2 (twoD a b) := okD.tuple fun d hd => by
  simp only [List.mem_cons, List.not_mem_nil, or_false] at hd
  rcases hd with rfl | rfl
  · exact okD_bool a
  · exact okD_bool b
theorem dp_two {K : PySem.W.Frag} {H : Hp} {t : Addr} {a b : Bool} (h : H t = some (.tup [.bl a, .bl b])) : Dp K H (.ref t) (twoD a b) := .tup (.inl (.inl h)) (.cons (.bl a) (.cons (.bl b) .nil))
/-- of more than 40 pairs, the one behind the 40 first is refused -/
theorem stop41 {K : PySem.W.Frag} {H : Hp} {L Y : Nat} {a : Addr} {as : List Addr} {ps : List (Nat × Nat)} (h : PairsAt K H L Y a as ps) (l : 40 < ps.length) :
    PairsAt K H L Y a as (ps.take 40) ∧ (ps.take 40).length = 40 ∧ Stop K H L Y as (ps.take 40) false := by
  have el : (ps.take 40).length = 40 := by rw [List.length_take]; omega
  have le := h.le
  refine ⟨⟨h.s, by omega, by omega, fun j p hj => h.at_ j p ?_⟩, el, ?_⟩
  · rw [List.getElem?_take] at hj
    split at hj
    · exact hj
    · cases hj
  · obtain ⟨h1, h2, b, hb, hq⟩ := h.at_ 40 _ (List.getElem?_eq_getElem l)
    refine ⟨b, _, _, _, _, by rw [el]; exact hb, hq, TyB.int _, TyB.int _, ?_, fun _ => el⟩
    rw [isIn_of h1, isIn_of h2]
    rfl
/-- one pair is put in the place of another -/
theorem pairs_put {K : PySem.W.Frag} {H : Hp} {L Y : Nat} {a a' : Addr} {as : List Addr} {o : Addr} {at_ : Nat} {ps : List (Nat × Nat)} (h : PairsAt K H L Y a as ps) (l : at_ < as.length) (s : SqL K H a' ((as.take at_ ++ [o] ++ as.drop (at_ + 1)).map V.ref)) (hl : as.length = ps.length) :
    PairsAt K H L Y a' (as.take at_ ++ [o] ++ as.drop (at_ + 1)) (ps.take at_) ∧ (ps.take at_).length = at_ ∧ (as.take at_ ++ [o] ++ as.drop (at_ + 1))[at_]? = some o := by
  have e1 : (ps.take at_).length = at_ := by rw [List.length_take]; omega
  have e2 : (as.take at_).length = at_ := by rw [List.length_take]; omega
  have few := h.few
  refine ⟨⟨s, by omega, ?_, fun j p hj => ?_⟩, e1, ?_⟩
  · rw [List.length_append, List.length_append, e1, e2]
    omega
  · have jl := (List.getElem?_eq_some_iff.mp hj).1
    rw [List.getElem?_take, if_pos (by omega)] at hj
    obtain ⟨h1, h2, b, hb, hq⟩ := h.at_ j p hj
    refine ⟨h1, h2, b, ?_, hq⟩
    rw [List.append_assoc, List.getElem?_append_left (by omega), List.getElem?_take, if_pos (by omega)]
    exact hb
  · rw [List.append_assoc, List.getElem?_append_right (by omega), e2, Nat.sub_self]
    rfl
theorem PairsAt.list {K : PySem.W.Frag} {H : Hp} {L Y : Nat} {a a' : Addr} {as : List Addr} {ps : List (Nat × Nat)} (h : PairsAt K H L Y a as ps) (s : SqL K H a' (as.map V.ref)) : PairsAt K H L Y a' as ps := ⟨s, h.few, h.le, h.at_⟩
theorem Stop.ext {K : PySem.W.Frag} {W : Tbs} {H H' : Hp} {L Y : Nat} {as : List Addr} {ps : List (Nat × Nat)} {bad : Bool} (h : Stop K H L Y as ps bad) (x : Ext W H H') : Stop K H' L Y as ps bad := by
  obtain ⟨b, v1, v2, t1, t2, h1, h2, h3, h4, h5⟩ := h
  exact ⟨b, v1, v2, t1, t2, h1, x.tup h2, TyB.ext (S := []) x h3, TyB.ext (S := []) x h4, h5⟩
/-- the hues are all that there are -/
theorem hues_all {R : List Pr} (G : Good R) (k : Int) : k ∈ (R.map (·.h)).map (fun n : Nat => (n : Int)) ↔ k ∈ (List.range (cnt R)).map (fun n : Nat => (n : Int)) := by
  rw [List.mem_map, List.mem_map]
  constructor
  · rintro ⟨h, hh, e⟩
    obtain ⟨p, hp, e2⟩ := List.mem_map.mp hh
    have := G.H p hp
    have e2 : p.h = h := e2
    exact ⟨h, List.mem_range.mpr (by omega), e⟩
  · rintro ⟨h, hh, e⟩
    have lt := List.mem_range.mp hh
    have ne := hue_some G lt
    obtain ⟨x, hx⟩ := List.exists_mem_of_ne_nil _ ne
    obtain ⟨p, hp, _, e2⟩ := mem_ofHue.mp hx
    exact ⟨h, List.mem_map.mpr ⟨p, hp, e2⟩, e⟩
theorem sorted_hues {ns : List Int} {m : Nat} {ys : List Int} (hs : ys.Pairwise (· < ·)) (hm : ∀ k : Int, k ∈ ys ↔ k ∈ ns) (h : ∀ k : Int, k ∈ ns ↔ k ∈ (List.range m).map (fun n : Nat => (n : Int))) : ys = (List.range m).map (fun n : Nat => (n : Int)) := by
  have s2 : ((List.range m).map (fun n : Nat => (n : Int))).Pairwise (· < ·) := by
    rw [List.pairwise_map]
    exact List.pairwise_lt_range.imp fun h => by omega
  have n1 : ys.Nodup := hs.imp fun h => by omega
  have n2 : ((List.range m).map (fun n : Nat => (n : Int))).Nodup := s2.imp fun h => by omega
  have pm : ys.Perm ((List.range m).map (fun n : Nat => (n : Int))) := (List.perm_ext_iff_of_nodup n1 n2).mpr fun k => (hm k).trans (h k)
  exact pm.eq_of_pairwise (fun x y _ _ h1 h2 => Int.le_antisymm h1 h2) (hs.imp fun h => by omega) (s2.imp fun h => by omega)
theorem all_true (k : Nat) : (List.replicate k true).all id = true := by
  rw [List.all_eq_true]
  intro b hb
  rw [(List.mem_replicate.mp hb).2]
  rfl
section
variable {P : Program} {w : World} {K : PySem.W.Frag} {mg : Str → Option Value} {base : Heap} {W : Tbs}
def spLaw (K : PySem.W.Frag) (W : Tbs) : Sp := fun vs H Q _ => ∃ (a : Addr) (ns : List Int), vs = [.ref a] ∧ SqL K H a (ns.map V.int) ∧ (∀ p ∈ W.l, LamX.TabS H p.1 p.2) ∧ (∀ P ∈ W.g, GxR.TabG H P) ∧ ∀ H', Q (.bl true) H'
theorem ok_law (T : Txt K mg) (TG : GxR.TabB base mg T.k_is_good T.p_is_good) (B : LamX.TabB base mg T.k_place T.p_place) (WO : Wok W T.p_place) (hPT : T.p_is_good ∈ W.g) (nl : ∀ p ∈ W.l, p.1 ≠ T.p_is_good) : FnOk P w K mg base CX0 8 T.f_law T.d_law ["_law_script"] (spLaw K W) := by
  have ok_l_cell_at : FnOk P w K mg base CX0 1 T.f_l_cell_at T.d_l_cell_at ["_law_script", "_law_k"] (spDraw K) := ok_l_cell_at T
  have ok_l_sizes_by : FnOk P w K mg base CX0 1 T.f_l_sizes_by T.d_l_sizes_by ["_law_cell"] (spSizesBy K W) := ok_l_sizes_by T
  have ok_l_pairs : FnOk P w K mg base CX0 2 T.f_l_pairs T.d_l_pairs ["_law_script", "_law_sizes"] (spPairs9 K W) := ok_l_pairs T
  have ok_l_told : FnOk P w K mg base CX0 7 T.f_l_told T.d_l_told ["_law_sizes", "_law_pairs_here"] (spTold9 K W) := ok_l_told T B WO
  have ok_l_hall : FnOk P w K mg base CX0 6 T.f_l_hall T.d_l_hall ["_law_sizes", "_law_pairs_here"] (spHall9 K W) := ok_l_hall T B WO
  have ok_l_whole : FnOk P w K mg base CX0 1 T.f_l_whole T.d_l_whole ["_law_found"] (spLWhole K) := ok_l_whole T
  have ok_count_of : FnOk P w K mg base CX0 2 T.f_count_of T.d_count_of ["rows"] (spCount K W) := ok_count_of T
  have ok_is_good : FnOk P w K mg base CX0 3 T.f_is_good T.d_is_good ["rows"] (spGood K W) := ok_is_good T TG hPT nl
  refine T.D_law.F.ok sc_law (fun vs H Q E h => ?_) (fun cdv A outer s H vs Q E hr h => ?_)
  · obtain ⟨a, ns, rfl, _⟩ := h
    rfl
  · obtain ⟨a0, ns, rfl, hS, tabs, tabg, q⟩ := h
    refine ⟨_, (pss_cons (ps_set (i := 1) sc_law.nd rfl (.inl rfl) (pe_call ok_l_sizes_by (hr.mono (by decide)) rfl T.D_l_sizes_by.g T.D_l_sizes_by.F.kp T.D_l_sizes_by.b .nil pass0 (pa_cons (pe_call ok_l_cell_at (hr.mono (by decide)) rfl T.D_l_cell_at.g T.D_l_cell_at.F.kp T.D_l_cell_at.b .nil pass0 (pa_cons (pv 0) (pa_cons pe_int pa_nil))) pa_nil)))
    (pss_cons (ps_set (i := 2) sc_law.nd rfl (.inr rfl) (pe_call ok_l_pairs (hr.mono (by decide)) rfl T.D_l_pairs.g T.D_l_pairs.F.kp T.D_l_pairs.b .nil pass0 (pa_cons (pv 0) (pa_cons (pv 1) pa_nil))))
    (pss_cons (ps_set (i := 3) sc_law.nd rfl (.inl rfl) (pe_call ok_l_cell_at (hr.mono (by decide)) rfl T.D_l_cell_at.g T.D_l_cell_at.F.kp T.D_l_cell_at.b .nil pass0 (pa_cons (pv 0) (pa_cons pe_int pa_nil))))
    (pss_cons (ps_set (i := 4) sc_law.nd rfl (.inl rfl) (pe_tup (pa_cons pe_bl (pa_cons pe_bl pa_nil))))
    (pss_cons (ps_if (PW.pt (pw_and (pt_cmpR op_eq (pe_op op_mod (pv 3) pe_int) pe_int (nomark _)) (pw_and1 (pt_cmpR (neD K hr.units) (pv 2) (pe_lst pa_nil) (nomark _))))) 
      (pss_cons (ps_set (i := 5) sc_law.nd rfl (.inl rfl) (pe_op op_mod (pe_op op_fdiv (pv 3) pe_int) (pe_callB (lenQ K) (by rfl) T.z_len PySem.boot_len (pa_cons (pv 2) pa_nil))))
      (pss_cons (ps_set (i := 6) sc_law.nd rfl (.inl rfl) (pe_ix (ixL K) (pe_lst (pa_cons (pe_tup (pa_cons (pe_ix (ixT K) (pv 1) pe_int (fun _ _ => rfl)) (pa_cons pe_int pa_nil))) (pa_cons (pe_tup (pa_cons pe_int (pa_cons (pe_ix (ixT K) (pv 1) pe_int (fun _ _ => rfl)) pa_nil))) (pa_cons (pe_tup (pa_cons (pe_un un_neg pe_int) (pa_cons pe_int pa_nil))) (pa_cons (pe_tup (pa_cons pe_int (pa_cons pe_non pa_nil))) (pa_cons (pe_tup (pa_cons pe_bl (pa_cons pe_int pa_nil))) (pa_cons (pe_tup (pa_cons pe_str (pa_cons pe_int pa_nil))) pa_nil))))))) (pe_op op_mod (pe_op op_fdiv (pv 3) pe_int) pe_int) (fun _ _ => rfl)))
      (pss_cons (ps_set (i := 2) sc_law.nd rfl (.inr rfl) (pe_op op_cat (pe_op op_cat (pe_slice (slL K) (pv 2) po_none (po_some (pv 5))) (pe_lst (pa_cons (pv 6) pa_nil))) (pe_slice (slL K) (pv 2) (po_some (pe_op op_add (pv 5) pe_int)) po_none)))
      (pss_one (ps_if (pt_cmpR op_le (pv 5) pe_int (nomark _)) 
        (pss_one (ps_ret (pe_cmpR (eqD K hr.units) (pe_call ok_l_told (hr.mono (by decide)) rfl T.D_l_told.g T.D_l_told.F.kp T.D_l_told.b .nil pass0 (pa_cons (pv 1) (pa_cons (pv 2) pa_nil))) (pe_tup (pa_cons pe_bl (pa_cons pe_bl pa_nil))) (nomark _)))) pss_nil))))) pss_nil)
    (pss_cons (ps_set (i := 7) sc_law.nd rfl (.inl rfl) (pe_callTy (listOf K) (by rfl) T.z_list (by decide +kernel) (pa_cons (pv 2) pa_nil)))
    (pss_cons (ps_set (i := 8) sc_law.nd rfl (.inr rfl) (pe_call ok_l_told (hr.mono (by decide)) rfl T.D_l_told.g T.D_l_told.F.kp T.D_l_told.b .nil pass0 (pa_cons (pv 1) (pa_cons (pv 7) pa_nil))))
    (pss_cons (ps_if (pt_cmpR op_gt (pe_callB (lenQ K) (by rfl) T.z_len PySem.boot_len (pa_cons (pv 2) pa_nil)) pe_int (nomark _)) 
      (pss_one (ps_ret (pe_cmpR (eqD K hr.units) (pv 8) (pv 4) (nomark _)))) pss_nil)
    (pss_cons (ps_if (PW.pt (pw_or (pt_not (pt_val (pe_callB (isiO K) (by rfl) T.z_isinstance (by decide +kernel) (pa_cons (pv 8) (pa_cons (pe_bltn (v := .ty "list") (by rfl) T.z_list (by decide +kernel) rfl) pa_nil))))) (pw_or (pt_cmpR op_ne (pe_callB (lenQ K) (by rfl) T.z_len PySem.boot_len (pa_cons (pv 8) pa_nil)) (pe_callB (lenQ K) (by rfl) T.z_len PySem.boot_len (pa_cons (pv 2) pa_nil)) (nomark _)) (pw_or1 (pt_not (pt_val (pe_callB (allL K rfl) (by rfl) T.z_all (by decide +kernel) (pa_cons (pe_lc rfl sc_law.nd (own := [("_law_hue", 9)]) (pi_list (pv 8)) (blkOk_by (N := N_law) (sc := defScope s_law) (by decide +kernel)) (fun _ _ _ _ _ => (pg_name (i := 9) sc_law.nd rfl (.inl rfl))) (fun _ _ _ _ _ => pts_nil) (fun _ _ _ _ _ => (pe_call ok_l_whole (hr.mono (by decide)) rfl T.D_l_whole.g T.D_l_whole.F.kp T.D_l_whole.b .nil pass0 (pa_cons (pv 9) pa_nil)))) pa_nil)))))))) 
      (pss_one (ps_ret pe_bl)) pss_nil)
    (pss_cons (ps_setLc (i := 10) rfl sc_law.nd rfl rfl (sw_true rfl rfl rfl (by decide +kernel)) (own := [("_law_pair", 11), ("_law_hue", 9)]) (pi_zip (by rfl) T.z_zip (pa_cons (pv 2) (pa_cons (pv 8) pa_nil))) (blkOk_by (N := N_law) (sc := defScope s_law) (by decide +kernel)) (fun _ _ _ _ _ => (pg_tupK K 2 rfl (pgs_cons (pg_name (i := 11) sc_law.nd rfl (.inl rfl)) (pgs_cons (pg_name (i := 9) sc_law.nd rfl (.inl rfl)) pgs_nil)))) (fun _ _ _ _ _ => pts_nil) (fun _ _ _ _ _ => (pe_op (catT K) (pv 11) (pe_tup (pa_cons (pv 9) pa_nil)))))
    (pss_cons (ps_if (PW.pt (pw_or (pt_not (pt_val (pe_call ok_is_good (hr.mono (by decide)) rfl T.D_is_good.g T.D_is_good.F.kp T.D_is_good.b .nil pass0 (pa_cons (pv 10) pa_nil)))) (pw_or1 (pt_cmpR (neD K hr.units) (pe_sortSet rfl T.z_sorted rfl T.z_set (pv 8)) (pe_listRg rfl (by rfl) T.z_list (prg_1 (by rfl) T.z_range (pe_call ok_count_of (hr.mono (by decide)) rfl T.D_count_of.g T.D_count_of.F.kp T.D_count_of.b .nil pass0 (pa_cons (pv 10) pa_nil)))) (nomark _))))) 
      (pss_one (ps_ret pe_bl)) pss_nil)
    (pss_cons (ps_for PassesOwn.never rfl (pi_range1 rfl T.z_range (pa_cons (pe_callB (lenQ K) (by rfl) T.z_len PySem.boot_len (pa_cons (pv 10) pa_nil)) pa_nil)) (pg_name (i := 12) sc_law.nd rfl (.inr rfl)) 
      (pss_one (ps_if (pt_cmpR (neD K hr.units) (pe_lc rfl sc_law.nd (own := [("_law_row", 13)]) (pi_list (pe_slice (slL K) (pv 10) po_none (po_some (pv 12)))) (blkOk_by (N := N_law) (sc := defScope s_law) (by decide +kernel)) (fun _ _ _ _ _ => (pg_name (i := 13) sc_law.nd rfl (.inl rfl))) (fun _ _ _ _ _ => (pts_one (PW.pt (pw_and (pt_cmpR op_eq (pe_ix (ixT K) (pv 13) pe_int (fun _ _ => rfl)) (pe_ix (ixL K) (pv 8) (pv 12) (fun _ _ => rfl)) (nomark _)) (pw_and1 (PW.pt (pw_or (pt_cmpR op_eq (pe_ix (ixT K) (pv 13) pe_int (fun _ _ => rfl)) (pe_ix (ixT K) (pe_ix (ixL K) (pv 2) (pv 12) (fun _ _ => rfl)) pe_int (fun _ _ => rfl)) (nomark _)) (pw_or1 (pt_cmpR op_eq (pe_ix (ixT K) (pv 13) pe_int (fun _ _ => rfl)) (pe_ix (ixT K) (pe_ix (ixL K) (pv 2) (pv 12) (fun _ _ => rfl)) pe_int (fun _ _ => rfl)) (nomark _)))))))))) (fun _ _ _ _ _ => (pv 13))) (pe_lst pa_nil) (nomark _)) 
        (pss_one (ps_ret pe_bl)) pss_nil)))
    (pss_one (ps_ret (pe_and (pe_cmpR (eqD K hr.units) (pe_call ok_l_told (hr.mono (by decide)) rfl T.D_l_told.g T.D_l_told.F.kp T.D_l_told.b .nil pass0 (pa_cons (pv 1) (pa_cons (pv 7) pa_nil))) (pv 8) (nomark _)) (pe_and (pe_cmpR (eqD K hr.units) (pe_call ok_l_hall (hr.mono (by decide)) rfl T.D_l_hall.g T.D_l_hall.F.kp T.D_l_hall.b .nil pass0 (pa_cons (pv 1) (pa_cons (pv 2) pa_nil))) (pv 8) (nomark _)) (pe_one (pe_cmpR (eqD K hr.units) (pv 7) (pv 2) (nomark _))))))))))))))))))), ?_⟩
    refine ⟨_, rfl, a0, ns, 0, rfl, hS, _, rfl, fun z rz H1 hrz x1 hz => ?_⟩
    obtain ⟨L, Y, zz, rfl, L1, L2, Y1, Y2⟩ := hrz
    refine ⟨_, rfl, _, rfl, a0, z, ns, L, Y, zz, rfl, x1.seq hS, hz, L1, L2, Y1, Y2, fun p as ps H2 np x2 hp hE hb few => ?_⟩
    have x02 := x1.trans x2
    refine ⟨_, rfl, a0, ns, 1, rfl, x02.seq hS, ?_⟩
    generalize ns.getD 1 0 = cell
    refine ⟨by show 2 ≤ sizeLine; decide, fun du ndu => ?_⟩
    refine newO W (H := H2) (p := du) ndu fun H3 x3 hdu => ?_
    have x23 := x2.trans x3
    have x03 := x02.trans x3
    have hz3 := x23.tup hz
    have hp3 := x3.lst hp
    have hE3 := x3.each hE
    obtain ⟨hP3, el⟩ := pairs_at (SqL.of hp3) hE3 hb few
    refine ⟨_, rfl, _, _, rfl, rfl, (by show (0 : Int) < 5; decide), rfl, _, rfl, ?_⟩
    have htab : ∀ {G : Hp}, Ext W H G → ∀ p ∈ W.l, LamX.TabS G p.1 p.2 := fun x p hp => x.l p hp (tabs p hp)
    refine (Decidable.em (V.int (cell % 5) = V.int 1)).elim (fun c1 => ?t1) (fun c1 => ?t2)
    case' t1 =>
      rw [decide_eq_true (show V.int ((fun i j => i % j) cell 5) = V.int 1 from c1)]
      refine iteT ?_
      refine ⟨_, rfl, by show 0 ≤ sizeLine; decide, fun em nem => ?_⟩
      refine newO W (H := H3) (p := em) nem fun H4 x4 hem => ?_
      have hp4 := x4.lst hp3
      have hE4 := x4.each hE3
      have hP4 := hP3.ext x4
      have x04 := x03.trans x4
      have hz4 := x4.tup hz3
      have hdu4 := x4.tp hdu
      refine ⟨rowsD (ps.map prI), rowsD [], dp_rows ⟨as, SqL.of hp4, hE4⟩, dp_rows ⟨[], SqL.of hem, .nil⟩, (rowsD_ok _).shaped, (rowsD_ok _).shaped, _, rfl, ?_⟩
      rw [eqv_rows]
      refine (Decidable.em (ps = [])).elim (fun ne => ?t3) (fun ne => ?t4)
    case' t2 =>
      rw [decide_eq_false (show ¬ V.int ((fun i j => i % j) cell 5) = V.int 1 from c1)]
      refine iteF (iteF ?_)
      have x5 := x03
      have hz5 := hz3
      have hd5 := hdu
      have hP5 := hP3
      have hE5 := hE3
      refine (Decidable.em (ps.length ≤ 40)).elim (fun c40 => ?t2A) (fun c40 => ?t2B)
    case' t3 =>
      rw [decide_eq_true (show ps.map prI = [] by rw [ne]; rfl)]
      refine iteF ?_
      have x5 := x04
      have hz5 := hz4
      have hd5 := hdu4
      have hP5 := hP4
      have hE5 := hE4
      refine (Decidable.em (ps.length ≤ 40)).elim (fun c40 => ?t3A) (fun c40 => ?t3B)
    case' t4 =>
      have pne : ps ≠ [] := ne
      rw [decide_eq_false (show ¬ ps.map prI = [] from fun z => pne (List.map_eq_nil_iff.mp z))]
      refine iteT ?_
      have lps : 0 < ps.length := List.length_pos_iff.mpr pne
      have las : 0 < as.length := by omega
      refine ⟨_, rfl, _, _, rfl, rfl, ⟨by decide, by decide⟩, _, rfl, p, _, rfl, .inl (SqL.of hp4), _, _, rfl, rfl, ?_, ?_⟩
      · show (0 : Int) < (((as.map V.ref).length : Nat) : Int)
        rw [List.length_map]
        omega
      dsimp only
      rw [List.length_map]
      obtain ⟨ix, eix, lix⟩ : ∃ ix : Nat, cell / 5 % ((as.length : Nat) : Int) = (ix : Nat) ∧ ix < as.length := by
        have h0 := Int.emod_nonneg (cell / 5) (show ((as.length : Nat) : Int) ≠ 0 by omega)
        have h1 := Int.emod_lt_of_pos (cell / 5) (show (0 : Int) < ((as.length : Nat) : Int) by omega)
        exact ⟨(cell / 5 % ((as.length : Nat) : Int)).toNat, by omega, by omega⟩
      rw [eix]
      have S2 : 2 ≤ sizeLine := by decide
      refine ⟨_, rfl, z, _, _, _, rfl, rfl, hz4, atI_nat (j := 0) rfl, S2, fun o0 n0 => ?_⟩
      refine newO W (H := H4) (p := o0) n0 fun G0 y0 h0 => ?_
      refine ⟨_, rfl, z, _, _, _, rfl, rfl, y0.tup hz4, atI_nat (j := 1) rfl, S2, fun o1 n1 => ?_⟩
      refine newO W (H := G0) (p := o1) n1 fun G1 y1 h1 => ?_
      refine ⟨_, rfl, S2, fun o2 n2 => ?_⟩
      refine newO W (H := G1) (p := o2) n2 fun G2 y2 h2 => ?_
      refine ⟨S2, fun o3 n3 => ?_⟩
      refine newO W (H := G2) (p := o3) n3 fun G3 y3 h3 => ?_
      refine ⟨S2, fun o4 n4 => ?_⟩
      refine newO W (H := G3) (p := o4) n4 fun G4 y4 h4 => ?_
      refine ⟨S2, fun o5 n5 => ?_⟩
      refine newO W (H := G4) (p := o5) n5 fun G5 y5 h5 => ?_
      refine ⟨by show 6 ≤ sizeLine; decide, fun lo nlo => ?_⟩
      refine newO W (H := G5) (p := lo) nlo fun G6 y6 hlo => ?_
      have w16 := y2.trans (y3.trans (y4.trans (y5.trans y6)))
      have w06 := y0.trans (y1.trans w16)
      have bad2 : ∀ {v : V} {y : Nat}, isIn v 0 ((y : Nat) - 1) = false → ∀ b : Bool, (b && isIn v 0 ((y : Nat) - 1)) = false := fun h b => by rw [h, Bool.and_false]
      have big : ∀ y : Nat, isIn (V.int (y : Nat)) 0 ((y : Nat) - 1) = false := fun y => by
        show (decide ((0 : Int) ≤ (y : Nat)) && decide (((y : Nat) : Int) ≤ (y : Nat) - 1)) = false
        rw [decide_eq_false (show ¬ ((y : Nat) : Int) ≤ (y : Nat) - 1 by omega), Bool.and_false]
      obtain ⟨m6, em6, lm6⟩ : ∃ m : Nat, cell / 250 % 6 = (m : Nat) ∧ m < 6 := ⟨(cell / 250 % 6).toNat, by omega, by omega⟩
      refine ⟨_, rfl, _, _, rfl, rfl, ⟨by decide, by decide⟩, _, _, rfl, rfl, (by show (0 : Int) < 6; decide), ?_⟩
      dsimp only
      rw [em6]
      obtain ⟨o, v1, v2, q1, q2, eo, hq, hq1, hq2, hin⟩ : ∃ (o : Addr) (v1 v2 : V) (q1 q2 : String), ([V.ref o0, V.ref o1, V.ref o2, V.ref o3, V.ref o4, V.ref o5] : List V)[m6]? = some (V.ref o) ∧ SqT K G6 o [v1, v2] ∧ TyB K G6 v1 q1 ∧ TyB K G6 v2 q2 ∧
          (isIn v1 0 ((L : Nat) - 1) && isIn v2 0 ((Y : Nat) - 1)) = false := by
        match m6, lm6 with
        | 0, _ => exact ⟨o0, _, _, _, _, rfl, .inl (.inl ((y1.trans w16).tp h0)), .int _, .int _, by rw [big L]; rfl⟩
        | 1, _ => exact ⟨o1, _, _, _, _, rfl, .inl (.inl (w16.tp h1)), .int _, .int _, bad2 (big Y) _⟩
        | 2, _ => exact ⟨o2, _, _, _, _, rfl, .inl (.inl ((y3.trans (y4.trans (y5.trans y6))).tp h2)), .int _, .int _, rfl⟩
        | 3, _ => exact ⟨o3, _, _, _, _, rfl, .inl (.inl ((y4.trans (y5.trans y6)).tp h3)), .int _, .non, bad2 rfl _⟩
        | 4, _ => exact ⟨o4, _, _, _, _, rfl, .inl (.inl ((y5.trans y6).tp h4)), .bl _, .int _, rfl⟩
        | 5, _ => exact ⟨o5, _, _, _, _, rfl, .inl (.inl (y6.tp h5)), .str _, .int _, rfl⟩
      refine ⟨lo, _, _, _, rfl, rfl, SqL.of hlo, atI_nat eo, ?_⟩
      have hp6 := w06.lst hp4
      refine ⟨_, rfl, _, rfl, _, rfl, p, _, rfl, SqL.of hp6, fun s1 ns1 => ?_⟩
      rw [cut_j]
      refine newO W (H := G6) (p := s1) ns1 fun G7 y7 hs1 => ?_
      refine ⟨_, rfl, by show 1 ≤ sizeLine; decide, fun s2 ns2 => ?_⟩
      refine newO W (H := G7) (p := s2) ns2 fun G8 y8 hs2 => ?_
      have few43 : as.length ≤ 43 := by omega
      refine ⟨s1, s2, _, _, rfl, rfl, y8.lst hs1, hs2, ?_, fun s3 ns3 => ?_⟩
      · rw [List.length_take, List.length_map]
        show min ix as.length + 1 ≤ sizeLine
        exact Nat.le_of_lt (small1000 (by omega))
      refine newO W (H := G8) (p := s3) ns3 fun G9 y9 hs3 => ?_
      have hp9 := y9.lst (y8.lst (y7.lst hp6))
      refine ⟨_, rfl, _, rfl, _, _, rfl, rfl, _, rfl, p, _, rfl, SqL.of hp9, fun s4 ns4 => ?_⟩
      rw [show ((ix : Nat) : Int) + 1 = ((ix + 1 : Nat) : Int) by omega, cut_i]
      refine newO W (H := G9) (p := s4) ns4 fun G10 y10 hs4 => ?_
      refine ⟨s3, s4, _, _, rfl, rfl, y10.lst hs3, hs4, ?_, fun s5 ns5 => ?_⟩
      · rw [List.length_append, List.length_take, List.length_drop, List.length_map]
        show min ix as.length + 1 + (as.length - (ix + 1)) ≤ sizeLine
        exact Nat.le_of_lt (small1000 (by omega))
      refine newO W (H := G10) (p := s5) ns5 fun G11 y11 hs5 => ?_
      have w6 : Ext W G6 G11 := y7.trans (y8.trans (y9.trans (y10.trans y11)))
      have x5 : Ext W H G11 := x04.trans (w06.trans w6)
      have hz5 := (w06.trans w6).tup hz4
      have hd5 := (w06.trans w6).tp hdu4
      have e5 : List.take ix (as.map V.ref) ++ [V.ref o] ++ List.drop (ix + 1) (as.map V.ref) = (as.take ix ++ [o] ++ as.drop (ix + 1)).map V.ref := by
        rw [List.map_append, List.map_append, List.map_take, List.map_drop]
        rfl
      rw [e5] at hs5
      obtain ⟨hP5, l5, at5⟩ := pairs_put (hP4.ext (w06.trans w6)) lix (SqL.of hs5) el
      refine ⟨_, rfl, _, _, rfl, rfl, _, rfl, ?_⟩
      refine (Decidable.em (((ix : Nat) : Int) ≤ 40)).elim (fun c40 => ?t4A) (fun c40 => ?t4B)
      case' t4A =>
        rw [decide_eq_true c40]
        refine iteT ?_
        refine ⟨_, rfl, _, rfl, z, s5, L, Y, zz, _, _, rfl, hz5, L1, L2, Y1, Y2, hP5, by omega, htab x5, .inr ⟨true, ⟨o, v1, v2, q1, q2, by rw [l5]; exact at5, w6.tup hq, TyB.ext (S := []) w6 hq1, TyB.ext (S := []) w6 hq2, hin, fun z => by cases z⟩, fun t G12 nt x12 ht => ?_⟩⟩
        refine ⟨by show 2 ≤ sizeLine; decide, fun u nu => ?_⟩
        refine newO W (H := G12) (p := u) nu fun G13 x13 hu => ?_
        refine ⟨twoD true false, twoD true false, dp_two (x13.tp ht), dp_two hu, (twoD_ok _ _).shaped, (twoD_ok _ _).shaped, ?_⟩
        rw [eqv_same _ (twoD_ok _ _).1]
        exact q _
      rw [decide_eq_false c40]
      refine iteF ?_
      obtain ⟨hP6, l6, st6⟩ := stop41 hP5 (by omega)
      have len5 : 40 < (as.take ix ++ [o] ++ as.drop (ix + 1)).length := by have := hP5.le; omega
      refine ⟨_, rfl, _, _, rfl, .inl hP5.s, fun hd nhd => ?_⟩
      refine newO W (H := _) (p := hd) nhd fun H6 x6 hhd => ?_
      have x06 := x5.trans x6
      refine ⟨_, rfl, _, rfl, z, hd, L, Y, zz, _, _, rfl, x6.tup hz5, L1, L2, Y1, Y2, (hP6.ext x6).list (SqL.of hhd), by omega, htab x06, .inr ⟨false, st6.ext x6, fun t H7 nt x7 ht => ?_⟩⟩
      refine ⟨_, rfl, _, _, rfl, .inl (x7.seq (x6.seq hP5.s)), _, _, rfl, rfl, _, rfl, ?_⟩
      rw [decide_eq_true (show (40 : Int) < ((List.length (List.map V.ref _) : Nat) : Int) by rw [List.length_map]; omega)]
      refine iteT ?_
      refine ⟨_, rfl, _, rfl, twoD false true, twoD false true, dp_two ht, dp_two (x7.tp (x6.tp hd5)), (twoD_ok _ _).shaped, (twoD_ok _ _).shaped, ?_⟩
      rw [eqv_same _ (twoD_ok _ _).1]
      exact q _
    case' t2B =>
      have lB : 40 < ps.length := by omega
      obtain ⟨hP6, l6, st6⟩ := stop41 hP5 lB
      have len5 : 40 < as.length := by omega
      refine ⟨_, rfl, _, _, rfl, .inl hP5.s, fun hd nhd => ?_⟩
      refine newO W (H := _) (p := hd) nhd fun H6 x6 hhd => ?_
      have x06 := x5.trans x6
      refine ⟨_, rfl, _, rfl, z, hd, L, Y, zz, _, _, rfl, x6.tup hz5, L1, L2, Y1, Y2, (hP6.ext x6).list (SqL.of hhd), by omega, htab x06, .inr ⟨false, st6.ext x6, fun t H7 nt x7 ht => ?_⟩⟩
      refine ⟨_, rfl, _, _, rfl, .inl (x7.seq (x6.seq hP5.s)), _, _, rfl, rfl, _, rfl, ?_⟩
      rw [decide_eq_true (show (40 : Int) < ((List.length (List.map V.ref _) : Nat) : Int) by rw [List.length_map]; omega)]
      refine iteT ?_
      refine ⟨_, rfl, _, rfl, twoD false true, twoD false true, dp_two ht, dp_two (x7.tp (x6.tp hd5)), (twoD_ok _ _).shaped, (twoD_ok _ _).shaped, ?_⟩
      rw [eqv_same _ (twoD_ok _ _).1]
      exact q _
    case' t3B =>
      have lB : 40 < ps.length := by omega
      obtain ⟨hP6, l6, st6⟩ := stop41 hP5 lB
      have len5 : 40 < as.length := by omega
      refine ⟨_, rfl, _, _, rfl, .inl hP5.s, fun hd nhd => ?_⟩
      refine newO W (H := _) (p := hd) nhd fun H6 x6 hhd => ?_
      have x06 := x5.trans x6
      refine ⟨_, rfl, _, rfl, z, hd, L, Y, zz, _, _, rfl, x6.tup hz5, L1, L2, Y1, Y2, (hP6.ext x6).list (SqL.of hhd), by omega, htab x06, .inr ⟨false, st6.ext x6, fun t H7 nt x7 ht => ?_⟩⟩
      refine ⟨_, rfl, _, _, rfl, .inl (x7.seq (x6.seq hP5.s)), _, _, rfl, rfl, _, rfl, ?_⟩
      rw [decide_eq_true (show (40 : Int) < ((List.length (List.map V.ref _) : Nat) : Int) by rw [List.length_map]; omega)]
      refine iteT ?_
      refine ⟨_, rfl, _, rfl, twoD false true, twoD false true, dp_two ht, dp_two (x7.tp (x6.tp hd5)), (twoD_ok _ _).shaped, (twoD_ok _ _).shaped, ?_⟩
      rw [eqv_same _ (twoD_ok _ _).1]
      exact q _
    all_goals
      refine ⟨_, rfl, _, _, rfl, .inl hP5.s, fun hd nhd => ?_⟩
      refine newO W (H := _) (p := hd) nhd fun H6 x6 hhd => ?_
      have x06 := x5.trans x6
      have hz6 := x6.tup hz5
      have hP6 := hP5.ext x6
      have hh6 := (hP5.ext x6).list (SqL.of hhd)
      have hE6 := x6.each hE5
      refine ⟨_, rfl, _, rfl, z, hd, L, Y, zz, _, _, rfl, hz6, L1, L2, Y1, Y2, hh6, c40, htab x06, .inl ⟨el, fun l H7 nl x7 hl => ?_⟩⟩
      have x07 := x06.trans x7
      refine ⟨_, rfl, _, _, rfl, .inl (x7.seq hP6.s), _, _, rfl, rfl, _, rfl, ?_⟩
      rw [decide_eq_false (show ¬ (40 : Int) < ((List.length (List.map V.ref _) : Nat) : Int) by rw [List.length_map]; omega)]
      refine iteF ?_
      -- a list of as many, whole numbers
      have hlen := huesR_len ps
      refine ⟨_, rfl, _, _, _, _, true, rfl, ClsV.ty _, .base (.lst hl), kit_ty (by decide +kernel), ⟨_, rfl, iteF ?_⟩⟩
      refine ⟨_, rfl, l, _, rfl, .inl (SqL.of hl), _, rfl, _, _, rfl, .inl (x7.seq hP6.s), rfl, _, rfl, ?_⟩
      rw [decide_eq_true (show V.int (((vN (huesR ps)).length : Nat) : Int) = V.int ((List.length (List.map V.ref as) : Nat) : Int) by rw [List.length_map, List.length_map, hlen, el])]
      refine iteF ?_
      refine ⟨_, rfl, l, rfl, ⟨_, SqL.of hl⟩, fun D nD => lc_list (K := K) (a := l) (xs := vN (huesR ps))
        (fun j G => Ext W H7 G ∧ G D = some (.lst ((List.replicate j true).map V.bl))) ⟨.new nD, upd_same⟩ (fun j G _ ⟨x, _⟩ => SqL.of (x.lst hl)) ?_ ?_⟩
      · rintro j y G2 hj ⟨xg, hD⟩
        obtain ⟨i, hi, rfl⟩ := vN_get hj
        have lt := (List.getElem?_eq_some_iff.mp hi).1
        refine ⟨rfl, yesT ?_⟩
        refine ⟨_, rfl, _, rfl, .inl ⟨_, rfl, _, hD, ?_, xg.put (.inl nD) hD, ?_⟩⟩
        · rw [List.length_map, List.length_replicate]
          exact small1000 (by omega)
        · rw [upd_same, List.replicate_succ', List.map_append]
          rfl
      rintro H8 ⟨x8, hD8⟩
      refine ⟨D, _, rfl, SqL.of hD8, _, rfl, ?_⟩
      rw [all_true]
      refine iteF ?_
      have hl8 := x8.lst hl
      have x78 := x7.trans x8
      have hp8 := x78.seq hP6.s
      have hE8 := x78.each hE6
      -- the rows
      have lz : ps.length = min (as.map V.ref).length (vN (huesR ps)).length := by
        rw [List.length_map, List.length_map, hlen, el, Nat.min_self]
      have lrow : ((hallR ps).map row).length = ps.length := by rw [List.length_map, hallR_len]
      refine ⟨_, rfl, _, rfl, _, l, _, _, rfl, hp8, SqL.of hl8, fun D1 nD1 => lc_it (walk_zip lz)
        (fun j G => ∃ rs : List Addr, Ext W H8 G ∧ G D1 = some (.lst (rs.map V.ref)) ∧ Each K G rs (((hallR ps).map row).take j)) ⟨[], .new nD1, upd_same, .nil⟩ (fun j G _ ⟨_, x, _⟩ => ⟨x.seq hp8, SqL.of (x.lst hl8)⟩) ?_ ?_⟩
      · rintro j y G0 G1 hj ⟨rs, xg, hD, hEr⟩ ⟨T0, va, vb, rfl, nT0, rfl, hva, hvb⟩
        refine newO W (H := G0) (p := T0) nT0 fun G2 y2 hT => ?_
        have xg2 := xg.trans y2
        obtain ⟨b, r, rfl, hb, hr', hq⟩ := (xg2.each hE8).val hva
        obtain ⟨h, hh, rfl⟩ := vN_get hvb
        rw [List.getElem?_map] at hr'
        obtain ⟨p', hp', rfl⟩ := Option.map_eq_some_iff.mp hr'
        obtain ⟨qr, hqr, hqm, en, el2, er2, hh2⟩ := huesR_at hp'
        have eh : h = qr.h := by
          have hh' : (huesR ps)[j]? = some h := hh
          rw [hh2] at hh'
          exact (Option.some.inj hh').symm
        refine ⟨T0, _, rfl, .inl (.inl hT), rfl, _, _, rfl, _, _, rfl, rfl, rfl, yesT ?_⟩
        refine ⟨_, rfl, _, rfl, by show 1 ≤ sizeLine; decide, fun t1 nt1 => ?_⟩
        refine newO W (H := G2) (p := t1) nt1 fun G3 y3 ht1 => ?_
        refine ⟨b, t1, _, _, rfl, rfl, y3.tup hq, .inl (.inl ht1), List.cons_ne_nil _ _, by show 3 ≤ sizeLine; decide, fun z => absurd z (List.cons_ne_nil _ _), fun _ t2 nt2 => ?_⟩
        refine newO W (H := G3) (p := t2) nt2 fun G4 y4 ht2 => ?_
        have y24 := y2.trans (y3.trans y4)
        have hD4 := y24.lst hD
        have la : rs.length < 64 := by
          have h1 := hEr.len
          rw [List.length_take, lrow] at h1
          omega
        refine ⟨_, hD4, by rw [List.length_map]; exact small1000 (by omega), rs ++ [t2], (xg.trans y24).put (.inl nD1) hD4, by rw [upd_same, List.map_append]; rfl, ?_⟩
        have hrow : ((hallR ps).map row)[j]? = some (row qr) := by rw [List.getElem?_map, hqr]; rfl
        rw [take_one hrow]
        have kp : ∀ {c : Addr} {ys : List V}, SqT K G4 c ys → SqT K (upd G4 D1 (.lst (rs.map V.ref ++ [.ref t2]))) c ys := fun {c ys} h => tup_upd hD4 (fun _ z => by cases z) (fun _ _ z => by cases z) h
        refine Each.snoc (Paired.mapP (y24.each hEr) fun c ys h => kp h) (kp (.inl (.inl ?_)))
        rw [ht2]
        show some (HO.tup [V.int (p'.1 : Nat), .int (p'.2 : Nat), .int (h : Nat)]) = some (HO.tup [V.int (qr.l : Nat), .int (qr.r : Nat), .int (qr.h : Nat)])
        rw [el2, er2, eh]
      rintro H9 ⟨rs, x9, hD9, hE9⟩
      rw [show ((hallR ps).map row).take ps.length = (hallR ps).map row from List.take_of_length_le (by rw [lrow]; exact Nat.le_refl _)] at hE9
      have x79 := x78.trans x9
      have x09 := x06.trans x79
      have hl9 := x9.lst hl8
      have hp9 := x9.seq hp8
      have hRows : Rows K H9 D1 ((hallR ps).map row) := ⟨rs, SqL.of hD9, hE9⟩
      have r3 : ∀ r ∈ (hallR ps).map row, r.length = 3 := fun r hr => by
        obtain ⟨p, _, rfl⟩ := List.mem_map.mp hr
        rfl
      have Gd := hallR_good ps
      -- good
      refine ⟨_, rfl, D1, _, rfl, hRows, r3, by rw [lrow]; omega, fun P hP => x09.g P hP (tabg P hP), fun H10 x10 => ?_⟩
      rw [row_good Gd]
      refine ⟨_, rfl, iteF ?_⟩
      -- all hues
      have hl10 := x10.lst hl9
      have e10 : vN (huesR ps) = ((huesR ps).map fun n : Nat => (n : Int)).map V.int := vN_ints _
      refine ⟨_, rfl, l, (huesR ps).map fun n : Nat => (n : Int), rfl, ?_, by rw [List.length_map, hlen]; omega, fun ys u hs hm nu => ?_⟩
      · rw [← e10]
        exact SqL.of hl10
      refine newO W (H := H10) (p := u) nu fun H11 x11 hu => ?_
      refine ⟨_, rfl, D1, _, rfl, x11.rows (x10.rows hRows), rows_len _, by rw [lrow]; omega, fun H12 x12 => ?_⟩
      have ecnt : (count ((hallR ps).map row) : Nat) = cnt (hallR ps) := rfl
      rw [ecnt]
      have cle : cnt (hallR ps) ≤ 43 := by
        have := cnt_le (hallR ps)
        rw [hallR_len] at this
        omega
      generalize ecm : cnt (hallR ps) = cm at cle
      refine ⟨_, rfl, ?_, fun E0 nE0 => ?_⟩
      · exact RgOk.of_le (by decide) (by omega) (by decide) (by omega)
      rw [range_ints]
      refine newO W (H := H12) (p := E0) nE0 fun H13 x13 hE0 => ?_
      have xu := x12.trans x13
      have eys : ys = (List.range cm).map (fun n : Nat => (n : Int)) := by
        rw [← ecm]
        exact sorted_hues hs hm (hues_all Gd)
      refine ⟨intsD ys, natsD (List.range cm), .lst (SqL.of (xu.lst hu)) (dp_ints _), dp_nats (SqL.of hE0), (intsD_ok _).shaped, (natsD_ok _).shaped, _, rfl, ?_⟩
      rw [show PyData.eqv (intsD ys) (natsD (List.range cm)) = true from by
        rw [eys]
        exact eqv_same _ (natsD_ok _).1]
      refine iteF ?_
      have x9d := x10.trans (x11.trans xu)
      have x0d := x09.trans x9d
      have hRows13 := x9d.rows hRows
      have hl13 := x9d.lst hl9
      have hP13 := hP6.ext (x79.trans x9d)
      obtain ⟨rs13, hrs13, hE13⟩ := hRows13
      have lrs := hE13.len
      rw [lrow] at lrs
      -- none before meets it
      refine ⟨_, rfl, D1, _, rfl, .inl hrs13, _, rfl, by omega, by rw [List.length_map]; omega, ?_⟩
      have en : (((rs13.map V.ref).length : Nat) : Int).toNat = ps.length := by rw [List.length_map]; omega
      rw [en]
      refine for_range (lo := 0) (n := ps.length) (fun k σ G => ∃ v12 : Option V, σ = [some (.ref a0), some (.ref z), some (.ref p), some (.int cell), some (.ref du), none, none, some (.ref hd), some (.ref l), none, some (.ref D1), none, v12, none] ∧ Ext W H13 G)
        ⟨none, rfl, .refl⟩ ?_ ?_
      · rintro k σ G hk ⟨v12, rfl, x⟩
        have ez : ((0 : Int) + (k : Nat)) = (k : Nat) := by omega
        rw [ez]
        obtain ⟨qk, hqk, hqkm, enk, elk, erk, hhk⟩ := huesR_at (List.getElem?_eq_getElem hk)
        have hrsG := x.seq hrs13
        refine ⟨_, rfl, _, rfl, _, rfl, D1, _, rfl, hrsG, fun sl nsl => ?_⟩
        rw [cut_j]
        refine newO W (H := G) (p := sl) nsl fun G1 x1' hsl => ?_
        have x1G := x.trans x1'
        refine ⟨sl, rfl, ⟨_, SqL.of hsl⟩, fun D2 nD2 => lc_list (K := K) (a := sl) (xs := (rs13.map V.ref).take k)
          (fun j G2 => Ext W G1 G2 ∧ G2 D2 = some (.lst [])) ⟨.new nD2, upd_same⟩ (fun j G2 _ ⟨x2, _⟩ => SqL.of (x2.lst hsl)) ?_ ?_⟩
        · rintro j y G2 hj ⟨x2, hD2⟩
          have jl := (List.getElem?_eq_some_iff.mp hj).1
          rw [List.length_take] at jl
          rw [List.getElem?_take, if_pos (by omega)] at hj
          have xG2 := x1G.trans x2
          obtain ⟨b, r, rfl, hb, hr', hq⟩ := (xG2.each hE13).val hj
          rw [List.getElem?_map] at hr'
          obtain ⟨pj, hpj, rfl⟩ := Option.map_eq_some_iff.mp hr'
          obtain ⟨_, enj⟩ := hallR_at hpj
          have hpjm := List.mem_of_getElem? hpj
          have njk : pj ≠ qk := fun e => by
            rw [e, enk] at enj
            omega
          have hlG := xG2.lst hl13
          have hfk : (vN (huesR ps))[k]? = some (V.int (qk.h : Nat)) := by
            unfold vN
            rw [List.getElem?_map, hhk]
            rfl
          refine ⟨rfl, ?_⟩
          refine ⟨_, rfl, b, _, _, _, rfl, rfl, hq, atI_nat (j := 2) rfl, _, rfl, _, rfl, l, _, _, _, rfl, rfl, SqL.of hlG, atI_nat (j := k) hfk, rfl, _, rfl, ?_⟩
          refine (Decidable.em (pj.h = qk.h)).elim (fun ch => ?h1) (fun ch => ?h2)
          case h2 =>
            rw [decide_eq_false (show ¬ V.int ((pj.h : Nat) : Int) = V.int ((qk.h : Nat) : Int) from fun z => ch (by have := V.int.inj z; omega))]
            exact iteF (iteF ⟨x2, hD2⟩)
          case h1 =>
            rw [decide_eq_true (show V.int ((pj.h : Nat) : Int) = V.int ((qk.h : Nat) : Int) by rw [ch])]
            refine iteT ?_
            have hPG := hP13.ext xG2
            obtain ⟨_, _, bk, hbk, hqk2⟩ := hPG.at_ k _ (List.getElem?_eq_getElem hk)
            have hpk : (as.map V.ref)[k]? = some (V.ref bk) := by rw [List.getElem?_map, hbk]; rfl
            refine ⟨_, rfl, b, _, _, _, rfl, rfl, hq, atI_nat (j := 0) rfl, _, rfl, _, rfl, p, _, _, _, rfl, rfl, hPG.s, atI_nat (j := k) hpk, bk, _, _, _, rfl, rfl, hqk2, atI_nat (j := 0) rfl, rfl, _, rfl, ?_⟩
            rw [decide_eq_false (show ¬ V.int ((pj.l : Nat) : Int) = V.int ((ps[k].1 : Nat) : Int) from fun z => njk (Gd.P pj hpjm qk hqkm 0 (by decide) (by
              have := V.int.inj z
              show pj.l = qk.l
              omega) ch))]
            refine iteF ?_
            refine ⟨_, rfl, b, _, _, _, rfl, rfl, hq, atI_nat (j := 1) rfl, _, rfl, _, rfl, p, _, _, _, rfl, rfl, hPG.s, atI_nat (j := k) hpk, bk, _, _, _, rfl, rfl, hqk2, atI_nat (j := 1) rfl, rfl, _, rfl, ?_⟩
            rw [decide_eq_false (show ¬ V.int ((pj.r : Nat) : Int) = V.int ((ps[k].2 : Nat) : Int) from fun z => njk (Gd.P pj hpjm qk hqkm 1 (by decide) (by
              have := V.int.inj z
              show pj.r = qk.r
              omega) ch))]
            exact iteF ⟨x2, hD2⟩
        · rintro G2 ⟨x2, hD2⟩
          refine ⟨by show 0 ≤ sizeLine; decide, fun em nem => ?_⟩
          refine newO W (H := G2) (p := em) nem fun G3 x3' hem => ?_
          refine ⟨rowsD [], rowsD [], dp_rows ⟨[], SqL.of (x3'.lst hD2), .nil⟩, dp_rows ⟨[], SqL.of hem, .nil⟩, (rowsD_ok _).shaped, (rowsD_ok _).shaped, _, rfl, ?_⟩
          rw [eqv_rows, decide_eq_true rfl]
          exact iteF ⟨_, rfl, x1G.trans (x2.trans x3')⟩
      · rintro σ G ⟨v12, rfl, x⟩
        have xG := x79.trans (x9d.trans x)
        have xH := x06.trans xG
        have hzG := xG.tup hz6
        have hlG := x.lst hl13
        refine ⟨_, rfl, _, rfl, z, hd, L, Y, zz, _, _, rfl, hzG, L1, L2, Y1, Y2, hh6.ext xG, c40, htab xH, .inl ⟨el, fun l2 G1 nl2 x1' hl2 => ?_⟩⟩
        refine ⟨_, rfl, natsD _, natsD _, dp_nats (SqL.of hl2), dp_nats (SqL.of (x1'.lst hlG)), (natsD_ok _).shaped, (natsD_ok _).shaped, ?_⟩
        rw [eqv_natsD, decide_eq_true rfl]
        refine ⟨_, rfl, iteT ?_⟩
        refine ⟨_, rfl, _, rfl, z, p, L, Y, zz, _, _, rfl, x1'.tup hzG, L1, L2, Y1, Y2, hP6.ext (xG.trans x1'), c40, htab (xH.trans x1'), el, fun l3 G2 nl3 x2' hl3 => ?_⟩
        refine ⟨_, rfl, natsD _, natsD _, dp_nats (SqL.of hl3), dp_nats (SqL.of ((x1'.trans x2').lst hlG)), (natsD_ok _).shaped, (natsD_ok _).shaped, ?_⟩
        rw [eqv_natsD, decide_eq_true rfl]
        refine ⟨_, rfl, iteT ?_⟩
        have xE := xG.trans (x1'.trans x2')
        refine ⟨_, rfl, _, rfl, rowsD (ps.map prI), rowsD (ps.map prI), dp_rows ⟨as, (hh6.ext xE).s, xE.each hE6⟩, dp_rows ⟨as, (hP6.ext xE).s, xE.each hE6⟩, (rowsD_ok _).shaped, (rowsD_ok _).shaped, ?_⟩
        rw [eqv_rows, decide_eq_true rfl]
        exact q _
end
end My

set_option Elab.async false
set_option linter.all false
set_option maxRecDepth 100000
set_option maxHeartbeats 4000000
namespace My
open PySem PySem.Spec PyProof.Rows L2 Own

theorem tab_mk {K : PySem.W.Frag} {x : Str} {f c PT : Addr} {oc ec : Value} {od dc : Option Addr} {fd : FuncData} {sl slc : Array (Option Value)} {vs : Array Value}
    (a : PySem.W.nsIn K mainGlobals x = some (some (.ref f))) (l : K.lookup f = some ⟨oc, od, .func fd, sl⟩) (hc : fd.code = .ref c)
    (lc : K.lookup c = some ⟨ec, dc, .fields vs, slc⟩) (v : vs[11]? = some (.ref PT)) : PySem.W.tabIn K x = some (c, PT) := by
  unfold PySem.W.tabIn
  simp only [a, l, hc, lc, v]
/-- the end of a law whose text makes a lambda in one def and a generator expression in another: both tables stand in ts -/
theorem walk_tab {l : PySem.W.OpenLaw} {n k : Nat} {q : Program} {loose : List Str} {XP : (Str → Option Value) → Heap → Prop} {YP : World → Heap → Prop}
    {d : DefRec} {K : Params → PySem.W.Frag} {x : Str} {sp : World → Addr → Addr → Sp} {ts : List Addr}
    (hn : l.most = some n) (hn2 : n ≤ sizeLine) (hdf : d.params.defaults = []) (hr : Room k callerA)
    (hrec : ((recsOf q).any fun e => e.name == ("is_good" : Str)) = true) (hY : ∀ (w : World) (h : Heap), YP w h → (K w.params).In h) (hZ : ∀ (w : World) (h : Heap), YP w h → ∀ p ∈ ts, h.get? p = some { cls := .none, data := .fields #[] })
    (F : ∀ (w : World) (mg : Str → Option Value) (fa : Addr) (h : Heap), (K w.params).In h → h.Ns mainGlobals mg → mg d.name = some (.ref fa) →
      ∃ (c PT cg PG : Addr) (fd : FuncData), PySem.W.codeHdIn (K w.params) c PT = true ∧ PT ∈ ts ∧ (K w.params).lookup PT = none ∧ PySem.W.tabIn (K w.params) "is_good" = some (cg, PG) ∧ (K w.params).lookup PG = none ∧ PT ≠ PG ∧
        (∀ (s : Shared) (v : Value), BindsTo s fd ⟨[v], []⟩ [(x, v)]) ∧
        ∀ base : Heap, (K w.params).In base → base.Ns mainGlobals mg → LamX.TabB base mg c PT → GxR.TabB base mg cg PG → FnOk l.prog w (K w.params) mg base CX0 k fa fd [x] (sp w PT PG))
    (hsp : ∀ (w : World) (PT PG : Addr) (H : Hp) (a : Addr) (ns : List Int), ns.length ≤ n → (∀ z ∈ ns, Builtin.Int.intBits z ≤ 1048576) → H PT = some (.tbl #[]) → H PG = some (.tbl #[]) →
      SqL (K w.params) H a (ns.map V.int) → sp w PT PG [.ref a] H (fun v _ => v = .bl true) fun _ _ _ => False) :
    PySem.W.WalkO q loose XP YP l.row.toRowW d [] (fun f vs => PySem.call f vs) := by
  refine Att.attach_callB hn hdf ?_
  intro w s₀ s₁ mg mb fa o pm cd doc a vs ns G Y ho hd hcd hmg hobj hints hlen hbits hg
  have KX := hY w _ Y
  obtain ⟨c, PT, cg, PG, fd, hc, hin, hno, ht, hnog, hne, hb, hF⟩ := F w mg fa _ KX G.T.g hmg
  obtain ⟨e, he, hen⟩ := List.any_eq_true.mp hrec
  have hfind : ∃ e', (recsOf q).find? (fun e => e.name == ("is_good" : Str)) = some e' := by
    cases hf : (recsOf q).find? (fun e => e.name == ("is_good" : Str)) with
    | some e' => exact ⟨e', rfl⟩
    | none => exact absurd hen (List.find?_eq_none.mp hf e he)
  obtain ⟨e', he'⟩ := hfind
  obtain ⟨tc, tt⟩ := PySem.W.tab_of G.T KX he' ht
  have two : ∀ {R : Addr × Addr → Prop}, R (c, PT) → R (cg, PG) → ∀ p ∈ [(c, PT), (cg, PG)], R p := fun h1 h2 p hp => by
    rcases List.mem_cons.mp hp with z | z
    · rw [z]; exact h1
    · rw [List.mem_singleton.mp z]; exact h2
  refine LamX.law_callTs (cs := [(c, PT), (cg, PG)]) (sp := sp w PT PG) (CX := CX0) KX G.T.g G.T.b G.T.builtins G.T.nolimit hg ?_ ?_ ?_ G.T.bmain hobj hints (Nat.le_trans hlen hn2) hr ?_ hb ?_ ?_
  · exact two (hZ w _ Y _ hin) tt
  · exact two hno hnog
  · exact two (PySem.W.codeHd_of_K KX hc) tc
  · intro base h1 h2 h3
    have t := h3 (c, PT) List.mem_cons_self
    have u := h3 (cg, PG) (List.mem_cons_of_mem _ List.mem_cons_self)
    exact hF base h1 h2 ⟨t.code, t.bm, t.gP⟩ ⟨u.code, u.bm, u.gP⟩
  · intro H hH hS
    exact hsp w PT PG H a ns hlen hbits (hH (c, PT) List.mem_cons_self) (hH (cg, PG) (List.mem_cons_of_mem _ List.mem_cons_self)) hS
  · intro H e s' z
    exact z
/-- what the law's text has written: all that is asked of it -/
theorem txt_mk {K : PySem.W.Frag} {h : Heap} {mg : Str → Option Value} {C_Hall E_PairError E_BadCount E_BadSide E_BadEnd E_TooMany E_NoPair E_BadHue E_NotFree f0 f1 f2 f3 f4 f5 f6 f7 f8 f9 f10 f11 f12 f13 f14 f15 f16 f17 f18 f19 f20 f21 f22 f23 f24 f25 f26 f27 f28 f29 f30 f31 f32 f33 f34 f35 f36 f37 f38 f39 f40 : Addr} {c PT cg PG : Addr} (X : K.In h) (G : h.Ns mainGlobals mg)
    {od0 an0 od1 an1 od2 an2 od3 an3 od4 an4 od5 an5 od6 an6 od7 an7 od8 an8 od9 an9 od10 an10 od11 an11 od12 an12 od13 an13 od14 an14 od15 an15 od16 an16 od17 an17 od18 an18 od19 an19 od20 an20 od21 an21 od22 an22 od23 an23 od24 an24 od25 an25 od26 an26 od27 an27 od28 an28 od29 an29 od30 an30 od31 an31 od32 an32 od33 an33 od34 an34 od35 an35 od36 an36 od37 an37 od38 an38 od39 an39 od40 an40 : Option Addr} {sl0 sl1 sl2 sl3 sl4 sl5 sl6 sl7 sl8 sl9 sl10 sl11 sl12 sl13 sl14 sl15 sl16 sl17 sl18 sl19 sl20 sl21 sl22 sl23 sl24 sl25 sl26 sl27 sl28 sl29 sl30 sl31 sl32 sl33 sl34 sl35 sl36 sl37 sl38 sl39 sl40 : Array (Option Value)}
    {oc0 kV0 dc0 pm0 ct0 cd0 oc1 kV1 dc1 pm1 ct1 cd1 oc2 kV2 dc2 pm2 ct2 oc3 kV3 dc3 pm3 ct3 cd3 oc4 kV4 dc4 pm4 ct4 cd4 oc5 kV5 dc5 pm5 ct5 cd5 oc6 kV6 dc6 pm6 ct6 cd6 oc7 kV7 dc7 pm7 ct7 cd7 oc8 kV8 dc8 pm8 ct8 oc9 kV9 dc9 pm9 ct9 cd9 oc10 kV10 dc10 pm10 ct10 cd10 oc11 kV11 dc11 pm11 ct11 cd11 oc12 kV12 dc12 pm12 ct12 cd12 oc13 kV13 dc13 pm13 ct13 cd13 oc14 kV14 dc14 pm14 ct14 cd14 oc15 kV15 dc15 pm15 ct15 cd15 oc16 kV16 dc16 pm16 ct16 cd16 oc17 kV17 dc17 pm17 ct17 cd17 oc18 kV18 dc18 pm18 ct18 cd18 oc19 kV19 dc19 pm19 ct19 cd19 oc20 kV20 dc20 pm20 ct20 cd20 oc21 kV21 dc21 pm21 ct21 cd21 oc22 kV22 dc22 pm22 ct22 cd22 oc23 kV23 dc23 pm23 ct23 cd23 oc24 kV24 dc24 pm24 ct24 cd24 oc25 kV25 dc25 pm25 ct25 cd25 oc26 kV26 dc26 pm26 ct26 cd26 oc27 kV27 dc27 pm27 ct27 cd27 oc28 kV28 dc28 pm28 ct28 cd28 oc29 kV29 dc29 pm29 ct29 cd29 oc30 kV30 dc30 pm30 ct30 cd30 oc31 kV31 dc31 pm31 ct31 cd31 oc32 kV32 dc32 pm32 ct32 cd32 oc33 kV33 dc33 pm33 ct33 cd33 oc34 kV34 dc34 pm34 ct34 cd34 oc35 kV35 dc35 pm35 ct35 cd35 oc36 kV36 dc36 pm36 ct36 cd36 oc37 kV37 dc37 pm37 ct37 cd37 oc38 kV38 dc38 pm38 ct38 cd38 oc39 kV39 dc39 pm39 ct39 cd39 oc40 kV40 dc40 pm40 ct40 cd40 : Value} {t_c_HUE t_c_LEFT t_c_MOST_ENDS t_c_MOST_PAIRS t_c_RIGHT : Tok}
    (a0 : PySem.W.nsIn K mainGlobals "_wall" = some (some (.ref f0)))
    (l0 : K.lookup f0 = some ⟨oc0, od0, .func (PySem.W.fnOf "_wall" "_wall" (defArgs s_wall) (defBody s_wall) (defScope s_wall) .none kV0 dc0 pm0 an0 cd0 ct0), sl0⟩) (c0 : PySem.W.codeIn K cd0 "_wall" = true) (k0 : PySem.W.keepIn K (.ref f0) = true)
    (a1 : PySem.W.nsIn K mainGlobals "count_of" = some (some (.ref f1)))
    (l1 : K.lookup f1 = some ⟨oc1, od1, .func (PySem.W.fnOf "count_of" "count_of" (defArgs s_count_of) (defBody s_count_of) (defScope s_count_of) .none kV1 dc1 pm1 an1 cd1 ct1), sl1⟩) (c1 : PySem.W.codeIn K cd1 "count_of" = true) (k1 : PySem.W.keepIn K (.ref f1) = true)
    (a2 : PySem.W.nsIn K mainGlobals "is_good" = some (some (.ref f2)))
    (l2 : K.lookup f2 = some ⟨oc2, od2, .func (PySem.W.fnOf "is_good" "is_good" (defArgs s_is_good) (defBody s_is_good) (defScope s_is_good) .none kV2 dc2 pm2 an2 (.ref cg) ct2), sl2⟩) (c2 : PySem.W.codeIn K (.ref cg) "is_good" = true) (k2 : PySem.W.keepIn K (.ref f2) = true)
    (a3 : PySem.W.nsIn K mainGlobals "_most_at" = some (some (.ref f3)))
    (l3 : K.lookup f3 = some ⟨oc3, od3, .func (PySem.W.fnOf "_most_at" "_most_at" (defArgs s_most_at) (defBody s_most_at) (defScope s_most_at) .none kV3 dc3 pm3 an3 cd3 ct3), sl3⟩) (c3 : PySem.W.codeIn K cd3 "_most_at" = true) (k3 : PySem.W.keepIn K (.ref f3) = true)
    (a4 : PySem.W.nsIn K mainGlobals "_hues_differ" = some (some (.ref f4)))
    (l4 : K.lookup f4 = some ⟨oc4, od4, .func (PySem.W.fnOf "_hues_differ" "_hues_differ" (defArgs s_hues_differ) (defBody s_hues_differ) (defScope s_hues_differ) .none kV4 dc4 pm4 an4 cd4 ct4), sl4⟩) (c4 : PySem.W.codeIn K cd4 "_hues_differ" = true) (k4 : PySem.W.keepIn K (.ref f4) = true)
    (a5 : PySem.W.nsIn K mainGlobals "table_of" = some (some (.ref f5)))
    (l5 : K.lookup f5 = some ⟨oc5, od5, .func (PySem.W.fnOf "table_of" "table_of" (defArgs s_table_of) (defBody s_table_of) (defScope s_table_of) .none kV5 dc5 pm5 an5 cd5 ct5), sl5⟩) (c5 : PySem.W.codeIn K cd5 "table_of" = true) (k5 : PySem.W.keepIn K (.ref f5) = true)
    (a6 : PySem.W.nsIn K mainGlobals "free_at" = some (some (.ref f6)))
    (l6 : K.lookup f6 = some ⟨oc6, od6, .func (PySem.W.fnOf "free_at" "free_at" (defArgs s_free_at) (defBody s_free_at) (defScope s_free_at) .none kV6 dc6 pm6 an6 cd6 ct6), sl6⟩) (c6 : PySem.W.codeIn K cd6 "free_at" = true) (k6 : PySem.W.keepIn K (.ref f6) = true)
    (a7 : PySem.W.nsIn K mainGlobals "chain_at" = some (some (.ref f7)))
    (l7 : K.lookup f7 = some ⟨oc7, od7, .func (PySem.W.fnOf "chain_at" "chain_at" (defArgs s_chain_at) (defBody s_chain_at) (defScope s_chain_at) .none kV7 dc7 pm7 an7 cd7 ct7), sl7⟩) (c7 : PySem.W.codeIn K cd7 "chain_at" = true) (k7 : PySem.W.keepIn K (.ref f7) = true)
    (a8 : PySem.W.nsIn K mainGlobals "place" = some (some (.ref f8)))
    (l8 : K.lookup f8 = some ⟨oc8, od8, .func (PySem.W.fnOf "place" "place" (defArgs s_place) (defBody s_place) (defScope s_place) .none kV8 dc8 pm8 an8 (.ref c) ct8), sl8⟩) (c8 : PySem.W.codeIn K (.ref c) "place" = true) (k8 : PySem.W.keepIn K (.ref f8) = true)
    (a9 : PySem.W.nsIn K mainGlobals "_far_side" = some (some (.ref f9)))
    (l9 : K.lookup f9 = some ⟨oc9, od9, .func (PySem.W.fnOf "_far_side" "_far_side" (defArgs s_far_side) (defBody s_far_side) (defScope s_far_side) .none kV9 dc9 pm9 an9 cd9 ct9), sl9⟩) (c9 : PySem.W.codeIn K cd9 "_far_side" = true) (k9 : PySem.W.keepIn K (.ref f9) = true)
    (a10 : PySem.W.nsIn K mainGlobals "_ways" = some (some (.ref f10)))
    (l10 : K.lookup f10 = some ⟨oc10, od10, .func (PySem.W.fnOf "_ways" "_ways" (defArgs s_ways) (defBody s_ways) (defScope s_ways) .none kV10 dc10 pm10 an10 cd10 ct10), sl10⟩) (c10 : PySem.W.codeIn K cd10 "_ways" = true) (k10 : PySem.W.keepIn K (.ref f10) = true)
    (a11 : PySem.W.nsIn K mainGlobals "_turn" = some (some (.ref f11)))
    (l11 : K.lookup f11 = some ⟨oc11, od11, .func (PySem.W.fnOf "_turn" "_turn" (defArgs s_turn) (defBody s_turn) (defScope s_turn) .none kV11 dc11 pm11 an11 cd11 ct11), sl11⟩) (c11 : PySem.W.codeIn K cd11 "_turn" = true) (k11 : PySem.W.keepIn K (.ref f11) = true)
    (a12 : PySem.W.findIn K (.ref C_Hall) "__init__" = some (some (.ref f12))) (i12 : PySem.W.isFn K (.ref f12) = true)
    (l12 : K.lookup f12 = some ⟨oc12, od12, .func (PySem.W.fnOf "__init__" "Hall.__init__" (defArgs s_Hall_init) (defBody s_Hall_init) (defScope s_Hall_init) .none kV12 dc12 pm12 an12 cd12 ct12), sl12⟩) (c12 : PySem.W.codeIn K cd12 "Hall.__init__" = true) (k12 : PySem.W.keepIn K (.ref f12) = true)
    (a13 : PySem.W.findIn K (.ref C_Hall) "come" = some (some (.ref f13))) (i13 : PySem.W.isFn K (.ref f13) = true)
    (l13 : K.lookup f13 = some ⟨oc13, od13, .func (PySem.W.fnOf "come" "Hall.come" (defArgs s_Hall_come) (defBody s_Hall_come) (defScope s_Hall_come) .none kV13 dc13 pm13 an13 cd13 ct13), sl13⟩) (c13 : PySem.W.codeIn K cd13 "Hall.come" = true) (k13 : PySem.W.keepIn K (.ref f13) = true)
    (a14 : PySem.W.findIn K (.ref C_Hall) "go" = some (some (.ref f14))) (i14 : PySem.W.isFn K (.ref f14) = true)
    (l14 : K.lookup f14 = some ⟨oc14, od14, .func (PySem.W.fnOf "go" "Hall.go" (defArgs s_Hall_go) (defBody s_Hall_go) (defScope s_Hall_go) .none kV14 dc14 pm14 an14 cd14 ct14), sl14⟩) (c14 : PySem.W.codeIn K cd14 "Hall.go" = true) (k14 : PySem.W.keepIn K (.ref f14) = true)
    (a15 : PySem.W.findIn K (.ref C_Hall) "count" = some (some (.ref f15))) (i15 : PySem.W.isFn K (.ref f15) = true)
    (l15 : K.lookup f15 = some ⟨oc15, od15, .func (PySem.W.fnOf "count" "Hall.count" (defArgs s_Hall_count) (defBody s_Hall_count) (defScope s_Hall_count) .none kV15 dc15 pm15 an15 cd15 ct15), sl15⟩) (c15 : PySem.W.codeIn K cd15 "Hall.count" = true) (k15 : PySem.W.keepIn K (.ref f15) = true)
    (a16 : PySem.W.findIn K (.ref C_Hall) "pairs" = some (some (.ref f16))) (i16 : PySem.W.isFn K (.ref f16) = true)
    (l16 : K.lookup f16 = some ⟨oc16, od16, .func (PySem.W.fnOf "pairs" "Hall.pairs" (defArgs s_Hall_pairs) (defBody s_Hall_pairs) (defScope s_Hall_pairs) .none kV16 dc16 pm16 an16 cd16 ct16), sl16⟩) (c16 : PySem.W.codeIn K cd16 "Hall.pairs" = true) (k16 : PySem.W.keepIn K (.ref f16) = true)
    (a17 : PySem.W.findIn K (.ref C_Hall) "hue_of" = some (some (.ref f17))) (i17 : PySem.W.isFn K (.ref f17) = true)
    (l17 : K.lookup f17 = some ⟨oc17, od17, .func (PySem.W.fnOf "hue_of" "Hall.hue_of" (defArgs s_Hall_hue_of) (defBody s_Hall_hue_of) (defScope s_Hall_hue_of) .none kV17 dc17 pm17 an17 cd17 ct17), sl17⟩) (c17 : PySem.W.codeIn K cd17 "Hall.hue_of" = true) (k17 : PySem.W.keepIn K (.ref f17) = true)
    (a18 : PySem.W.findIn K (.ref C_Hall) "of_hue" = some (some (.ref f18))) (i18 : PySem.W.isFn K (.ref f18) = true)
    (l18 : K.lookup f18 = some ⟨oc18, od18, .func (PySem.W.fnOf "of_hue" "Hall.of_hue" (defArgs s_Hall_of_hue) (defBody s_Hall_of_hue) (defScope s_Hall_of_hue) .none kV18 dc18 pm18 an18 cd18 ct18), sl18⟩) (c18 : PySem.W.codeIn K cd18 "Hall.of_hue" = true) (k18 : PySem.W.keepIn K (.ref f18) = true)
    (a19 : PySem.W.findIn K (.ref C_Hall) "free" = some (some (.ref f19))) (i19 : PySem.W.isFn K (.ref f19) = true)
    (l19 : K.lookup f19 = some ⟨oc19, od19, .func (PySem.W.fnOf "free" "Hall.free" (defArgs s_Hall_free) (defBody s_Hall_free) (defScope s_Hall_free) .none kV19 dc19 pm19 an19 cd19 ct19), sl19⟩) (c19 : PySem.W.codeIn K cd19 "Hall.free" = true) (k19 : PySem.W.keepIn K (.ref f19) = true)
    (a20 : PySem.W.findIn K (.ref C_Hall) "fullest" = some (some (.ref f20))) (i20 : PySem.W.isFn K (.ref f20) = true)
    (l20 : K.lookup f20 = some ⟨oc20, od20, .func (PySem.W.fnOf "fullest" "Hall.fullest" (defArgs s_Hall_fullest) (defBody s_Hall_fullest) (defScope s_Hall_fullest) .none kV20 dc20 pm20 an20 cd20 ct20), sl20⟩) (c20 : PySem.W.codeIn K cd20 "Hall.fullest" = true) (k20 : PySem.W.keepIn K (.ref f20) = true)
    (a21 : PySem.W.findIn K (.ref C_Hall) "chain" = some (some (.ref f21))) (i21 : PySem.W.isFn K (.ref f21) = true)
    (l21 : K.lookup f21 = some ⟨oc21, od21, .func (PySem.W.fnOf "chain" "Hall.chain" (defArgs s_Hall_chain) (defBody s_Hall_chain) (defScope s_Hall_chain) .none kV21 dc21 pm21 an21 cd21 ct21), sl21⟩) (c21 : PySem.W.codeIn K cd21 "Hall.chain" = true) (k21 : PySem.W.keepIn K (.ref f21) = true)
    (a22 : PySem.W.findIn K (.ref C_Hall) "_check_end" = some (some (.ref f22))) (i22 : PySem.W.isFn K (.ref f22) = true)
    (l22 : K.lookup f22 = some ⟨oc22, od22, .func (PySem.W.fnOf "_check_end" "Hall._check_end" (defArgs s_Hall_check_end) (defBody s_Hall_check_end) (defScope s_Hall_check_end) .none kV22 dc22 pm22 an22 cd22 ct22), sl22⟩) (c22 : PySem.W.codeIn K cd22 "Hall._check_end" = true) (k22 : PySem.W.keepIn K (.ref f22) = true)
    (a23 : PySem.W.findIn K (.ref C_Hall) "_check_number" = some (some (.ref f23))) (i23 : PySem.W.isFn K (.ref f23) = true)
    (l23 : K.lookup f23 = some ⟨oc23, od23, .func (PySem.W.fnOf "_check_number" "Hall._check_number" (defArgs s_Hall_check_number) (defBody s_Hall_check_number) (defScope s_Hall_check_number) .none kV23 dc23 pm23 an23 cd23 ct23), sl23⟩) (c23 : PySem.W.codeIn K cd23 "Hall._check_number" = true) (k23 : PySem.W.keepIn K (.ref f23) = true)
    (a24 : PySem.W.findIn K (.ref C_Hall) "_check_hue" = some (some (.ref f24))) (i24 : PySem.W.isFn K (.ref f24) = true)
    (l24 : K.lookup f24 = some ⟨oc24, od24, .func (PySem.W.fnOf "_check_hue" "Hall._check_hue" (defArgs s_Hall_check_hue) (defBody s_Hall_check_hue) (defScope s_Hall_check_hue) .none kV24 dc24 pm24 an24 cd24 ct24), sl24⟩) (c24 : PySem.W.codeIn K cd24 "Hall._check_hue" = true) (k24 : PySem.W.keepIn K (.ref f24) = true)
    (a25 : PySem.W.findIn K (.ref C_Hall) "_numbers_of" = some (some (.ref f25))) (i25 : PySem.W.isFn K (.ref f25) = true)
    (l25 : K.lookup f25 = some ⟨oc25, od25, .func (PySem.W.fnOf "_numbers_of" "Hall._numbers_of" (defArgs s_Hall_numbers_of) (defBody s_Hall_numbers_of) (defScope s_Hall_numbers_of) .none kV25 dc25 pm25 an25 cd25 ct25), sl25⟩) (c25 : PySem.W.codeIn K cd25 "Hall._numbers_of" = true) (k25 : PySem.W.keepIn K (.ref f25) = true)
    (a26 : PySem.W.findIn K (.ref C_Hall) "_place_anew" = some (some (.ref f26))) (i26 : PySem.W.isFn K (.ref f26) = true)
    (l26 : K.lookup f26 = some ⟨oc26, od26, .func (PySem.W.fnOf "_place_anew" "Hall._place_anew" (defArgs s_Hall_place_anew) (defBody s_Hall_place_anew) (defScope s_Hall_place_anew) .none kV26 dc26 pm26 an26 cd26 ct26), sl26⟩) (c26 : PySem.W.codeIn K cd26 "Hall._place_anew" = true) (k26 : PySem.W.keepIn K (.ref f26) = true)
    (a27 : PySem.W.findIn K (.ref C_Hall) "_as_full" = some (some (.ref f27))) (i27 : PySem.W.isFn K (.ref f27) = true)
    (l27 : K.lookup f27 = some ⟨oc27, od27, .func (PySem.W.fnOf "_as_full" "Hall._as_full" (defArgs s_Hall_as_full) (defBody s_Hall_as_full) (defScope s_Hall_as_full) .none kV27 dc27 pm27 an27 cd27 ct27), sl27⟩) (c27 : PySem.W.codeIn K cd27 "Hall._as_full" = true) (k27 : PySem.W.keepIn K (.ref f27) = true)
    (a28 : PySem.W.nsIn K mainGlobals "_is_whole" = some (some (.ref f28)))
    (l28 : K.lookup f28 = some ⟨oc28, od28, .func (PySem.W.fnOf "_is_whole" "_is_whole" (defArgs s_is_whole) (defBody s_is_whole) (defScope s_is_whole) .none kV28 dc28 pm28 an28 cd28 ct28), sl28⟩) (c28 : PySem.W.codeIn K cd28 "_is_whole" = true) (k28 : PySem.W.keepIn K (.ref f28) = true)
    (a29 : PySem.W.nsIn K mainGlobals "_is_within" = some (some (.ref f29)))
    (l29 : K.lookup f29 = some ⟨oc29, od29, .func (PySem.W.fnOf "_is_within" "_is_within" (defArgs s_is_within) (defBody s_is_within) (defScope s_is_within) .none kV29 dc29 pm29 an29 cd29 ct29), sl29⟩) (c29 : PySem.W.codeIn K cd29 "_is_within" = true) (k29 : PySem.W.keepIn K (.ref f29) = true)
    (a30 : PySem.W.nsIn K mainGlobals "_side_of" = some (some (.ref f30)))
    (l30 : K.lookup f30 = some ⟨oc30, od30, .func (PySem.W.fnOf "_side_of" "_side_of" (defArgs s_side_of) (defBody s_side_of) (defScope s_side_of) .none kV30 dc30 pm30 an30 cd30 ct30), sl30⟩) (c30 : PySem.W.codeIn K cd30 "_side_of" = true) (k30 : PySem.W.keepIn K (.ref f30) = true)
    (a31 : PySem.W.nsIn K mainGlobals "hued" = some (some (.ref f31)))
    (l31 : K.lookup f31 = some ⟨oc31, od31, .func (PySem.W.fnOf "hued" "hued" (defArgs s_hued) (defBody s_hued) (defScope s_hued) .none kV31 dc31 pm31 an31 cd31 ct31), sl31⟩) (c31 : PySem.W.codeIn K cd31 "hued" = true) (k31 : PySem.W.keepIn K (.ref f31) = true)
    (a32 : PySem.W.nsIn K mainGlobals "_law_cell_at" = some (some (.ref f32)))
    (l32 : K.lookup f32 = some ⟨oc32, od32, .func (PySem.W.fnOf "_law_cell_at" "_law_cell_at" (defArgs s_l_cell_at) (defBody s_l_cell_at) (defScope s_l_cell_at) .none kV32 dc32 pm32 an32 cd32 ct32), sl32⟩) (c32 : PySem.W.codeIn K cd32 "_law_cell_at" = true) (k32 : PySem.W.keepIn K (.ref f32) = true)
    (a33 : PySem.W.nsIn K mainGlobals "_law_mixed" = some (some (.ref f33)))
    (l33 : K.lookup f33 = some ⟨oc33, od33, .func (PySem.W.fnOf "_law_mixed" "_law_mixed" (defArgs s_l_mixed) (defBody s_l_mixed) (defScope s_l_mixed) .none kV33 dc33 pm33 an33 cd33 ct33), sl33⟩) (c33 : PySem.W.codeIn K cd33 "_law_mixed" = true) (k33 : PySem.W.keepIn K (.ref f33) = true)
    (a34 : PySem.W.nsIn K mainGlobals "_law_whole" = some (some (.ref f34)))
    (l34 : K.lookup f34 = some ⟨oc34, od34, .func (PySem.W.fnOf "_law_whole" "_law_whole" (defArgs s_l_whole) (defBody s_l_whole) (defScope s_l_whole) .none kV34 dc34 pm34 an34 cd34 ct34), sl34⟩) (c34 : PySem.W.codeIn K cd34 "_law_whole" = true) (k34 : PySem.W.keepIn K (.ref f34) = true)
    (a35 : PySem.W.nsIn K mainGlobals "_law_sizes_by" = some (some (.ref f35)))
    (l35 : K.lookup f35 = some ⟨oc35, od35, .func (PySem.W.fnOf "_law_sizes_by" "_law_sizes_by" (defArgs s_l_sizes_by) (defBody s_l_sizes_by) (defScope s_l_sizes_by) .none kV35 dc35 pm35 an35 cd35 ct35), sl35⟩) (c35 : PySem.W.codeIn K cd35 "_law_sizes_by" = true) (k35 : PySem.W.keepIn K (.ref f35) = true)
    (a36 : PySem.W.nsIn K mainGlobals "_law_ends" = some (some (.ref f36)))
    (l36 : K.lookup f36 = some ⟨oc36, od36, .func (PySem.W.fnOf "_law_ends" "_law_ends" (defArgs s_l_ends) (defBody s_l_ends) (defScope s_l_ends) .none kV36 dc36 pm36 an36 cd36 ct36), sl36⟩) (c36 : PySem.W.codeIn K cd36 "_law_ends" = true) (k36 : PySem.W.keepIn K (.ref f36) = true)
    (a37 : PySem.W.nsIn K mainGlobals "_law_pairs" = some (some (.ref f37)))
    (l37 : K.lookup f37 = some ⟨oc37, od37, .func (PySem.W.fnOf "_law_pairs" "_law_pairs" (defArgs s_l_pairs) (defBody s_l_pairs) (defScope s_l_pairs) .none kV37 dc37 pm37 an37 cd37 ct37), sl37⟩) (c37 : PySem.W.codeIn K cd37 "_law_pairs" = true) (k37 : PySem.W.keepIn K (.ref f37) = true)
    (a38 : PySem.W.nsIn K mainGlobals "_law_told" = some (some (.ref f38)))
    (l38 : K.lookup f38 = some ⟨oc38, od38, .func (PySem.W.fnOf "_law_told" "_law_told" (defArgs s_l_told) (defBody s_l_told) (defScope s_l_told) .none kV38 dc38 pm38 an38 cd38 ct38), sl38⟩) (c38 : PySem.W.codeIn K cd38 "_law_told" = true) (k38 : PySem.W.keepIn K (.ref f38) = true)
    (a39 : PySem.W.nsIn K mainGlobals "_law_hall" = some (some (.ref f39)))
    (l39 : K.lookup f39 = some ⟨oc39, od39, .func (PySem.W.fnOf "_law_hall" "_law_hall" (defArgs s_l_hall) (defBody s_l_hall) (defScope s_l_hall) .none kV39 dc39 pm39 an39 cd39 ct39), sl39⟩) (c39 : PySem.W.codeIn K cd39 "_law_hall" = true) (k39 : PySem.W.keepIn K (.ref f39) = true)
    (a40 : PySem.W.nsIn K mainGlobals "law" = some (some (.ref f40)))
    (l40 : K.lookup f40 = some ⟨oc40, od40, .func (PySem.W.fnOf "law" "law" (defArgs s_law) (defBody s_law) (defScope s_law) .none kV40 dc40 pm40 an40 cd40 ct40), sl40⟩) (c40 : PySem.W.codeIn K cd40 "law" = true) (k40 : PySem.W.keepIn K (.ref f40) = true)
    (z_all : PySem.W.nsIn K mainGlobals "all" = some none)
    (z_bool : PySem.W.nsIn K mainGlobals "bool" = some none)
    (z_dict : PySem.W.nsIn K mainGlobals "dict" = some none)
    (z_enumerate : PySem.W.nsIn K mainGlobals "enumerate" = some none)
    (z_int : PySem.W.nsIn K mainGlobals "int" = some none)
    (z_isinstance : PySem.W.nsIn K mainGlobals "isinstance" = some none)
    (z_len : PySem.W.nsIn K mainGlobals "len" = some none)
    (z_list : PySem.W.nsIn K mainGlobals "list" = some none)
    (z_max : PySem.W.nsIn K mainGlobals "max" = some none)
    (z_min : PySem.W.nsIn K mainGlobals "min" = some none)
    (z_range : PySem.W.nsIn K mainGlobals "range" = some none)
    (z_set : PySem.W.nsIn K mainGlobals "set" = some none)
    (z_sorted : PySem.W.nsIn K mainGlobals "sorted" = some none)
    (z_str : PySem.W.nsIn K mainGlobals "str" = some none)
    (z_type : PySem.W.nsIn K mainGlobals "type" = some none)
    (z_zip : PySem.W.nsIn K mainGlobals "zip" = some none)
    (c_HUE : PySem.W.nsIn K mainGlobals "HUE" = some (some (.int 2 t_c_HUE)))
    (c_LEFT : PySem.W.nsIn K mainGlobals "LEFT" = some (some (.int 0 t_c_LEFT)))
    (c_MOST_ENDS : PySem.W.nsIn K mainGlobals "MOST_ENDS" = some (some (.int 8 t_c_MOST_ENDS)))
    (c_MOST_PAIRS : PySem.W.nsIn K mainGlobals "MOST_PAIRS" = some (some (.int 40 t_c_MOST_PAIRS)))
    (c_RIGHT : PySem.W.nsIn K mainGlobals "RIGHT" = some (some (.int 1 t_c_RIGHT)))
    (pg : PySem.W.plainGet K C_Hall Str.empty = true)
    (hd : PySem.W.hasDictIn K C_Hall = true)
    (po : PySem.W.plainOver K C_Hall = true)
    (sa : PySem.W.findIn K (.ref C_Hall) "__setattr__" = some (some (.builtin "object.__setattr__")))
    (mk : PySem.W.makesIn K C_Hall = true)
    (kc : PySem.W.keepIn K (.ref C_Hall) = true)
    (g_Hall : PySem.W.nsIn K mainGlobals "Hall" = some (some (.ref C_Hall)))
    (nA_ends : PySem.W.findIn K (.ref C_Hall) "_ends" = some none)
    (nA_rows : PySem.W.findIn K (.ref C_Hall) "_rows" = some none)
    (nA_next : PySem.W.findIn K (.ref C_Hall) "_next" = some none)
    (gE_PairError : PySem.W.nsIn K mainGlobals "PairError" = some (some (.ref E_PairError))) (xE_PairError : PySem.W.excIn K E_PairError [.type "ValueError", .type "Exception", .type "BaseException", .type "object"] "ValueError.__new__" = true) (kE_PairError : PySem.W.keepIn K (.ref E_PairError) = true) (bE_PairError : PySem.W.subIn K (.ref E_PairError) (.type "BaseException") = some true) (tE_PairError : PySem.W.typeIn K (.ref E_PairError) = some (.type "type"))
    (gE_BadCount : PySem.W.nsIn K mainGlobals "BadCount" = some (some (.ref E_BadCount))) (xE_BadCount : PySem.W.excIn K E_BadCount [.type "ValueError", .type "Exception", .type "BaseException", .type "object"] "ValueError.__new__" = true) (kE_BadCount : PySem.W.keepIn K (.ref E_BadCount) = true) (bE_BadCount : PySem.W.subIn K (.ref E_BadCount) (.type "BaseException") = some true) (tE_BadCount : PySem.W.typeIn K (.ref E_BadCount) = some (.type "type"))
    (gE_BadSide : PySem.W.nsIn K mainGlobals "BadSide" = some (some (.ref E_BadSide))) (xE_BadSide : PySem.W.excIn K E_BadSide [.type "ValueError", .type "Exception", .type "BaseException", .type "object"] "ValueError.__new__" = true) (kE_BadSide : PySem.W.keepIn K (.ref E_BadSide) = true) (bE_BadSide : PySem.W.subIn K (.ref E_BadSide) (.type "BaseException") = some true) (tE_BadSide : PySem.W.typeIn K (.ref E_BadSide) = some (.type "type"))
    (gE_BadEnd : PySem.W.nsIn K mainGlobals "BadEnd" = some (some (.ref E_BadEnd))) (xE_BadEnd : PySem.W.excIn K E_BadEnd [.type "ValueError", .type "Exception", .type "BaseException", .type "object"] "ValueError.__new__" = true) (kE_BadEnd : PySem.W.keepIn K (.ref E_BadEnd) = true) (bE_BadEnd : PySem.W.subIn K (.ref E_BadEnd) (.type "BaseException") = some true) (tE_BadEnd : PySem.W.typeIn K (.ref E_BadEnd) = some (.type "type"))
    (gE_TooMany : PySem.W.nsIn K mainGlobals "TooMany" = some (some (.ref E_TooMany))) (xE_TooMany : PySem.W.excIn K E_TooMany [.type "ValueError", .type "Exception", .type "BaseException", .type "object"] "ValueError.__new__" = true) (kE_TooMany : PySem.W.keepIn K (.ref E_TooMany) = true) (bE_TooMany : PySem.W.subIn K (.ref E_TooMany) (.type "BaseException") = some true) (tE_TooMany : PySem.W.typeIn K (.ref E_TooMany) = some (.type "type"))
    (gE_NoPair : PySem.W.nsIn K mainGlobals "NoPair" = some (some (.ref E_NoPair))) (xE_NoPair : PySem.W.excIn K E_NoPair [.type "ValueError", .type "Exception", .type "BaseException", .type "object"] "ValueError.__new__" = true) (kE_NoPair : PySem.W.keepIn K (.ref E_NoPair) = true) (bE_NoPair : PySem.W.subIn K (.ref E_NoPair) (.type "BaseException") = some true) (tE_NoPair : PySem.W.typeIn K (.ref E_NoPair) = some (.type "type"))
    (gE_BadHue : PySem.W.nsIn K mainGlobals "BadHue" = some (some (.ref E_BadHue))) (xE_BadHue : PySem.W.excIn K E_BadHue [.type "ValueError", .type "Exception", .type "BaseException", .type "object"] "ValueError.__new__" = true) (kE_BadHue : PySem.W.keepIn K (.ref E_BadHue) = true) (bE_BadHue : PySem.W.subIn K (.ref E_BadHue) (.type "BaseException") = some true) (tE_BadHue : PySem.W.typeIn K (.ref E_BadHue) = some (.type "type"))
    (gE_NotFree : PySem.W.nsIn K mainGlobals "NotFree" = some (some (.ref E_NotFree))) (xE_NotFree : PySem.W.excIn K E_NotFree [.type "ValueError", .type "Exception", .type "BaseException", .type "object"] "ValueError.__new__" = true) (kE_NotFree : PySem.W.keepIn K (.ref E_NotFree) = true) (bE_NotFree : PySem.W.subIn K (.ref E_NotFree) (.type "BaseException") = some true) (tE_NotFree : PySem.W.typeIn K (.ref E_NotFree) = some (.type "type"))
    (hgE_BadEnd : PySem.W.findIn K (.ref E_BadEnd) "__getattribute__" = some (some (.builtin "BaseException.__getattribute__")))
    (hkE_BadEnd : PySem.W.findIn K (.ref E_BadEnd) "__getattr__" = some none)
    (hsE_BadEnd : PySem.W.subIn K (.ref E_BadEnd) (.type "BaseException") = some true)
    (hdE_BadEnd : PySem.W.hasDictIn K E_BadEnd = true)
    (haE_BadEnd : PySem.W.findIn K (.ref E_BadEnd) "__class__" = some (some (.builtin "object.__class__")))
    (hmE_BadEnd : PySem.W.mroIn K E_BadEnd (.type "object") = some true)
    (exn : PySem.W.specialIn K (.builtin "object.__class__") "__get__" = some (some (.builtin "getset_descriptor.__get__"))) (ext : PySem.W.takesIn K (.builtin "object.__class__") = some true)
    (hgE_TooMany : PySem.W.findIn K (.ref E_TooMany) "__getattribute__" = some (some (.builtin "BaseException.__getattribute__")))
    (hkE_TooMany : PySem.W.findIn K (.ref E_TooMany) "__getattr__" = some none)
    (hsE_TooMany : PySem.W.subIn K (.ref E_TooMany) (.type "BaseException") = some true)
    (hdE_TooMany : PySem.W.hasDictIn K E_TooMany = true)
    (haE_TooMany : PySem.W.findIn K (.ref E_TooMany) "__class__" = some (some (.builtin "object.__class__")))
    (hmE_TooMany : PySem.W.mroIn K E_TooMany (.type "object") = some true)
    (i_BadEnd_BadEnd : PySem.W.kitOne K (.ref E_BadEnd) (.ref E_BadEnd) = some true)
    (i_BadEnd_TooMany : PySem.W.kitOne K (.ref E_BadEnd) (.ref E_TooMany) = some false)
    (i_TooMany_BadEnd : PySem.W.kitOne K (.ref E_TooMany) (.ref E_BadEnd) = some false)
    (i_TooMany_TooMany : PySem.W.kitOne K (.ref E_TooMany) (.ref E_TooMany) = some true)
    (e_BadEnd_PairError : PySem.W.exmOne K (.ref E_BadEnd) (.ref E_PairError) = some true)
    (e_TooMany_PairError : PySem.W.exmOne K (.ref E_TooMany) (.ref E_PairError) = some true)
    : ∃ T : Txt K mg, T.k_place = c ∧ T.p_place = PT ∧ T.f_law = f40 ∧ T.d_law = PySem.W.fnOf "law" "law" (defArgs s_law) (defBody s_law) (defScope s_law) .none kV40 dc40 pm40 an40 cd40 ct40 ∧ T.k_is_good = cg ∧ T.p_is_good = PG := by
  have F0 := fun_mk (st := s_wall) l0 c0 k0
  have b0 := (F0).binds (ps := ["k"]) fun _ _ _ _ _ _ us hl => match us, hl with | [_], _ => rfl
  have F1 := fun_mk (st := s_count_of) l1 c1 k1
  have b1 := (F1).binds (ps := ["rows"]) fun _ _ _ _ _ _ us hl => match us, hl with | [_], _ => rfl
  have F2 := funC_mk (st := s_is_good) l2 c2 k2
  have b2 := (F2.plain).binds (ps := ["rows"]) fun _ _ _ _ _ _ us hl => match us, hl with | [_], _ => rfl
  have F3 := fun_mk (st := s_most_at) l3 c3 k3
  have b3 := (F3).binds (ps := ["rows", "side"]) fun _ _ _ _ _ _ us hl => match us, hl with | [_, _], _ => rfl
  have F4 := fun_mk (st := s_hues_differ) l4 c4 k4
  have b4 := (F4).binds (ps := ["rows", "side"]) fun _ _ _ _ _ _ us hl => match us, hl with | [_, _], _ => rfl
  have F5 := fun_mk (st := s_table_of) l5 c5 k5
  have b5 := (F5).binds (ps := ["rows"]) fun _ _ _ _ _ _ us hl => match us, hl with | [_], _ => rfl
  have F6 := fun_mk (st := s_free_at) l6 c6 k6
  have b6 := (F6).binds (ps := ["table", "side", "end", "many"]) fun _ _ _ _ _ _ us hl => match us, hl with | [_, _, _, _], _ => rfl
  have F7 := fun_mk (st := s_chain_at) l7 c7 k7
  have b7 := (F7).binds (ps := ["table", "side", "end", "one", "other"]) fun _ _ _ _ _ _ us hl => match us, hl with | [_, _, _, _, _], _ => rfl
  have F8 := funC_mk (st := s_place) l8 c8 k8
  have b8 := (F8.plain).binds (ps := ["rows", "number", "left", "right", "many"]) fun _ _ _ _ _ _ us hl => match us, hl with | [_, _, _, _, _], _ => rfl
  have F9 := fun_mk (st := s_far_side) l9 c9 k9
  have b9 := (F9).binds (ps := ["side"]) fun _ _ _ _ _ _ us hl => match us, hl with | [_], _ => rfl
  have F10 := fun_mk (st := s_ways) l10 c10 k10
  have b10 := (F10).binds (ps := ["table", "left", "right", "at_left", "at_right"]) fun _ _ _ _ _ _ us hl => match us, hl with | [_, _, _, _, _], _ => rfl
  have F11 := fun_mk (st := s_turn) l11 c11 k11
  have b11 := (F11).binds (ps := ["rows", "chain", "one", "other"]) fun _ _ _ _ _ _ us hl => match us, hl with | [_, _, _, _], _ => rfl
  have F12 := fun_mk (st := s_Hall_init) l12 c12 k12
  have b12 := (F12).binds (ps := ["self", "lefts", "rights"]) fun _ _ _ _ _ _ us hl => match us, hl with | [_, _, _], _ => rfl
  have F13 := fun_mk (st := s_Hall_come) l13 c13 k13
  have b13 := (F13).binds (ps := ["self", "left", "right"]) fun _ _ _ _ _ _ us hl => match us, hl with | [_, _, _], _ => rfl
  have F14 := fun_mk (st := s_Hall_go) l14 c14 k14
  have b14 := (F14).binds (ps := ["self", "number"]) fun _ _ _ _ _ _ us hl => match us, hl with | [_, _], _ => rfl
  have F15 := fun_mk (st := s_Hall_count) l15 c15 k15
  have b15 := (F15).binds (ps := ["self"]) fun _ _ _ _ _ _ us hl => match us, hl with | [_], _ => rfl
  have F16 := fun_mk (st := s_Hall_pairs) l16 c16 k16
  have b16 := (F16).binds (ps := ["self"]) fun _ _ _ _ _ _ us hl => match us, hl with | [_], _ => rfl
  have F17 := fun_mk (st := s_Hall_hue_of) l17 c17 k17
  have b17 := (F17).binds (ps := ["self", "number"]) fun _ _ _ _ _ _ us hl => match us, hl with | [_, _], _ => rfl
  have F18 := fun_mk (st := s_Hall_of_hue) l18 c18 k18
  have b18 := (F18).binds (ps := ["self", "hue"]) fun _ _ _ _ _ _ us hl => match us, hl with | [_, _], _ => rfl
  have F19 := fun_mk (st := s_Hall_free) l19 c19 k19
  have b19 := (F19).binds (ps := ["self", "side", "end"]) fun _ _ _ _ _ _ us hl => match us, hl with | [_, _, _], _ => rfl
  have F20 := fun_mk (st := s_Hall_fullest) l20 c20 k20
  have b20 := (F20).binds (ps := ["self"]) fun _ _ _ _ _ _ us hl => match us, hl with | [_], _ => rfl
  have F21 := fun_mk (st := s_Hall_chain) l21 c21 k21
  have b21 := (F21).binds (ps := ["self", "side", "end", "one", "other"]) fun _ _ _ _ _ _ us hl => match us, hl with | [_, _, _, _, _], _ => rfl
  have F22 := fun_mk (st := s_Hall_check_end) l22 c22 k22
  have b22 := (F22).binds (ps := ["self", "side", "end"]) fun _ _ _ _ _ _ us hl => match us, hl with | [_, _, _], _ => rfl
  have F23 := fun_mk (st := s_Hall_check_number) l23 c23 k23
  have b23 := (F23).binds (ps := ["self", "number"]) fun _ _ _ _ _ _ us hl => match us, hl with | [_, _], _ => rfl
  have F24 := fun_mk (st := s_Hall_check_hue) l24 c24 k24
  have b24 := (F24).binds (ps := ["self", "hue"]) fun _ _ _ _ _ _ us hl => match us, hl with | [_, _], _ => rfl
  have F25 := fun_mk (st := s_Hall_numbers_of) l25 c25 k25
  have b25 := (F25).binds (ps := ["self", "hue"]) fun _ _ _ _ _ _ us hl => match us, hl with | [_, _], _ => rfl
  have F26 := fun_mk (st := s_Hall_place_anew) l26 c26 k26
  have b26 := (F26).binds (ps := ["self", "number", "many"]) fun _ _ _ _ _ _ us hl => match us, hl with | [_, _, _], _ => rfl
  have F27 := fun_mk (st := s_Hall_as_full) l27 c27 k27
  have b27 := (F27).binds (ps := ["self", "side", "many"]) fun _ _ _ _ _ _ us hl => match us, hl with | [_, _, _], _ => rfl
  have F28 := fun_mk (st := s_is_whole) l28 c28 k28
  have b28 := (F28).binds (ps := ["worth"]) fun _ _ _ _ _ _ us hl => match us, hl with | [_], _ => rfl
  have F29 := fun_mk (st := s_is_within) l29 c29 k29
  have b29 := (F29).binds (ps := ["worth", "low", "high"]) fun _ _ _ _ _ _ us hl => match us, hl with | [_, _, _], _ => rfl
  have F30 := fun_mk (st := s_side_of) l30 c30 k30
  have b30 := (F30).binds (ps := ["word"]) fun _ _ _ _ _ _ us hl => match us, hl with | [_], _ => rfl
  have F31 := fun_mk (st := s_hued) l31 c31 k31
  have b31 := (F31).binds (ps := ["lefts", "rights", "pairs"]) fun _ _ _ _ _ _ us hl => match us, hl with | [_, _, _], _ => rfl
  have F32 := fun_mk (st := s_l_cell_at) l32 c32 k32
  have b32 := (F32).binds (ps := ["_law_script", "_law_k"]) fun _ _ _ _ _ _ us hl => match us, hl with | [_, _], _ => rfl
  have F33 := fun_mk (st := s_l_mixed) l33 c33 k33
  have b33 := (F33).binds (ps := ["_law_cell", "_law_k"]) fun _ _ _ _ _ _ us hl => match us, hl with | [_, _], _ => rfl
  have F34 := fun_mk (st := s_l_whole) l34 c34 k34
  have b34 := (F34).binds (ps := ["_law_found"]) fun _ _ _ _ _ _ us hl => match us, hl with | [_], _ => rfl
  have F35 := fun_mk (st := s_l_sizes_by) l35 c35 k35
  have b35 := (F35).binds (ps := ["_law_cell"]) fun _ _ _ _ _ _ us hl => match us, hl with | [_], _ => rfl
  have F36 := fun_mk (st := s_l_ends) l36 c36 k36
  have b36 := (F36).binds (ps := ["_law_cell", "_law_sizes", "_law_rows"]) fun _ _ _ _ _ _ us hl => match us, hl with | [_, _, _], _ => rfl
  have F37 := fun_mk (st := s_l_pairs) l37 c37 k37
  have b37 := (F37).binds (ps := ["_law_script", "_law_sizes"]) fun _ _ _ _ _ _ us hl => match us, hl with | [_, _], _ => rfl
  have F38 := fun_mk (st := s_l_told) l38 c38 k38
  have b38 := (F38).binds (ps := ["_law_sizes", "_law_pairs_here"]) fun _ _ _ _ _ _ us hl => match us, hl with | [_, _], _ => rfl
  have F39 := fun_mk (st := s_l_hall) l39 c39 k39
  have b39 := (F39).binds (ps := ["_law_sizes", "_law_pairs_here"]) fun _ _ _ _ _ _ us hl => match us, hl with | [_, _], _ => rfl
  have F40 := fun_mk (st := s_law) l40 c40 k40
  have b40 := (F40).binds (ps := ["_law_script"]) fun _ _ _ _ _ _ us hl => match us, hl with | [_], _ => rfl
  exact ⟨{ C_Hall := C_Hall, E_PairError := E_PairError, E_BadCount := E_BadCount, E_BadSide := E_BadSide, E_BadEnd := E_BadEnd, E_TooMany := E_TooMany, E_NoPair := E_NoPair, E_BadHue := E_BadHue, E_NotFree := E_NotFree, f_wall := f0, d_wall := PySem.W.fnOf "_wall" "_wall" (defArgs s_wall) (defBody s_wall) (defScope s_wall) .none kV0 dc0 pm0 an0 cd0 ct0, f_count_of := f1, d_count_of := PySem.W.fnOf "count_of" "count_of" (defArgs s_count_of) (defBody s_count_of) (defScope s_count_of) .none kV1 dc1 pm1 an1 cd1 ct1, f_is_good := f2, d_is_good := PySem.W.fnOf "is_good" "is_good" (defArgs s_is_good) (defBody s_is_good) (defScope s_is_good) .none kV2 dc2 pm2 an2 (.ref cg) ct2, f_most_at := f3, d_most_at := PySem.W.fnOf "_most_at" "_most_at" (defArgs s_most_at) (defBody s_most_at) (defScope s_most_at) .none kV3 dc3 pm3 an3 cd3 ct3, f_hues_differ := f4, d_hues_differ := PySem.W.fnOf "_hues_differ" "_hues_differ" (defArgs s_hues_differ) (defBody s_hues_differ) (defScope s_hues_differ) .none kV4 dc4 pm4 an4 cd4 ct4, f_table_of := f5, d_table_of := PySem.W.fnOf "table_of" "table_of" (defArgs s_table_of) (defBody s_table_of) (defScope s_table_of) .none kV5 dc5 pm5 an5 cd5 ct5, f_free_at := f6, d_free_at := PySem.W.fnOf "free_at" "free_at" (defArgs s_free_at) (defBody s_free_at) (defScope s_free_at) .none kV6 dc6 pm6 an6 cd6 ct6, f_chain_at := f7, d_chain_at := PySem.W.fnOf "chain_at" "chain_at" (defArgs s_chain_at) (defBody s_chain_at) (defScope s_chain_at) .none kV7 dc7 pm7 an7 cd7 ct7, f_place := f8, d_place := PySem.W.fnOf "place" "place" (defArgs s_place) (defBody s_place) (defScope s_place) .none kV8 dc8 pm8 an8 (.ref c) ct8, f_far_side := f9, d_far_side := PySem.W.fnOf "_far_side" "_far_side" (defArgs s_far_side) (defBody s_far_side) (defScope s_far_side) .none kV9 dc9 pm9 an9 cd9 ct9, f_ways := f10, d_ways := PySem.W.fnOf "_ways" "_ways" (defArgs s_ways) (defBody s_ways) (defScope s_ways) .none kV10 dc10 pm10 an10 cd10 ct10, f_turn := f11, d_turn := PySem.W.fnOf "_turn" "_turn" (defArgs s_turn) (defBody s_turn) (defScope s_turn) .none kV11 dc11 pm11 an11 cd11 ct11, f_Hall_init := f12, d_Hall_init := PySem.W.fnOf "__init__" "Hall.__init__" (defArgs s_Hall_init) (defBody s_Hall_init) (defScope s_Hall_init) .none kV12 dc12 pm12 an12 cd12 ct12, f_Hall_come := f13, d_Hall_come := PySem.W.fnOf "come" "Hall.come" (defArgs s_Hall_come) (defBody s_Hall_come) (defScope s_Hall_come) .none kV13 dc13 pm13 an13 cd13 ct13, f_Hall_go := f14, d_Hall_go := PySem.W.fnOf "go" "Hall.go" (defArgs s_Hall_go) (defBody s_Hall_go) (defScope s_Hall_go) .none kV14 dc14 pm14 an14 cd14 ct14, f_Hall_count := f15, d_Hall_count := PySem.W.fnOf "count" "Hall.count" (defArgs s_Hall_count) (defBody s_Hall_count) (defScope s_Hall_count) .none kV15 dc15 pm15 an15 cd15 ct15, f_Hall_pairs := f16, d_Hall_pairs := PySem.W.fnOf "pairs" "Hall.pairs" (defArgs s_Hall_pairs) (defBody s_Hall_pairs) (defScope s_Hall_pairs) .none kV16 dc16 pm16 an16 cd16 ct16, f_Hall_hue_of := f17, d_Hall_hue_of := PySem.W.fnOf "hue_of" "Hall.hue_of" (defArgs s_Hall_hue_of) (defBody s_Hall_hue_of) (defScope s_Hall_hue_of) .none kV17 dc17 pm17 an17 cd17 ct17, f_Hall_of_hue := f18, d_Hall_of_hue := PySem.W.fnOf "of_hue" "Hall.of_hue" (defArgs s_Hall_of_hue) (defBody s_Hall_of_hue) (defScope s_Hall_of_hue) .none kV18 dc18 pm18 an18 cd18 ct18, f_Hall_free := f19, d_Hall_free := PySem.W.fnOf "free" "Hall.free" (defArgs s_Hall_free) (defBody s_Hall_free) (defScope s_Hall_free) .none kV19 dc19 pm19 an19 cd19 ct19, f_Hall_fullest := f20, d_Hall_fullest := PySem.W.fnOf "fullest" "Hall.fullest" (defArgs s_Hall_fullest) (defBody s_Hall_fullest) (defScope s_Hall_fullest) .none kV20 dc20 pm20 an20 cd20 ct20, f_Hall_chain := f21, d_Hall_chain := PySem.W.fnOf "chain" "Hall.chain" (defArgs s_Hall_chain) (defBody s_Hall_chain) (defScope s_Hall_chain) .none kV21 dc21 pm21 an21 cd21 ct21, f_Hall_check_end := f22, d_Hall_check_end := PySem.W.fnOf "_check_end" "Hall._check_end" (defArgs s_Hall_check_end) (defBody s_Hall_check_end) (defScope s_Hall_check_end) .none kV22 dc22 pm22 an22 cd22 ct22, f_Hall_check_number := f23, d_Hall_check_number := PySem.W.fnOf "_check_number" "Hall._check_number" (defArgs s_Hall_check_number) (defBody s_Hall_check_number) (defScope s_Hall_check_number) .none kV23 dc23 pm23 an23 cd23 ct23, f_Hall_check_hue := f24, d_Hall_check_hue := PySem.W.fnOf "_check_hue" "Hall._check_hue" (defArgs s_Hall_check_hue) (defBody s_Hall_check_hue) (defScope s_Hall_check_hue) .none kV24 dc24 pm24 an24 cd24 ct24, f_Hall_numbers_of := f25, d_Hall_numbers_of := PySem.W.fnOf "_numbers_of" "Hall._numbers_of" (defArgs s_Hall_numbers_of) (defBody s_Hall_numbers_of) (defScope s_Hall_numbers_of) .none kV25 dc25 pm25 an25 cd25 ct25, f_Hall_place_anew := f26, d_Hall_place_anew := PySem.W.fnOf "_place_anew" "Hall._place_anew" (defArgs s_Hall_place_anew) (defBody s_Hall_place_anew) (defScope s_Hall_place_anew) .none kV26 dc26 pm26 an26 cd26 ct26, f_Hall_as_full := f27, d_Hall_as_full := PySem.W.fnOf "_as_full" "Hall._as_full" (defArgs s_Hall_as_full) (defBody s_Hall_as_full) (defScope s_Hall_as_full) .none kV27 dc27 pm27 an27 cd27 ct27, f_is_whole := f28, d_is_whole := PySem.W.fnOf "_is_whole" "_is_whole" (defArgs s_is_whole) (defBody s_is_whole) (defScope s_is_whole) .none kV28 dc28 pm28 an28 cd28 ct28, f_is_within := f29, d_is_within := PySem.W.fnOf "_is_within" "_is_within" (defArgs s_is_within) (defBody s_is_within) (defScope s_is_within) .none kV29 dc29 pm29 an29 cd29 ct29, f_side_of := f30, d_side_of := PySem.W.fnOf "_side_of" "_side_of" (defArgs s_side_of) (defBody s_side_of) (defScope s_side_of) .none kV30 dc30 pm30 an30 cd30 ct30, f_hued := f31, d_hued := PySem.W.fnOf "hued" "hued" (defArgs s_hued) (defBody s_hued) (defScope s_hued) .none kV31 dc31 pm31 an31 cd31 ct31, f_l_cell_at := f32, d_l_cell_at := PySem.W.fnOf "_law_cell_at" "_law_cell_at" (defArgs s_l_cell_at) (defBody s_l_cell_at) (defScope s_l_cell_at) .none kV32 dc32 pm32 an32 cd32 ct32, f_l_mixed := f33, d_l_mixed := PySem.W.fnOf "_law_mixed" "_law_mixed" (defArgs s_l_mixed) (defBody s_l_mixed) (defScope s_l_mixed) .none kV33 dc33 pm33 an33 cd33 ct33, f_l_whole := f34, d_l_whole := PySem.W.fnOf "_law_whole" "_law_whole" (defArgs s_l_whole) (defBody s_l_whole) (defScope s_l_whole) .none kV34 dc34 pm34 an34 cd34 ct34, f_l_sizes_by := f35, d_l_sizes_by := PySem.W.fnOf "_law_sizes_by" "_law_sizes_by" (defArgs s_l_sizes_by) (defBody s_l_sizes_by) (defScope s_l_sizes_by) .none kV35 dc35 pm35 an35 cd35 ct35, f_l_ends := f36, d_l_ends := PySem.W.fnOf "_law_ends" "_law_ends" (defArgs s_l_ends) (defBody s_l_ends) (defScope s_l_ends) .none kV36 dc36 pm36 an36 cd36 ct36, f_l_pairs := f37, d_l_pairs := PySem.W.fnOf "_law_pairs" "_law_pairs" (defArgs s_l_pairs) (defBody s_l_pairs) (defScope s_l_pairs) .none kV37 dc37 pm37 an37 cd37 ct37, f_l_told := f38, d_l_told := PySem.W.fnOf "_law_told" "_law_told" (defArgs s_l_told) (defBody s_l_told) (defScope s_l_told) .none kV38 dc38 pm38 an38 cd38 ct38, f_l_hall := f39, d_l_hall := PySem.W.fnOf "_law_hall" "_law_hall" (defArgs s_l_hall) (defBody s_l_hall) (defScope s_l_hall) .none kV39 dc39 pm39 an39 cd39 ct39, f_law := f40, d_law := PySem.W.fnOf "law" "law" (defArgs s_law) (defBody s_law) (defScope s_law) .none kV40 dc40 pm40 an40 cd40 ct40, k_place := c, p_place := PT, k_is_good := cg, p_is_good := PG, D_wall := ⟨F0, PySem.W.mg_of X G a0, b0⟩, D_count_of := ⟨F1, PySem.W.mg_of X G a1, b1⟩, D_is_good := ⟨F2.plain, PySem.W.mg_of X G a2, b2⟩, D_most_at := ⟨F3, PySem.W.mg_of X G a3, b3⟩, D_hues_differ := ⟨F4, PySem.W.mg_of X G a4, b4⟩, D_table_of := ⟨F5, PySem.W.mg_of X G a5, b5⟩, D_free_at := ⟨F6, PySem.W.mg_of X G a6, b6⟩, D_chain_at := ⟨F7, PySem.W.mg_of X G a7, b7⟩, D_place := ⟨F8.plain, PySem.W.mg_of X G a8, b8⟩, D_far_side := ⟨F9, PySem.W.mg_of X G a9, b9⟩, D_ways := ⟨F10, PySem.W.mg_of X G a10, b10⟩, D_turn := ⟨F11, PySem.W.mg_of X G a11, b11⟩, F_Hall_init := F12, b_Hall_init := b12, D_Hall_come := ⟨F13, ⟨a13, i13, k13⟩, b13⟩, D_Hall_go := ⟨F14, ⟨a14, i14, k14⟩, b14⟩, D_Hall_count := ⟨F15, ⟨a15, i15, k15⟩, b15⟩, D_Hall_pairs := ⟨F16, ⟨a16, i16, k16⟩, b16⟩, D_Hall_hue_of := ⟨F17, ⟨a17, i17, k17⟩, b17⟩, D_Hall_of_hue := ⟨F18, ⟨a18, i18, k18⟩, b18⟩, D_Hall_free := ⟨F19, ⟨a19, i19, k19⟩, b19⟩, D_Hall_fullest := ⟨F20, ⟨a20, i20, k20⟩, b20⟩, D_Hall_chain := ⟨F21, ⟨a21, i21, k21⟩, b21⟩, D_Hall_check_end := ⟨F22, ⟨a22, i22, k22⟩, b22⟩, D_Hall_check_number := ⟨F23, ⟨a23, i23, k23⟩, b23⟩, D_Hall_check_hue := ⟨F24, ⟨a24, i24, k24⟩, b24⟩, D_Hall_numbers_of := ⟨F25, ⟨a25, i25, k25⟩, b25⟩, D_Hall_place_anew := ⟨F26, ⟨a26, i26, k26⟩, b26⟩, D_Hall_as_full := ⟨F27, ⟨a27, i27, k27⟩, b27⟩, D_is_whole := ⟨F28, PySem.W.mg_of X G a28, b28⟩, D_is_within := ⟨F29, PySem.W.mg_of X G a29, b29⟩, D_side_of := ⟨F30, PySem.W.mg_of X G a30, b30⟩, D_hued := ⟨F31, PySem.W.mg_of X G a31, b31⟩, D_l_cell_at := ⟨F32, PySem.W.mg_of X G a32, b32⟩, D_l_mixed := ⟨F33, PySem.W.mg_of X G a33, b33⟩, D_l_whole := ⟨F34, PySem.W.mg_of X G a34, b34⟩, D_l_sizes_by := ⟨F35, PySem.W.mg_of X G a35, b35⟩, D_l_ends := ⟨F36, PySem.W.mg_of X G a36, b36⟩, D_l_pairs := ⟨F37, PySem.W.mg_of X G a37, b37⟩, D_l_told := ⟨F38, PySem.W.mg_of X G a38, b38⟩, D_l_hall := ⟨F39, PySem.W.mg_of X G a39, b39⟩, D_law := ⟨F40, PySem.W.mg_of X G a40, b40⟩, FC_place := F8, FC_is_good := F2, z_all := PySem.W.mg_none_of X G z_all, z_bool := PySem.W.mg_none_of X G z_bool, z_dict := PySem.W.mg_none_of X G z_dict, z_enumerate := PySem.W.mg_none_of X G z_enumerate, z_int := PySem.W.mg_none_of X G z_int, z_isinstance := PySem.W.mg_none_of X G z_isinstance, z_len := PySem.W.mg_none_of X G z_len, z_list := PySem.W.mg_none_of X G z_list, z_max := PySem.W.mg_none_of X G z_max, z_min := PySem.W.mg_none_of X G z_min, z_range := PySem.W.mg_none_of X G z_range, z_set := PySem.W.mg_none_of X G z_set, z_sorted := PySem.W.mg_none_of X G z_sorted, z_str := PySem.W.mg_none_of X G z_str, z_type := PySem.W.mg_none_of X G z_type, z_zip := PySem.W.mg_none_of X G z_zip, c_HUE := ⟨_, PySem.W.mg_of X G c_HUE⟩, c_LEFT := ⟨_, PySem.W.mg_of X G c_LEFT⟩, c_MOST_ENDS := ⟨_, PySem.W.mg_of X G c_MOST_ENDS⟩, c_MOST_PAIRS := ⟨_, PySem.W.mg_of X G c_MOST_PAIRS⟩, c_RIGHT := ⟨_, PySem.W.mg_of X G c_RIGHT⟩, cl_Hall := ⟨pg, hd, po, sa⟩, g_Hall := PySem.W.mg_of X G g_Hall, M_Hall := ⟨mk, a12, i12, kc⟩, nA_ends := nA_ends, nA_rows := nA_rows, nA_next := nA_next, x_PairError := ⟨PySem.W.mg_of X G gE_PairError, xE_PairError, kE_PairError, bE_PairError, tE_PairError⟩, x_BadCount := ⟨PySem.W.mg_of X G gE_BadCount, xE_BadCount, kE_BadCount, bE_BadCount, tE_BadCount⟩, x_BadSide := ⟨PySem.W.mg_of X G gE_BadSide, xE_BadSide, kE_BadSide, bE_BadSide, tE_BadSide⟩, x_BadEnd := ⟨PySem.W.mg_of X G gE_BadEnd, xE_BadEnd, kE_BadEnd, bE_BadEnd, tE_BadEnd⟩, x_TooMany := ⟨PySem.W.mg_of X G gE_TooMany, xE_TooMany, kE_TooMany, bE_TooMany, tE_TooMany⟩, x_NoPair := ⟨PySem.W.mg_of X G gE_NoPair, xE_NoPair, kE_NoPair, bE_NoPair, tE_NoPair⟩, x_BadHue := ⟨PySem.W.mg_of X G gE_BadHue, xE_BadHue, kE_BadHue, bE_BadHue, tE_BadHue⟩, x_NotFree := ⟨PySem.W.mg_of X G gE_NotFree, xE_NotFree, kE_NotFree, bE_NotFree, tE_NotFree⟩, q_BadEnd := ⟨hgE_BadEnd, hkE_BadEnd, hsE_BadEnd, hdE_BadEnd, haE_BadEnd, exn, ext, hmE_BadEnd⟩, q_TooMany := ⟨hgE_TooMany, hkE_TooMany, hsE_TooMany, hdE_TooMany, haE_TooMany, exn, ext, hmE_TooMany⟩, i_BadEnd_BadEnd := i_BadEnd_BadEnd, i_BadEnd_TooMany := i_BadEnd_TooMany, i_TooMany_BadEnd := i_TooMany_BadEnd, i_TooMany_TooMany := i_TooMany_TooMany, e_BadEnd_PairError := e_BadEnd_PairError, e_TooMany_PairError := e_TooMany_PairError }, rfl, rfl, rfl, rfl, rfl, rfl⟩
/-- the head of the law -/
theorem head_mk {l : PySem.W.OpenLaw} {w : World} {K : PySem.W.Frag} {h : Heap} {mg : Str → Option Value} {fa : Addr} {C_Hall E_PairError E_BadCount E_BadSide E_BadEnd E_TooMany E_NoPair E_BadHue E_NotFree f0 f1 f2 f3 f4 f5 f6 f7 f8 f9 f10 f11 f12 f13 f14 f15 f16 f17 f18 f19 f20 f21 f22 f23 f24 f25 f26 f27 f28 f29 f30 f31 f32 f33 f34 f35 f36 f37 f38 f39 f40 : Addr} {c PT cg PG : Addr} (X : K.In h) (G : h.Ns mainGlobals mg) (hfa : mg "law" = some (.ref fa))
    {od0 an0 od1 an1 od2 an2 od3 an3 od4 an4 od5 an5 od6 an6 od7 an7 od8 an8 od9 an9 od10 an10 od11 an11 od12 an12 od13 an13 od14 an14 od15 an15 od16 an16 od17 an17 od18 an18 od19 an19 od20 an20 od21 an21 od22 an22 od23 an23 od24 an24 od25 an25 od26 an26 od27 an27 od28 an28 od29 an29 od30 an30 od31 an31 od32 an32 od33 an33 od34 an34 od35 an35 od36 an36 od37 an37 od38 an38 od39 an39 od40 an40 : Option Addr} {sl0 sl1 sl2 sl3 sl4 sl5 sl6 sl7 sl8 sl9 sl10 sl11 sl12 sl13 sl14 sl15 sl16 sl17 sl18 sl19 sl20 sl21 sl22 sl23 sl24 sl25 sl26 sl27 sl28 sl29 sl30 sl31 sl32 sl33 sl34 sl35 sl36 sl37 sl38 sl39 sl40 : Array (Option Value)}
    {oc0 kV0 dc0 pm0 ct0 cd0 oc1 kV1 dc1 pm1 ct1 cd1 oc2 kV2 dc2 pm2 ct2 oc3 kV3 dc3 pm3 ct3 cd3 oc4 kV4 dc4 pm4 ct4 cd4 oc5 kV5 dc5 pm5 ct5 cd5 oc6 kV6 dc6 pm6 ct6 cd6 oc7 kV7 dc7 pm7 ct7 cd7 oc8 kV8 dc8 pm8 ct8 oc9 kV9 dc9 pm9 ct9 cd9 oc10 kV10 dc10 pm10 ct10 cd10 oc11 kV11 dc11 pm11 ct11 cd11 oc12 kV12 dc12 pm12 ct12 cd12 oc13 kV13 dc13 pm13 ct13 cd13 oc14 kV14 dc14 pm14 ct14 cd14 oc15 kV15 dc15 pm15 ct15 cd15 oc16 kV16 dc16 pm16 ct16 cd16 oc17 kV17 dc17 pm17 ct17 cd17 oc18 kV18 dc18 pm18 ct18 cd18 oc19 kV19 dc19 pm19 ct19 cd19 oc20 kV20 dc20 pm20 ct20 cd20 oc21 kV21 dc21 pm21 ct21 cd21 oc22 kV22 dc22 pm22 ct22 cd22 oc23 kV23 dc23 pm23 ct23 cd23 oc24 kV24 dc24 pm24 ct24 cd24 oc25 kV25 dc25 pm25 ct25 cd25 oc26 kV26 dc26 pm26 ct26 cd26 oc27 kV27 dc27 pm27 ct27 cd27 oc28 kV28 dc28 pm28 ct28 cd28 oc29 kV29 dc29 pm29 ct29 cd29 oc30 kV30 dc30 pm30 ct30 cd30 oc31 kV31 dc31 pm31 ct31 cd31 oc32 kV32 dc32 pm32 ct32 cd32 oc33 kV33 dc33 pm33 ct33 cd33 oc34 kV34 dc34 pm34 ct34 cd34 oc35 kV35 dc35 pm35 ct35 cd35 oc36 kV36 dc36 pm36 ct36 cd36 oc37 kV37 dc37 pm37 ct37 cd37 oc38 kV38 dc38 pm38 ct38 cd38 oc39 kV39 dc39 pm39 ct39 cd39 oc40 kV40 dc40 pm40 ct40 cd40 : Value} {t_c_HUE t_c_LEFT t_c_MOST_ENDS t_c_MOST_PAIRS t_c_RIGHT : Tok}
    (a0 : PySem.W.nsIn K mainGlobals "_wall" = some (some (.ref f0)))
    (l0 : K.lookup f0 = some ⟨oc0, od0, .func (PySem.W.fnOf "_wall" "_wall" (defArgs s_wall) (defBody s_wall) (defScope s_wall) .none kV0 dc0 pm0 an0 cd0 ct0), sl0⟩) (c0 : PySem.W.codeIn K cd0 "_wall" = true) (k0 : PySem.W.keepIn K (.ref f0) = true)
    (a1 : PySem.W.nsIn K mainGlobals "count_of" = some (some (.ref f1)))
    (l1 : K.lookup f1 = some ⟨oc1, od1, .func (PySem.W.fnOf "count_of" "count_of" (defArgs s_count_of) (defBody s_count_of) (defScope s_count_of) .none kV1 dc1 pm1 an1 cd1 ct1), sl1⟩) (c1 : PySem.W.codeIn K cd1 "count_of" = true) (k1 : PySem.W.keepIn K (.ref f1) = true)
    (a2 : PySem.W.nsIn K mainGlobals "is_good" = some (some (.ref f2)))
    (l2 : K.lookup f2 = some ⟨oc2, od2, .func (PySem.W.fnOf "is_good" "is_good" (defArgs s_is_good) (defBody s_is_good) (defScope s_is_good) .none kV2 dc2 pm2 an2 (.ref cg) ct2), sl2⟩) (c2 : PySem.W.codeIn K (.ref cg) "is_good" = true) (k2 : PySem.W.keepIn K (.ref f2) = true)
    (a3 : PySem.W.nsIn K mainGlobals "_most_at" = some (some (.ref f3)))
    (l3 : K.lookup f3 = some ⟨oc3, od3, .func (PySem.W.fnOf "_most_at" "_most_at" (defArgs s_most_at) (defBody s_most_at) (defScope s_most_at) .none kV3 dc3 pm3 an3 cd3 ct3), sl3⟩) (c3 : PySem.W.codeIn K cd3 "_most_at" = true) (k3 : PySem.W.keepIn K (.ref f3) = true)
    (a4 : PySem.W.nsIn K mainGlobals "_hues_differ" = some (some (.ref f4)))
    (l4 : K.lookup f4 = some ⟨oc4, od4, .func (PySem.W.fnOf "_hues_differ" "_hues_differ" (defArgs s_hues_differ) (defBody s_hues_differ) (defScope s_hues_differ) .none kV4 dc4 pm4 an4 cd4 ct4), sl4⟩) (c4 : PySem.W.codeIn K cd4 "_hues_differ" = true) (k4 : PySem.W.keepIn K (.ref f4) = true)
    (a5 : PySem.W.nsIn K mainGlobals "table_of" = some (some (.ref f5)))
    (l5 : K.lookup f5 = some ⟨oc5, od5, .func (PySem.W.fnOf "table_of" "table_of" (defArgs s_table_of) (defBody s_table_of) (defScope s_table_of) .none kV5 dc5 pm5 an5 cd5 ct5), sl5⟩) (c5 : PySem.W.codeIn K cd5 "table_of" = true) (k5 : PySem.W.keepIn K (.ref f5) = true)
    (a6 : PySem.W.nsIn K mainGlobals "free_at" = some (some (.ref f6)))
    (l6 : K.lookup f6 = some ⟨oc6, od6, .func (PySem.W.fnOf "free_at" "free_at" (defArgs s_free_at) (defBody s_free_at) (defScope s_free_at) .none kV6 dc6 pm6 an6 cd6 ct6), sl6⟩) (c6 : PySem.W.codeIn K cd6 "free_at" = true) (k6 : PySem.W.keepIn K (.ref f6) = true)
    (a7 : PySem.W.nsIn K mainGlobals "chain_at" = some (some (.ref f7)))
    (l7 : K.lookup f7 = some ⟨oc7, od7, .func (PySem.W.fnOf "chain_at" "chain_at" (defArgs s_chain_at) (defBody s_chain_at) (defScope s_chain_at) .none kV7 dc7 pm7 an7 cd7 ct7), sl7⟩) (c7 : PySem.W.codeIn K cd7 "chain_at" = true) (k7 : PySem.W.keepIn K (.ref f7) = true)
    (a8 : PySem.W.nsIn K mainGlobals "place" = some (some (.ref f8)))
    (l8 : K.lookup f8 = some ⟨oc8, od8, .func (PySem.W.fnOf "place" "place" (defArgs s_place) (defBody s_place) (defScope s_place) .none kV8 dc8 pm8 an8 (.ref c) ct8), sl8⟩) (c8 : PySem.W.codeIn K (.ref c) "place" = true) (k8 : PySem.W.keepIn K (.ref f8) = true)
    (a9 : PySem.W.nsIn K mainGlobals "_far_side" = some (some (.ref f9)))
    (l9 : K.lookup f9 = some ⟨oc9, od9, .func (PySem.W.fnOf "_far_side" "_far_side" (defArgs s_far_side) (defBody s_far_side) (defScope s_far_side) .none kV9 dc9 pm9 an9 cd9 ct9), sl9⟩) (c9 : PySem.W.codeIn K cd9 "_far_side" = true) (k9 : PySem.W.keepIn K (.ref f9) = true)
    (a10 : PySem.W.nsIn K mainGlobals "_ways" = some (some (.ref f10)))
    (l10 : K.lookup f10 = some ⟨oc10, od10, .func (PySem.W.fnOf "_ways" "_ways" (defArgs s_ways) (defBody s_ways) (defScope s_ways) .none kV10 dc10 pm10 an10 cd10 ct10), sl10⟩) (c10 : PySem.W.codeIn K cd10 "_ways" = true) (k10 : PySem.W.keepIn K (.ref f10) = true)
    (a11 : PySem.W.nsIn K mainGlobals "_turn" = some (some (.ref f11)))
    (l11 : K.lookup f11 = some ⟨oc11, od11, .func (PySem.W.fnOf "_turn" "_turn" (defArgs s_turn) (defBody s_turn) (defScope s_turn) .none kV11 dc11 pm11 an11 cd11 ct11), sl11⟩) (c11 : PySem.W.codeIn K cd11 "_turn" = true) (k11 : PySem.W.keepIn K (.ref f11) = true)
    (a12 : PySem.W.findIn K (.ref C_Hall) "__init__" = some (some (.ref f12))) (i12 : PySem.W.isFn K (.ref f12) = true)
    (l12 : K.lookup f12 = some ⟨oc12, od12, .func (PySem.W.fnOf "__init__" "Hall.__init__" (defArgs s_Hall_init) (defBody s_Hall_init) (defScope s_Hall_init) .none kV12 dc12 pm12 an12 cd12 ct12), sl12⟩) (c12 : PySem.W.codeIn K cd12 "Hall.__init__" = true) (k12 : PySem.W.keepIn K (.ref f12) = true)
    (a13 : PySem.W.findIn K (.ref C_Hall) "come" = some (some (.ref f13))) (i13 : PySem.W.isFn K (.ref f13) = true)
    (l13 : K.lookup f13 = some ⟨oc13, od13, .func (PySem.W.fnOf "come" "Hall.come" (defArgs s_Hall_come) (defBody s_Hall_come) (defScope s_Hall_come) .none kV13 dc13 pm13 an13 cd13 ct13), sl13⟩) (c13 : PySem.W.codeIn K cd13 "Hall.come" = true) (k13 : PySem.W.keepIn K (.ref f13) = true)
    (a14 : PySem.W.findIn K (.ref C_Hall) "go" = some (some (.ref f14))) (i14 : PySem.W.isFn K (.ref f14) = true)
    (l14 : K.lookup f14 = some ⟨oc14, od14, .func (PySem.W.fnOf "go" "Hall.go" (defArgs s_Hall_go) (defBody s_Hall_go) (defScope s_Hall_go) .none kV14 dc14 pm14 an14 cd14 ct14), sl14⟩) (c14 : PySem.W.codeIn K cd14 "Hall.go" = true) (k14 : PySem.W.keepIn K (.ref f14) = true)
    (a15 : PySem.W.findIn K (.ref C_Hall) "count" = some (some (.ref f15))) (i15 : PySem.W.isFn K (.ref f15) = true)
    (l15 : K.lookup f15 = some ⟨oc15, od15, .func (PySem.W.fnOf "count" "Hall.count" (defArgs s_Hall_count) (defBody s_Hall_count) (defScope s_Hall_count) .none kV15 dc15 pm15 an15 cd15 ct15), sl15⟩) (c15 : PySem.W.codeIn K cd15 "Hall.count" = true) (k15 : PySem.W.keepIn K (.ref f15) = true)
    (a16 : PySem.W.findIn K (.ref C_Hall) "pairs" = some (some (.ref f16))) (i16 : PySem.W.isFn K (.ref f16) = true)
    (l16 : K.lookup f16 = some ⟨oc16, od16, .func (PySem.W.fnOf "pairs" "Hall.pairs" (defArgs s_Hall_pairs) (defBody s_Hall_pairs) (defScope s_Hall_pairs) .none kV16 dc16 pm16 an16 cd16 ct16), sl16⟩) (c16 : PySem.W.codeIn K cd16 "Hall.pairs" = true) (k16 : PySem.W.keepIn K (.ref f16) = true)
    (a17 : PySem.W.findIn K (.ref C_Hall) "hue_of" = some (some (.ref f17))) (i17 : PySem.W.isFn K (.ref f17) = true)
    (l17 : K.lookup f17 = some ⟨oc17, od17, .func (PySem.W.fnOf "hue_of" "Hall.hue_of" (defArgs s_Hall_hue_of) (defBody s_Hall_hue_of) (defScope s_Hall_hue_of) .none kV17 dc17 pm17 an17 cd17 ct17), sl17⟩) (c17 : PySem.W.codeIn K cd17 "Hall.hue_of" = true) (k17 : PySem.W.keepIn K (.ref f17) = true)
    (a18 : PySem.W.findIn K (.ref C_Hall) "of_hue" = some (some (.ref f18))) (i18 : PySem.W.isFn K (.ref f18) = true)
    (l18 : K.lookup f18 = some ⟨oc18, od18, .func (PySem.W.fnOf "of_hue" "Hall.of_hue" (defArgs s_Hall_of_hue) (defBody s_Hall_of_hue) (defScope s_Hall_of_hue) .none kV18 dc18 pm18 an18 cd18 ct18), sl18⟩) (c18 : PySem.W.codeIn K cd18 "Hall.of_hue" = true) (k18 : PySem.W.keepIn K (.ref f18) = true)
    (a19 : PySem.W.findIn K (.ref C_Hall) "free" = some (some (.ref f19))) (i19 : PySem.W.isFn K (.ref f19) = true)
    (l19 : K.lookup f19 = some ⟨oc19, od19, .func (PySem.W.fnOf "free" "Hall.free" (defArgs s_Hall_free) (defBody s_Hall_free) (defScope s_Hall_free) .none kV19 dc19 pm19 an19 cd19 ct19), sl19⟩) (c19 : PySem.W.codeIn K cd19 "Hall.free" = true) (k19 : PySem.W.keepIn K (.ref f19) = true)
    (a20 : PySem.W.findIn K (.ref C_Hall) "fullest" = some (some (.ref f20))) (i20 : PySem.W.isFn K (.ref f20) = true)
    (l20 : K.lookup f20 = some ⟨oc20, od20, .func (PySem.W.fnOf "fullest" "Hall.fullest" (defArgs s_Hall_fullest) (defBody s_Hall_fullest) (defScope s_Hall_fullest) .none kV20 dc20 pm20 an20 cd20 ct20), sl20⟩) (c20 : PySem.W.codeIn K cd20 "Hall.fullest" = true) (k20 : PySem.W.keepIn K (.ref f20) = true)
    (a21 : PySem.W.findIn K (.ref C_Hall) "chain" = some (some (.ref f21))) (i21 : PySem.W.isFn K (.ref f21) = true)
    (l21 : K.lookup f21 = some ⟨oc21, od21, .func (PySem.W.fnOf "chain" "Hall.chain" (defArgs s_Hall_chain) (defBody s_Hall_chain) (defScope s_Hall_chain) .none kV21 dc21 pm21 an21 cd21 ct21), sl21⟩) (c21 : PySem.W.codeIn K cd21 "Hall.chain" = true) (k21 : PySem.W.keepIn K (.ref f21) = true)
    (a22 : PySem.W.findIn K (.ref C_Hall) "_check_end" = some (some (.ref f22))) (i22 : PySem.W.isFn K (.ref f22) = true)
    (l22 : K.lookup f22 = some ⟨oc22, od22, .func (PySem.W.fnOf "_check_end" "Hall._check_end" (defArgs s_Hall_check_end) (defBody s_Hall_check_end) (defScope s_Hall_check_end) .none kV22 dc22 pm22 an22 cd22 ct22), sl22⟩) (c22 : PySem.W.codeIn K cd22 "Hall._check_end" = true) (k22 : PySem.W.keepIn K (.ref f22) = true)
    (a23 : PySem.W.findIn K (.ref C_Hall) "_check_number" = some (some (.ref f23))) (i23 : PySem.W.isFn K (.ref f23) = true)
    (l23 : K.lookup f23 = some ⟨oc23, od23, .func (PySem.W.fnOf "_check_number" "Hall._check_number" (defArgs s_Hall_check_number) (defBody s_Hall_check_number) (defScope s_Hall_check_number) .none kV23 dc23 pm23 an23 cd23 ct23), sl23⟩) (c23 : PySem.W.codeIn K cd23 "Hall._check_number" = true) (k23 : PySem.W.keepIn K (.ref f23) = true)
    (a24 : PySem.W.findIn K (.ref C_Hall) "_check_hue" = some (some (.ref f24))) (i24 : PySem.W.isFn K (.ref f24) = true)
    (l24 : K.lookup f24 = some ⟨oc24, od24, .func (PySem.W.fnOf "_check_hue" "Hall._check_hue" (defArgs s_Hall_check_hue) (defBody s_Hall_check_hue) (defScope s_Hall_check_hue) .none kV24 dc24 pm24 an24 cd24 ct24), sl24⟩) (c24 : PySem.W.codeIn K cd24 "Hall._check_hue" = true) (k24 : PySem.W.keepIn K (.ref f24) = true)
    (a25 : PySem.W.findIn K (.ref C_Hall) "_numbers_of" = some (some (.ref f25))) (i25 : PySem.W.isFn K (.ref f25) = true)
    (l25 : K.lookup f25 = some ⟨oc25, od25, .func (PySem.W.fnOf "_numbers_of" "Hall._numbers_of" (defArgs s_Hall_numbers_of) (defBody s_Hall_numbers_of) (defScope s_Hall_numbers_of) .none kV25 dc25 pm25 an25 cd25 ct25), sl25⟩) (c25 : PySem.W.codeIn K cd25 "Hall._numbers_of" = true) (k25 : PySem.W.keepIn K (.ref f25) = true)
    (a26 : PySem.W.findIn K (.ref C_Hall) "_place_anew" = some (some (.ref f26))) (i26 : PySem.W.isFn K (.ref f26) = true)
    (l26 : K.lookup f26 = some ⟨oc26, od26, .func (PySem.W.fnOf "_place_anew" "Hall._place_anew" (defArgs s_Hall_place_anew) (defBody s_Hall_place_anew) (defScope s_Hall_place_anew) .none kV26 dc26 pm26 an26 cd26 ct26), sl26⟩) (c26 : PySem.W.codeIn K cd26 "Hall._place_anew" = true) (k26 : PySem.W.keepIn K (.ref f26) = true)
    (a27 : PySem.W.findIn K (.ref C_Hall) "_as_full" = some (some (.ref f27))) (i27 : PySem.W.isFn K (.ref f27) = true)
    (l27 : K.lookup f27 = some ⟨oc27, od27, .func (PySem.W.fnOf "_as_full" "Hall._as_full" (defArgs s_Hall_as_full) (defBody s_Hall_as_full) (defScope s_Hall_as_full) .none kV27 dc27 pm27 an27 cd27 ct27), sl27⟩) (c27 : PySem.W.codeIn K cd27 "Hall._as_full" = true) (k27 : PySem.W.keepIn K (.ref f27) = true)
    (a28 : PySem.W.nsIn K mainGlobals "_is_whole" = some (some (.ref f28)))
    (l28 : K.lookup f28 = some ⟨oc28, od28, .func (PySem.W.fnOf "_is_whole" "_is_whole" (defArgs s_is_whole) (defBody s_is_whole) (defScope s_is_whole) .none kV28 dc28 pm28 an28 cd28 ct28), sl28⟩) (c28 : PySem.W.codeIn K cd28 "_is_whole" = true) (k28 : PySem.W.keepIn K (.ref f28) = true)
    (a29 : PySem.W.nsIn K mainGlobals "_is_within" = some (some (.ref f29)))
    (l29 : K.lookup f29 = some ⟨oc29, od29, .func (PySem.W.fnOf "_is_within" "_is_within" (defArgs s_is_within) (defBody s_is_within) (defScope s_is_within) .none kV29 dc29 pm29 an29 cd29 ct29), sl29⟩) (c29 : PySem.W.codeIn K cd29 "_is_within" = true) (k29 : PySem.W.keepIn K (.ref f29) = true)
    (a30 : PySem.W.nsIn K mainGlobals "_side_of" = some (some (.ref f30)))
    (l30 : K.lookup f30 = some ⟨oc30, od30, .func (PySem.W.fnOf "_side_of" "_side_of" (defArgs s_side_of) (defBody s_side_of) (defScope s_side_of) .none kV30 dc30 pm30 an30 cd30 ct30), sl30⟩) (c30 : PySem.W.codeIn K cd30 "_side_of" = true) (k30 : PySem.W.keepIn K (.ref f30) = true)
    (a31 : PySem.W.nsIn K mainGlobals "hued" = some (some (.ref f31)))
    (l31 : K.lookup f31 = some ⟨oc31, od31, .func (PySem.W.fnOf "hued" "hued" (defArgs s_hued) (defBody s_hued) (defScope s_hued) .none kV31 dc31 pm31 an31 cd31 ct31), sl31⟩) (c31 : PySem.W.codeIn K cd31 "hued" = true) (k31 : PySem.W.keepIn K (.ref f31) = true)
    (a32 : PySem.W.nsIn K mainGlobals "_law_cell_at" = some (some (.ref f32)))
    (l32 : K.lookup f32 = some ⟨oc32, od32, .func (PySem.W.fnOf "_law_cell_at" "_law_cell_at" (defArgs s_l_cell_at) (defBody s_l_cell_at) (defScope s_l_cell_at) .none kV32 dc32 pm32 an32 cd32 ct32), sl32⟩) (c32 : PySem.W.codeIn K cd32 "_law_cell_at" = true) (k32 : PySem.W.keepIn K (.ref f32) = true)
    (a33 : PySem.W.nsIn K mainGlobals "_law_mixed" = some (some (.ref f33)))
    (l33 : K.lookup f33 = some ⟨oc33, od33, .func (PySem.W.fnOf "_law_mixed" "_law_mixed" (defArgs s_l_mixed) (defBody s_l_mixed) (defScope s_l_mixed) .none kV33 dc33 pm33 an33 cd33 ct33), sl33⟩) (c33 : PySem.W.codeIn K cd33 "_law_mixed" = true) (k33 : PySem.W.keepIn K (.ref f33) = true)
    (a34 : PySem.W.nsIn K mainGlobals "_law_whole" = some (some (.ref f34)))
    (l34 : K.lookup f34 = some ⟨oc34, od34, .func (PySem.W.fnOf "_law_whole" "_law_whole" (defArgs s_l_whole) (defBody s_l_whole) (defScope s_l_whole) .none kV34 dc34 pm34 an34 cd34 ct34), sl34⟩) (c34 : PySem.W.codeIn K cd34 "_law_whole" = true) (k34 : PySem.W.keepIn K (.ref f34) = true)
    (a35 : PySem.W.nsIn K mainGlobals "_law_sizes_by" = some (some (.ref f35)))
    (l35 : K.lookup f35 = some ⟨oc35, od35, .func (PySem.W.fnOf "_law_sizes_by" "_law_sizes_by" (defArgs s_l_sizes_by) (defBody s_l_sizes_by) (defScope s_l_sizes_by) .none kV35 dc35 pm35 an35 cd35 ct35), sl35⟩) (c35 : PySem.W.codeIn K cd35 "_law_sizes_by" = true) (k35 : PySem.W.keepIn K (.ref f35) = true)
    (a36 : PySem.W.nsIn K mainGlobals "_law_ends" = some (some (.ref f36)))
    (l36 : K.lookup f36 = some ⟨oc36, od36, .func (PySem.W.fnOf "_law_ends" "_law_ends" (defArgs s_l_ends) (defBody s_l_ends) (defScope s_l_ends) .none kV36 dc36 pm36 an36 cd36 ct36), sl36⟩) (c36 : PySem.W.codeIn K cd36 "_law_ends" = true) (k36 : PySem.W.keepIn K (.ref f36) = true)
    (a37 : PySem.W.nsIn K mainGlobals "_law_pairs" = some (some (.ref f37)))
    (l37 : K.lookup f37 = some ⟨oc37, od37, .func (PySem.W.fnOf "_law_pairs" "_law_pairs" (defArgs s_l_pairs) (defBody s_l_pairs) (defScope s_l_pairs) .none kV37 dc37 pm37 an37 cd37 ct37), sl37⟩) (c37 : PySem.W.codeIn K cd37 "_law_pairs" = true) (k37 : PySem.W.keepIn K (.ref f37) = true)
    (a38 : PySem.W.nsIn K mainGlobals "_law_told" = some (some (.ref f38)))
    (l38 : K.lookup f38 = some ⟨oc38, od38, .func (PySem.W.fnOf "_law_told" "_law_told" (defArgs s_l_told) (defBody s_l_told) (defScope s_l_told) .none kV38 dc38 pm38 an38 cd38 ct38), sl38⟩) (c38 : PySem.W.codeIn K cd38 "_law_told" = true) (k38 : PySem.W.keepIn K (.ref f38) = true)
    (a39 : PySem.W.nsIn K mainGlobals "_law_hall" = some (some (.ref f39)))
    (l39 : K.lookup f39 = some ⟨oc39, od39, .func (PySem.W.fnOf "_law_hall" "_law_hall" (defArgs s_l_hall) (defBody s_l_hall) (defScope s_l_hall) .none kV39 dc39 pm39 an39 cd39 ct39), sl39⟩) (c39 : PySem.W.codeIn K cd39 "_law_hall" = true) (k39 : PySem.W.keepIn K (.ref f39) = true)
    (a40 : PySem.W.nsIn K mainGlobals "law" = some (some (.ref f40)))
    (l40 : K.lookup f40 = some ⟨oc40, od40, .func (PySem.W.fnOf "law" "law" (defArgs s_law) (defBody s_law) (defScope s_law) .none kV40 dc40 pm40 an40 cd40 ct40), sl40⟩) (c40 : PySem.W.codeIn K cd40 "law" = true) (k40 : PySem.W.keepIn K (.ref f40) = true)
    (z_all : PySem.W.nsIn K mainGlobals "all" = some none)
    (z_bool : PySem.W.nsIn K mainGlobals "bool" = some none)
    (z_dict : PySem.W.nsIn K mainGlobals "dict" = some none)
    (z_enumerate : PySem.W.nsIn K mainGlobals "enumerate" = some none)
    (z_int : PySem.W.nsIn K mainGlobals "int" = some none)
    (z_isinstance : PySem.W.nsIn K mainGlobals "isinstance" = some none)
    (z_len : PySem.W.nsIn K mainGlobals "len" = some none)
    (z_list : PySem.W.nsIn K mainGlobals "list" = some none)
    (z_max : PySem.W.nsIn K mainGlobals "max" = some none)
    (z_min : PySem.W.nsIn K mainGlobals "min" = some none)
    (z_range : PySem.W.nsIn K mainGlobals "range" = some none)
    (z_set : PySem.W.nsIn K mainGlobals "set" = some none)
    (z_sorted : PySem.W.nsIn K mainGlobals "sorted" = some none)
    (z_str : PySem.W.nsIn K mainGlobals "str" = some none)
    (z_type : PySem.W.nsIn K mainGlobals "type" = some none)
    (z_zip : PySem.W.nsIn K mainGlobals "zip" = some none)
    (c_HUE : PySem.W.nsIn K mainGlobals "HUE" = some (some (.int 2 t_c_HUE)))
    (c_LEFT : PySem.W.nsIn K mainGlobals "LEFT" = some (some (.int 0 t_c_LEFT)))
    (c_MOST_ENDS : PySem.W.nsIn K mainGlobals "MOST_ENDS" = some (some (.int 8 t_c_MOST_ENDS)))
    (c_MOST_PAIRS : PySem.W.nsIn K mainGlobals "MOST_PAIRS" = some (some (.int 40 t_c_MOST_PAIRS)))
    (c_RIGHT : PySem.W.nsIn K mainGlobals "RIGHT" = some (some (.int 1 t_c_RIGHT)))
    (pg : PySem.W.plainGet K C_Hall Str.empty = true)
    (hd : PySem.W.hasDictIn K C_Hall = true)
    (po : PySem.W.plainOver K C_Hall = true)
    (sa : PySem.W.findIn K (.ref C_Hall) "__setattr__" = some (some (.builtin "object.__setattr__")))
    (mk : PySem.W.makesIn K C_Hall = true)
    (kc : PySem.W.keepIn K (.ref C_Hall) = true)
    (g_Hall : PySem.W.nsIn K mainGlobals "Hall" = some (some (.ref C_Hall)))
    (nA_ends : PySem.W.findIn K (.ref C_Hall) "_ends" = some none)
    (nA_rows : PySem.W.findIn K (.ref C_Hall) "_rows" = some none)
    (nA_next : PySem.W.findIn K (.ref C_Hall) "_next" = some none)
    (gE_PairError : PySem.W.nsIn K mainGlobals "PairError" = some (some (.ref E_PairError))) (xE_PairError : PySem.W.excIn K E_PairError [.type "ValueError", .type "Exception", .type "BaseException", .type "object"] "ValueError.__new__" = true) (kE_PairError : PySem.W.keepIn K (.ref E_PairError) = true) (bE_PairError : PySem.W.subIn K (.ref E_PairError) (.type "BaseException") = some true) (tE_PairError : PySem.W.typeIn K (.ref E_PairError) = some (.type "type"))
    (gE_BadCount : PySem.W.nsIn K mainGlobals "BadCount" = some (some (.ref E_BadCount))) (xE_BadCount : PySem.W.excIn K E_BadCount [.type "ValueError", .type "Exception", .type "BaseException", .type "object"] "ValueError.__new__" = true) (kE_BadCount : PySem.W.keepIn K (.ref E_BadCount) = true) (bE_BadCount : PySem.W.subIn K (.ref E_BadCount) (.type "BaseException") = some true) (tE_BadCount : PySem.W.typeIn K (.ref E_BadCount) = some (.type "type"))
    (gE_BadSide : PySem.W.nsIn K mainGlobals "BadSide" = some (some (.ref E_BadSide))) (xE_BadSide : PySem.W.excIn K E_BadSide [.type "ValueError", .type "Exception", .type "BaseException", .type "object"] "ValueError.__new__" = true) (kE_BadSide : PySem.W.keepIn K (.ref E_BadSide) = true) (bE_BadSide : PySem.W.subIn K (.ref E_BadSide) (.type "BaseException") = some true) (tE_BadSide : PySem.W.typeIn K (.ref E_BadSide) = some (.type "type"))
    (gE_BadEnd : PySem.W.nsIn K mainGlobals "BadEnd" = some (some (.ref E_BadEnd))) (xE_BadEnd : PySem.W.excIn K E_BadEnd [.type "ValueError", .type "Exception", .type "BaseException", .type "object"] "ValueError.__new__" = true) (kE_BadEnd : PySem.W.keepIn K (.ref E_BadEnd) = true) (bE_BadEnd : PySem.W.subIn K (.ref E_BadEnd) (.type "BaseException") = some true) (tE_BadEnd : PySem.W.typeIn K (.ref E_BadEnd) = some (.type "type"))
    (gE_TooMany : PySem.W.nsIn K mainGlobals "TooMany" = some (some (.ref E_TooMany))) (xE_TooMany : PySem.W.excIn K E_TooMany [.type "ValueError", .type "Exception", .type "BaseException", .type "object"] "ValueError.__new__" = true) (kE_TooMany : PySem.W.keepIn K (.ref E_TooMany) = true) (bE_TooMany : PySem.W.subIn K (.ref E_TooMany) (.type "BaseException") = some true) (tE_TooMany : PySem.W.typeIn K (.ref E_TooMany) = some (.type "type"))
    (gE_NoPair : PySem.W.nsIn K mainGlobals "NoPair" = some (some (.ref E_NoPair))) (xE_NoPair : PySem.W.excIn K E_NoPair [.type "ValueError", .type "Exception", .type "BaseException", .type "object"] "ValueError.__new__" = true) (kE_NoPair : PySem.W.keepIn K (.ref E_NoPair) = true) (bE_NoPair : PySem.W.subIn K (.ref E_NoPair) (.type "BaseException") = some true) (tE_NoPair : PySem.W.typeIn K (.ref E_NoPair) = some (.type "type"))
    (gE_BadHue : PySem.W.nsIn K mainGlobals "BadHue" = some (some (.ref E_BadHue))) (xE_BadHue : PySem.W.excIn K E_BadHue [.type "ValueError", .type "Exception", .type "BaseException", .type "object"] "ValueError.__new__" = true) (kE_BadHue : PySem.W.keepIn K (.ref E_BadHue) = true) (bE_BadHue : PySem.W.subIn K (.ref E_BadHue) (.type "BaseException") = some true) (tE_BadHue : PySem.W.typeIn K (.ref E_BadHue) = some (.type "type"))
    (gE_NotFree : PySem.W.nsIn K mainGlobals "NotFree" = some (some (.ref E_NotFree))) (xE_NotFree : PySem.W.excIn K E_NotFree [.type "ValueError", .type "Exception", .type "BaseException", .type "object"] "ValueError.__new__" = true) (kE_NotFree : PySem.W.keepIn K (.ref E_NotFree) = true) (bE_NotFree : PySem.W.subIn K (.ref E_NotFree) (.type "BaseException") = some true) (tE_NotFree : PySem.W.typeIn K (.ref E_NotFree) = some (.type "type"))
    (hgE_BadEnd : PySem.W.findIn K (.ref E_BadEnd) "__getattribute__" = some (some (.builtin "BaseException.__getattribute__")))
    (hkE_BadEnd : PySem.W.findIn K (.ref E_BadEnd) "__getattr__" = some none)
    (hsE_BadEnd : PySem.W.subIn K (.ref E_BadEnd) (.type "BaseException") = some true)
    (hdE_BadEnd : PySem.W.hasDictIn K E_BadEnd = true)
    (haE_BadEnd : PySem.W.findIn K (.ref E_BadEnd) "__class__" = some (some (.builtin "object.__class__")))
    (hmE_BadEnd : PySem.W.mroIn K E_BadEnd (.type "object") = some true)
    (exn : PySem.W.specialIn K (.builtin "object.__class__") "__get__" = some (some (.builtin "getset_descriptor.__get__"))) (ext : PySem.W.takesIn K (.builtin "object.__class__") = some true)
    (hgE_TooMany : PySem.W.findIn K (.ref E_TooMany) "__getattribute__" = some (some (.builtin "BaseException.__getattribute__")))
    (hkE_TooMany : PySem.W.findIn K (.ref E_TooMany) "__getattr__" = some none)
    (hsE_TooMany : PySem.W.subIn K (.ref E_TooMany) (.type "BaseException") = some true)
    (hdE_TooMany : PySem.W.hasDictIn K E_TooMany = true)
    (haE_TooMany : PySem.W.findIn K (.ref E_TooMany) "__class__" = some (some (.builtin "object.__class__")))
    (hmE_TooMany : PySem.W.mroIn K E_TooMany (.type "object") = some true)
    (i_BadEnd_BadEnd : PySem.W.kitOne K (.ref E_BadEnd) (.ref E_BadEnd) = some true)
    (i_BadEnd_TooMany : PySem.W.kitOne K (.ref E_BadEnd) (.ref E_TooMany) = some false)
    (i_TooMany_BadEnd : PySem.W.kitOne K (.ref E_TooMany) (.ref E_BadEnd) = some false)
    (i_TooMany_TooMany : PySem.W.kitOne K (.ref E_TooMany) (.ref E_TooMany) = some true)
    (e_BadEnd_PairError : PySem.W.exmOne K (.ref E_BadEnd) (.ref E_PairError) = some true)
    (e_TooMany_PairError : PySem.W.exmOne K (.ref E_TooMany) (.ref E_PairError) = some true)
    {ec ecg : Value} {dcc dcg : Option Addr} {vsc vsg : Array Value} {slc slg : Array (Option Value)} {ts : List Addr} (lc : K.lookup c = some ⟨ec, dcc, .fields vsc, slc⟩) (vc : vsc[11]? = some (.ref PT)) (cHd : PySem.W.codeHdIn K c PT = true) (hin : PT ∈ ts) (no : K.lookup PT = none) (lcg : K.lookup cg = some ⟨ecg, dcg, .fields vsg, slg⟩) (vcg : vsg[11]? = some (.ref PG)) (nog : K.lookup PG = none) (npg : PT ≠ PG)
    : ∃ (c PT cg PG : Addr) (fd : FuncData), PySem.W.codeHdIn K c PT = true ∧ PT ∈ ts ∧ K.lookup PT = none ∧ PySem.W.tabIn K "is_good" = some (cg, PG) ∧ K.lookup PG = none ∧ PT ≠ PG ∧ (∀ (s : Shared) (v : Value), BindsTo s fd ⟨[v], []⟩ [("_law_script", v)]) ∧ ∀ base : Heap, K.In base → base.Ns mainGlobals mg → LamX.TabB base mg c PT → GxR.TabB base mg cg PG → FnOk l.prog w K mg base CX0 8 fa fd ["_law_script"] (spLaw K ⟨[PG], [(PT, qLam)]⟩) := by
  have e := hfa.symm.trans (PySem.W.mg_of X G a40)
  cases e
  obtain ⟨T, e1, e2, e3, e4, e5, e6⟩ := txt_mk X G a0 l0 c0 k0 a1 l1 c1 k1 a2 l2 c2 k2 a3 l3 c3 k3 a4 l4 c4 k4 a5 l5 c5 k5 a6 l6 c6 k6 a7 l7 c7 k7 a8 l8 c8 k8 a9 l9 c9 k9 a10 l10 c10 k10 a11 l11 c11 k11 a12 i12 l12 c12 k12 a13 i13 l13 c13 k13 a14 i14 l14 c14 k14 a15 i15 l15 c15 k15 a16 i16 l16 c16 k16 a17 i17 l17 c17 k17 a18 i18 l18 c18 k18 a19 i19 l19 c19 k19 a20 i20 l20 c20 k20 a21 i21 l21 c21 k21 a22 i22 l22 c22 k22 a23 i23 l23 c23 k23 a24 i24 l24 c24 k24 a25 i25 l25 c25 k25 a26 i26 l26 c26 k26 a27 i27 l27 c27 k27 a28 l28 c28 k28 a29 l29 c29 k29 a30 l30 c30 k30 a31 l31 c31 k31 a32 l32 c32 k32 a33 l33 c33 k33 a34 l34 c34 k34 a35 l35 c35 k35 a36 l36 c36 k36 a37 l37 c37 k37 a38 l38 c38 k38 a39 l39 c39 k39 a40 l40 c40 k40 z_all z_bool z_dict z_enumerate z_int z_isinstance z_len z_list z_max z_min z_range z_set z_sorted z_str z_type z_zip c_HUE c_LEFT c_MOST_ENDS c_MOST_PAIRS c_RIGHT pg hd po sa mk kc g_Hall nA_ends nA_rows nA_next gE_PairError xE_PairError kE_PairError bE_PairError tE_PairError gE_BadCount xE_BadCount kE_BadCount bE_BadCount tE_BadCount gE_BadSide xE_BadSide kE_BadSide bE_BadSide tE_BadSide gE_BadEnd xE_BadEnd kE_BadEnd bE_BadEnd tE_BadEnd gE_TooMany xE_TooMany kE_TooMany bE_TooMany tE_TooMany gE_NoPair xE_NoPair kE_NoPair bE_NoPair tE_NoPair gE_BadHue xE_BadHue kE_BadHue bE_BadHue tE_BadHue gE_NotFree xE_NotFree kE_NotFree bE_NotFree tE_NotFree hgE_BadEnd hkE_BadEnd hsE_BadEnd hdE_BadEnd haE_BadEnd hmE_BadEnd exn ext hgE_TooMany hkE_TooMany hsE_TooMany hdE_TooMany haE_TooMany hmE_TooMany i_BadEnd_BadEnd i_BadEnd_TooMany i_TooMany_BadEnd i_TooMany_TooMany e_BadEnd_PairError e_TooMany_PairError
  refine ⟨c, PT, cg, PG, T.d_law, cHd, hin, no, tab_mk a2 l2 rfl lcg vcg, nog, npg, fun s v => by rw [e4]; exact .of_eq rfl, fun base _ _ TB TG => ?_⟩
  rw [← e3]
  exact ok_law T (by rw [e5, e6]; exact TG) (by rw [e1, e2]; exact TB) ⟨by rw [e2]; exact List.mem_singleton.mpr rfl, fun q hq _ => by rw [List.mem_singleton.mp hq]⟩ (by rw [e6]; exact List.mem_singleton.mpr rfl) (fun p hp => by rw [List.mem_singleton.mp hp, e6]; exact npg)
end My
open PySem PySem.W PyProof.Rows
set_option maxRecDepth 100000 in
set_option maxHeartbeats 0 in
theorem PySem.Challenge.cw_pairhues_k09_whole_lists_hued_holds : PySem.Challenge.rw_pairhues_k09_whole_lists_hued.Holds := by
  w_on; o_law; k_head; (case hw => w_witness2)
  k_fill
  refine My.walk_tab (l := PySem.Challenge.rw_pairhues_k09_whole_lists_hued) (n := 63) (k := 8) (x := "_law_script") (sp := fun w PT PG => My.spLaw _ ⟨[PG], [(PT, My.qLam)]⟩) rfl (by decide) rfl ⟨rfl, by decide, by decide⟩ (by decide +kernel) (fun w h Y => PySem.W.km_in_of Y) (fun w h Y => PySem.W.km_tabs_of Y) ?F (fun w PT PG H a ns hl hb hH hG hS => ⟨a, ns, rfl, hS, fun p hp => by rw [List.mem_singleton.mp hp]; exact LamX.TabS.nil hH, fun p hp => by rw [List.mem_singleton.mp hp]; exact ⟨_, hG, trivial⟩, fun _ => rfl⟩)
  case F =>
    intro w mg fa h KX G hmg
    refine' My.head_mk KX G hmg ?a0 ?l0 ?c0 ?k0 ?a1 ?l1 ?c1 ?k1 ?a2 ?l2 ?c2 ?k2 ?a3 ?l3 ?c3 ?k3 ?a4 ?l4 ?c4 ?k4 ?a5 ?l5 ?c5 ?k5 ?a6 ?l6 ?c6 ?k6 ?a7 ?l7 ?c7 ?k7 ?a8 ?l8 ?c8 ?k8 ?a9 ?l9 ?c9 ?k9 ?a10 ?l10 ?c10 ?k10 ?a11 ?l11 ?c11 ?k11 ?a12 ?i12 ?l12 ?c12 ?k12 ?a13 ?i13 ?l13 ?c13 ?k13 ?a14 ?i14 ?l14 ?c14 ?k14 ?a15 ?i15 ?l15 ?c15 ?k15 ?a16 ?i16 ?l16 ?c16 ?k16 ?a17 ?i17 ?l17 ?c17 ?k17 ?a18 ?i18 ?l18 ?c18 ?k18 ?a19 ?i19 ?l19 ?c19 ?k19 ?a20 ?i20 ?l20 ?c20 ?k20 ?a21 ?i21 ?l21 ?c21 ?k21 ?a22 ?i22 ?l22 ?c22 ?k22 ?a23 ?i23 ?l23 ?c23 ?k23 ?a24 ?i24 ?l24 ?c24 ?k24 ?a25 ?i25 ?l25 ?c25 ?k25 ?a26 ?i26 ?l26 ?c26 ?k26 ?a27 ?i27 ?l27 ?c27 ?k27 ?a28 ?l28 ?c28 ?k28 ?a29 ?l29 ?c29 ?k29 ?a30 ?l30 ?c30 ?k30 ?a31 ?l31 ?c31 ?k31 ?a32 ?l32 ?c32 ?k32 ?a33 ?l33 ?c33 ?k33 ?a34 ?l34 ?c34 ?k34 ?a35 ?l35 ?c35 ?k35 ?a36 ?l36 ?c36 ?k36 ?a37 ?l37 ?c37 ?k37 ?a38 ?l38 ?c38 ?k38 ?a39 ?l39 ?c39 ?k39 ?a40 ?l40 ?c40 ?k40 ?z_all ?z_bool ?z_dict ?z_enumerate ?z_int ?z_isinstance ?z_len ?z_list ?z_max ?z_min ?z_range ?z_set ?z_sorted ?z_str ?z_type ?z_zip ?c_HUE ?c_LEFT ?c_MOST_ENDS ?c_MOST_PAIRS ?c_RIGHT ?pg ?hd ?po ?sa ?mk ?kc ?g_Hall ?nA_ends ?nA_rows ?nA_next ?gE_PairError ?xE_PairError ?kE_PairError ?bE_PairError ?tE_PairError ?gE_BadCount ?xE_BadCount ?kE_BadCount ?bE_BadCount ?tE_BadCount ?gE_BadSide ?xE_BadSide ?kE_BadSide ?bE_BadSide ?tE_BadSide ?gE_BadEnd ?xE_BadEnd ?kE_BadEnd ?bE_BadEnd ?tE_BadEnd ?gE_TooMany ?xE_TooMany ?kE_TooMany ?bE_TooMany ?tE_TooMany ?gE_NoPair ?xE_NoPair ?kE_NoPair ?bE_NoPair ?tE_NoPair ?gE_BadHue ?xE_BadHue ?kE_BadHue ?bE_BadHue ?tE_BadHue ?gE_NotFree ?xE_NotFree ?kE_NotFree ?bE_NotFree ?tE_NotFree ?hgE_BadEnd ?hkE_BadEnd ?hsE_BadEnd ?hdE_BadEnd ?haE_BadEnd ?hmE_BadEnd ?exn ?ext ?hgE_TooMany ?hkE_TooMany ?hsE_TooMany ?hdE_TooMany ?haE_TooMany ?hmE_TooMany ?i_BadEnd_BadEnd ?i_BadEnd_TooMany ?i_TooMany_BadEnd ?i_TooMany_TooMany ?e_BadEnd_PairError ?e_TooMany_PairError ?lc ?vc ?cHd ?hin ?no ?lcg ?vcg ?nog ?npg
    (case g_Hall => k_is)
    (case gE_PairError => k_is)
    (case gE_BadCount => k_is)
    (case gE_BadSide => k_is)
    (case gE_BadEnd => k_is)
    (case gE_TooMany => k_is)
    (case gE_NoPair => k_is)
    (case gE_BadHue => k_is)
    (case gE_NotFree => k_is)
    (case a0 => k_is)
    (case l0 => k_is)
    (case c0 => k_is)
    (case k0 => k_is)
    (case a1 => k_is)
    (case l1 => k_is)
    (case c1 => k_is)
    (case k1 => k_is)
    (case a2 => k_is)
    (case l2 => k_is)
    (case c2 => k_is)
    (case k2 => k_is)
    (case a3 => k_is)
    (case l3 => k_is)
    (case c3 => k_is)
    (case k3 => k_is)
    (case a4 => k_is)
    (case l4 => k_is)
    (case c4 => k_is)
    (case k4 => k_is)
    (case a5 => k_is)
    (case l5 => k_is)
    (case c5 => k_is)
    (case k5 => k_is)
    (case a6 => k_is)
    (case l6 => k_is)
    (case c6 => k_is)
    (case k6 => k_is)
    (case a7 => k_is)
    (case l7 => k_is)
    (case c7 => k_is)
    (case k7 => k_is)
    (case a8 => k_is)
    (case l8 => k_is)
    (case c8 => k_is)
    (case k8 => k_is)
    (case a9 => k_is)
    (case l9 => k_is)
    (case c9 => k_is)
    (case k9 => k_is)
    (case a10 => k_is)
    (case l10 => k_is)
    (case c10 => k_is)
    (case k10 => k_is)
    (case a11 => k_is)
    (case l11 => k_is)
    (case c11 => k_is)
    (case k11 => k_is)
    (case a12 => k_is)
    (case i12 => k_is)
    (case l12 => k_is)
    (case c12 => k_is)
    (case k12 => k_is)
    (case a13 => k_is)
    (case i13 => k_is)
    (case l13 => k_is)
    (case c13 => k_is)
    (case k13 => k_is)
    (case a14 => k_is)
    (case i14 => k_is)
    (case l14 => k_is)
    (case c14 => k_is)
    (case k14 => k_is)
    (case a15 => k_is)
    (case i15 => k_is)
    (case l15 => k_is)
    (case c15 => k_is)
    (case k15 => k_is)
    (case a16 => k_is)
    (case i16 => k_is)
    (case l16 => k_is)
    (case c16 => k_is)
    (case k16 => k_is)
    (case a17 => k_is)
    (case i17 => k_is)
    (case l17 => k_is)
    (case c17 => k_is)
    (case k17 => k_is)
    (case a18 => k_is)
    (case i18 => k_is)
    (case l18 => k_is)
    (case c18 => k_is)
    (case k18 => k_is)
    (case a19 => k_is)
    (case i19 => k_is)
    (case l19 => k_is)
    (case c19 => k_is)
    (case k19 => k_is)
    (case a20 => k_is)
    (case i20 => k_is)
    (case l20 => k_is)
    (case c20 => k_is)
    (case k20 => k_is)
    (case a21 => k_is)
    (case i21 => k_is)
    (case l21 => k_is)
    (case c21 => k_is)
    (case k21 => k_is)
    (case a22 => k_is)
    (case i22 => k_is)
    (case l22 => k_is)
    (case c22 => k_is)
    (case k22 => k_is)
    (case a23 => k_is)
    (case i23 => k_is)
    (case l23 => k_is)
    (case c23 => k_is)
    (case k23 => k_is)
    (case a24 => k_is)
    (case i24 => k_is)
    (case l24 => k_is)
    (case c24 => k_is)
    (case k24 => k_is)
    (case a25 => k_is)
    (case i25 => k_is)
    (case l25 => k_is)
    (case c25 => k_is)
    (case k25 => k_is)
    (case a26 => k_is)
    (case i26 => k_is)
    (case l26 => k_is)
    (case c26 => k_is)
    (case k26 => k_is)
    (case a27 => k_is)
    (case i27 => k_is)
    (case l27 => k_is)
    (case c27 => k_is)
    (case k27 => k_is)
    (case a28 => k_is)
    (case l28 => k_is)
    (case c28 => k_is)
    (case k28 => k_is)
    (case a29 => k_is)
    (case l29 => k_is)
    (case c29 => k_is)
    (case k29 => k_is)
    (case a30 => k_is)
    (case l30 => k_is)
    (case c30 => k_is)
    (case k30 => k_is)
    (case a31 => k_is)
    (case l31 => k_is)
    (case c31 => k_is)
    (case k31 => k_is)
    (case a32 => k_is)
    (case l32 => k_is)
    (case c32 => k_is)
    (case k32 => k_is)
    (case a33 => k_is)
    (case l33 => k_is)
    (case c33 => k_is)
    (case k33 => k_is)
    (case a34 => k_is)
    (case l34 => k_is)
    (case c34 => k_is)
    (case k34 => k_is)
    (case a35 => k_is)
    (case l35 => k_is)
    (case c35 => k_is)
    (case k35 => k_is)
    (case a36 => k_is)
    (case l36 => k_is)
    (case c36 => k_is)
    (case k36 => k_is)
    (case a37 => k_is)
    (case l37 => k_is)
    (case c37 => k_is)
    (case k37 => k_is)
    (case a38 => k_is)
    (case l38 => k_is)
    (case c38 => k_is)
    (case k38 => k_is)
    (case a39 => k_is)
    (case l39 => k_is)
    (case c39 => k_is)
    (case k39 => k_is)
    (case a40 => k_is)
    (case l40 => k_is)
    (case c40 => k_is)
    (case k40 => k_is)
    (case z_all => k_is)
    (case z_bool => k_is)
    (case z_dict => k_is)
    (case z_enumerate => k_is)
    (case z_int => k_is)
    (case z_isinstance => k_is)
    (case z_len => k_is)
    (case z_list => k_is)
    (case z_max => k_is)
    (case z_min => k_is)
    (case z_range => k_is)
    (case z_set => k_is)
    (case z_sorted => k_is)
    (case z_str => k_is)
    (case z_type => k_is)
    (case z_zip => k_is)
    (case c_HUE => k_is)
    (case c_LEFT => k_is)
    (case c_MOST_ENDS => k_is)
    (case c_MOST_PAIRS => k_is)
    (case c_RIGHT => k_is)
    (case pg => k_is)
    (case hd => k_is)
    (case po => k_is)
    (case sa => k_is)
    (case mk => k_is)
    (case kc => k_is)
    (case nA_ends => k_is)
    (case nA_rows => k_is)
    (case nA_next => k_is)
    (case xE_PairError => k_exc)
    (case kE_PairError => k_is)
    (case bE_PairError => k_is)
    (case tE_PairError => k_is)
    (case xE_BadCount => k_exc)
    (case kE_BadCount => k_is)
    (case bE_BadCount => k_is)
    (case tE_BadCount => k_is)
    (case xE_BadSide => k_exc)
    (case kE_BadSide => k_is)
    (case bE_BadSide => k_is)
    (case tE_BadSide => k_is)
    (case xE_BadEnd => k_exc)
    (case kE_BadEnd => k_is)
    (case bE_BadEnd => k_is)
    (case tE_BadEnd => k_is)
    (case xE_TooMany => k_exc)
    (case kE_TooMany => k_is)
    (case bE_TooMany => k_is)
    (case tE_TooMany => k_is)
    (case xE_NoPair => k_exc)
    (case kE_NoPair => k_is)
    (case bE_NoPair => k_is)
    (case tE_NoPair => k_is)
    (case xE_BadHue => k_exc)
    (case kE_BadHue => k_is)
    (case bE_BadHue => k_is)
    (case tE_BadHue => k_is)
    (case xE_NotFree => k_exc)
    (case kE_NotFree => k_is)
    (case bE_NotFree => k_is)
    (case tE_NotFree => k_is)
    (case hgE_BadEnd => first | k_is | k_exc | rfl | decide +kernel)
    (case hkE_BadEnd => first | k_is | k_exc | rfl | decide +kernel)
    (case hsE_BadEnd => first | k_is | k_exc | rfl | decide +kernel)
    (case hdE_BadEnd => first | k_is | k_exc | rfl | decide +kernel)
    (case haE_BadEnd => first | k_is | k_exc | rfl | decide +kernel)
    (case hmE_BadEnd => first | k_is | k_exc | rfl | decide +kernel)
    (case exn => first | k_is | k_exc | rfl | decide +kernel)
    (case ext => first | k_is | k_exc | rfl | decide +kernel)
    (case hgE_TooMany => first | k_is | k_exc | rfl | decide +kernel)
    (case hkE_TooMany => first | k_is | k_exc | rfl | decide +kernel)
    (case hsE_TooMany => first | k_is | k_exc | rfl | decide +kernel)
    (case hdE_TooMany => first | k_is | k_exc | rfl | decide +kernel)
    (case haE_TooMany => first | k_is | k_exc | rfl | decide +kernel)
    (case hmE_TooMany => first | k_is | k_exc | rfl | decide +kernel)
    (case i_BadEnd_BadEnd => first | kit_is | k_is | rfl | decide +kernel)
    (case i_BadEnd_TooMany => first | kit_is | k_is | rfl | decide +kernel)
    (case i_TooMany_BadEnd => first | kit_is | k_is | rfl | decide +kernel)
    (case i_TooMany_TooMany => first | kit_is | k_is | rfl | decide +kernel)
    (case e_BadEnd_PairError => first | rfl | decide +kernel | k_exc)
    (case e_TooMany_PairError => first | rfl | decide +kernel | k_exc)
    (case lc => k_is)
    (case vc => rfl)
    (case cHd => first | k_is | rfl | decide +kernel)
    (case hin => first | exact List.mem_singleton.mpr rfl | decide)
    (case no => rfl)
    (case lcg => k_is)
    (case vcg => rfl)
    (case nog => rfl)
    (case npg => decide)
