import PyProof.Rows.All
import Wide.All
import OpenK.AllK
import Wide.FinOn
import HandS.ForMost
import HandS.Lambda
import HandS.AnyAll
import HandS.SetFor
import HandS.IsInst
import HandS.Style
import HandS.SortKw
import KE.DataMinKey
import HandS.Sort
import KE.DataMinMax
import KE.KDictList
import HandS.Walk
import HandS.More
import HandS.Conv
import HandS.Flow
import HandS.Star
import HandS.ForExc
import HandS.TryMany
import HandS.TupLen
import PyProof.TypeEq
import HandS.ExcIs
import HandS.IterVal
import HandS.ExcValue
import HandS.Text
import HandS.Codes
import HandS.RaiseMore
import PyProof.InstEq
import KE.KEqDeep
import HandS.EndTab
import KE.KNestM
import KE.KNest
import PySem.Challenge.RW_pairhues_k10_deeds_in_lines
set_option Elab.async false
set_option linter.all false
set_option maxRecDepth 100000
set_option maxHeartbeats 4000000
namespace Own
open PySem PySem.Spec PyProof.Rows L2 GxR
/-! generator expressions over a list: quiet elements, all(..), any(..) -/
section
variable {X : Cx} {pins : List (Addr × Obj)} {σ : L2.St} {H : Hp} {s : Shared}
/-- what is known in the generator's frame, at s2: x holds v; all that stood at s1 stands, but the table at P -/
structure GFr (X : Cx) (s1 : Shared) (P : Addr) (scope : Scope) (x : Str) (v : Value) (ce : Env) (s2 : Shared) : Prop where
  sc : ce.scope = scope
  cl : ce.cells = cloFrom X.env.cells scope.names []
  gl : ce.globals = mainGlobals
  bl : ce.builtins = builtinsNs
  ns : ∃ m, s2.heap.Ns ce.locals m ∧ m x = some v
  kp : ∀ b o, b ≠ P → s1.heap.get? b = some o → s2.heap.get? b = some o
theorem GFr.on {s1 s2 s3 : Shared} {P : Addr} {scope : Scope} {x : Str} {v : Value} {ce : Env} (F : GFr X s1 P scope x v ce s2) (k : Keeps s2 s3) : GFr X s1 P scope x v ce s3 := by
  obtain ⟨h', tk, rfl, kk⟩ := k
  obtain ⟨m, hn, hm⟩ := F.ns
  exact ⟨F.sc, F.cl, F.gl, F.bl, ⟨m, hn.keeps kk, hm⟩, fun b o n e => kk _ _ (F.kp b o n e)⟩
theorem kref (s : Shared) : Keeps s s := ⟨s.heap, s.toks, rfl, fun _ _ e => e⟩
theorem ktok (s : Shared) (t : Nat) : Keeps s { s with toks := t } := ⟨s.heap, t, rfl, fun _ _ e => e⟩
theorem ktrans {s1 s2 s3 : Shared} (a : Keeps s1 s2) (b : Keeps s2 s3) : Keeps s1 s3 := by
  obtain ⟨h, t, rfl, k⟩ := a
  obtain ⟨h', t', rfl, k'⟩ := b
  exact ⟨h', t', rfl, fun c o e => k' _ _ (k c o e)⟩
/-- the expression e gives y there, and changes nothing -/
def QE (X : Cx) (s1 : Shared) (P : Addr) (scope : Scope) (x : Str) (v : Value) (e : Expr) (y : V) : Prop :=
  ∀ (ce : Env) (A' : Around) (E' : Value → Shared → Prop) (s2 : Shared), A'.handled = none → GFr X s1 P scope x v ce s2 →
    wpAny (model X.prog X.w) A' (eval e ce) (fun u s3 => RelV y u ∧ Keeps s2 s3) E' s2
variable {s1 : Shared} {P : Addr} {scope : Scope} {x : Str} {v : Value}
theorem qe_var {y : V} {p : Pos} (hk : scope.kind = .function) (hl : scope.names.lookup x = some .local) (r : RelV y v)
    (hd : (x == ("__debug__" : Str)) = false := by decide) : QE X s1 P scope x v (.Name x p) y := by
  intro ce A' E' s2 hA F
  obtain ⟨m, hn, hm⟩ := F.ns
  have k1 : ce.scope.kind = .function := by rw [F.sc]; exact hk
  have k2 : ce.kindOf x = some .local := by
    show ce.scope.names.lookup x = some .local
    rw [F.sc]; exact hl
  exact wpAny_Name (wpAny_loadName_local k1 k2 hn hm ⟨r, kref _⟩) hd
theorem qe_int {i : Int} {j : Nat} {p : Pos} : QE X s1 P scope x v (.Constant (.int i) j p) (.int i) :=
  fun ce A' E' s2 hA F => wpAny_Constant_int ⟨⟨_, rfl⟩, ktok _ _⟩
theorem qe_glob {n : Str} {y : V} {u : Value} {p : Pos} (I : Inv X pins σ H s1) (ht : ∀ o, X.base.get? mainGlobals = some o → mainGlobals ≠ P)
    (hk : scope.kind = .function) (hl : scope.names.lookup n = some .globalImplicit) (hm : X.mg n = some u) (r : RelV y u)
    (hd : (n == ("__debug__" : Str)) = false := by decide) : QE X s1 P scope x v (.Name n p) y := by
  intro ce A' E' s2 hA F
  have k1 : ce.scope.kind = .function := by rw [F.sc]; exact hk
  have k2 : ce.kindOf n = some .globalImplicit := by
    show ce.scope.names.lookup n = some .globalImplicit
    rw [F.sc]; exact hl
  have k3 : s2.heap.Ns ce.globals X.mg := by
    rw [F.gl]
    obtain ⟨o, es, ep, e, r⟩ := I.mod.glob
    exact ⟨o, es, ep, F.kp _ _ (ht o e) (I.bk _ _ e), r⟩
  exact Calls.Name_function_global k1 k2 (Calls.loadGlobal_global k3 hm ⟨r, kref _⟩) hd
/-- a name that the generator has from the def around -/
theorem qe_free {n : Str} {i : Nat} {y : V} {p : Pos} (I : Inv X pins σ H s1) (hP : ∃ ps, H P = some (.tbl ps)) (hN : X.N[i]? = some n) (hσ : σ[i]? = some (some y))
    (hv : X.env.scope.names.lookup n = some .cell ∨ X.env.scope.names.lookup n = some .free)
    (hk : scope.kind = .function) (hl : scope.names.lookup n = some .free)
    (hd : (n == ("__debug__" : Str)) = false := by decide) (hcd : (n == ("__classdict__" : Str)) = false := by decide) : QE X s1 P scope x v (.Name n p) y := by
  intro ce A' E' s2 hA F
  have k1 : ce.scope.kind = .function := by rw [F.sc]; exact hk
  have k2 : ce.kindOf n = some .free := by
    show ce.scope.names.lookup n = some .free
    rw [F.sc]; exact hl
  obtain ⟨m, hm, look⟩ := I.loc
  obtain ⟨u, r, l⟩ := look i n y hN hσ (hv.elim (fun k => .inr (.inl k)) (fun k => .inr (.inr k)))
  have hc : ∃ c, X.env.cells.lookup n = some c ∧ s1.heap.IsCell c (some u) := by
    rcases l with ⟨k, _⟩ | ⟨_, c, h1, h2⟩
    · have k' : X.env.scope.names.lookup n = some .local := k
      rcases hv with h | h <;> (rw [h] at k'; cases k')
    · exact ⟨c, h1, h2⟩
  obtain ⟨c, h1, ob, ho, hdat⟩ := hc
  have mem : (n, NameKind.free) ∈ scope.names := PySem.mem_of_lookup hl
  obtain ⟨c', h3⟩ := mem_lookup (cloFrom_has (cells := X.env.cells) (acc := []) mem)
  have h4 : c' = c := by
    rcases cloFrom_mem (PySem.mem_of_lookup h3) with hm | ⟨_, h2⟩
    · cases hm
    · rw [h2, h1]
      rfl
  obtain ⟨ps, hP⟩ := hP
  have oP : s1.heap.get? P = some { cls := .none, data := .fields ps } := I.hok P _ hP
  have ncP : c ≠ P := by
    intro z
    rw [z, oP] at ho
    cases ho
    cases hdat
  refine wpAny_Name (wpAny_loadName_free (c := c) k1 k2 (by rw [F.cl, h3, h4]) ⟨ob, F.kp _ _ ncP ho, hdat⟩ ⟨r, kref _⟩ hcd) hd
theorem qe_ixT {a b : Expr} {t : Addr} {xs : List V} {i : Int} {y : V} {p : Pos} (I : Inv X pins σ H s1) (hP : ∃ ps, H P = some (.tbl ps))
    (ha : QE X s1 P scope x v a (.ref t)) (hb : QE X s1 P scope x v b (.int i)) (hq : SqT X.K H t xs) (he : atI xs i = some y) (hs : PlainIx b) :
    QE X s1 P scope x v (.Subscript a b p) y := by
  intro ce A' E' s2 hA F
  obtain ⟨its, r, pl, hz⟩ := I.tuple hq
  obtain ⟨j, g1, g2, g3, g4, g5⟩ := atI_get he
  obtain ⟨w, ew, rw'⟩ := r.get g2
  have hl := r.length
  have hn := line63
  obtain ⟨ps, hP⟩ := hP
  have oP : s1.heap.get? P = some { cls := .none, data := .fields ps } := I.hok P _ hP
  have ntP : t ≠ P := by
    obtain ⟨o, ho, hc, _⟩ := id pl
    intro z
    rw [z, oP] at ho
    cases ho
    cases hc
  refine Subscript_ (wpAny_mono (ha ce A' E' s2 hA F) (fun u s3 h => wpAny_mono (hb ce A' E' s3 hA (F.on h.2)) (fun u2 s4 h2 => ?_) fun _ _ e => e) fun _ _ e => e)
  obtain ⟨ru, k3⟩ := h
  obtain ⟨ru2, k4⟩ := h2
  cases ru
  obtain ⟨tk, rfl⟩ := ru2
  have F4 := (F.on k3).on k4
  have pl4 : IsTup s4.heap t its.toArray := by
    obtain ⟨o, ho, hr⟩ := pl
    exact ⟨o, F4.kp _ _ ntP ho, hr⟩
  exact subscriptTail_builtinR (x := w) (Q := fun u s5 => RelV y u ∧ Keeps s2 s5) pl4.typeIs slot_tuple_getitem.lookup
    (getItem_tuple (j := j) pl4 (by omega) (by omega) (by rw [List.size_toArray, ← hl]; exact g1) (by simpa using ew) ⟨rfl, rw', ktrans k3 k4⟩) (hs _ _)
theorem qe_lt {a b : Expr} {i j : Int} {p : Pos} (ha : QE X s1 P scope x v a (.int i)) (hb : QE X s1 P scope x v b (.int j))
    (hm : behindInMarks .Lt b = false := by with_unfolding_all rfl) : QE X s1 P scope x v (.Compare a [.Lt] [b] p) (.bl (decide (i < j))) := by
  intro ce A' E' s2 hA F
  refine wpAny_Compare1 (wpAny_mono (ha ce A' E' s2 hA F) (fun u s3 h => wpAny_mono (hb ce A' E' s3 hA (F.on h.2)) (fun u2 s4 h2 => ?_) fun _ _ e => e) fun _ _ e => e) hm
  obtain ⟨⟨t1, rfl⟩, k3⟩ := h
  obtain ⟨⟨t2, rfl⟩, k4⟩ := h2
  exact lt_int ⟨rfl, ktrans k3 k4⟩
end

/-! the generator itself -/
section
variable {X : Cx} {pins : List (Addr × Obj)} {σ : L2.St} {H : Hp} {s : Shared}
/-- g, ready at s5, will give n values, the j-th as F says; whoever walks it leaves the def's table alone perhaps grown -/
def GReady (X : Cx) (pins : List (Addr × Obj)) (σ : L2.St) (H1 : Hp) (P g : Addr) (n : Nat) (F : Nat → Value → Prop) (s5 : Shared) : Prop :=
  ∃ (fp wr : List Addr) (G : Array GenState → Array GenState → Prop) (St : Nat → Shared → Prop),
    WalksS X.prog X.w X.A.in1 g fp wr G n F St ∧ St 0 s5 ∧ (∀ b ∈ fp, b < s5.heap.objs.size) ∧
    ∀ s', Moved wr G s5 s' → ∃ H2, Tabbed P H1 H2 ∧ Inv X pins σ H2 s'
/-- the tests of a generator expression there -/
def QT (X : Cx) (s1 : Shared) (P : Addr) (scope : Scope) (x : Str) (v : Value) (ifs : List Expr) (b : Bool) : Prop :=
  ∀ (ce : Env) (A' : Around) (E' : Value → Shared → Prop) (s2 : Shared), A'.handled = none → GFr X s1 P scope x v ce s2 →
    wpAny (model X.prog X.w) A' (forIn ifs true fun c r => if r = true then do let ok ← isTrue c ce (eval c ce); pure (ForInStep.yield ok) else pure (ForInStep.yield r))
      (fun ok s3 => ok = b ∧ Keeps s2 s3) E' s2
theorem qt_nil {s1 : Shared} {P : Addr} {scope : Scope} {x : Str} {v : Value} : QT X s1 P scope x v [] true := by
  intro ce A' E' s2 hA F
  simp only [List.forIn_nil]
  exact wpAny_pure ⟨rfl, kref _⟩
theorem gen_list {c P : Addr} {elt iter : Expr} {ifs : List Expr} {x : Str} {px gpos : Pos} {scope : Scope} {te : TE} {k : Nat} {Q' : Value → Shared → Prop} {R : List V → Hp → Prop}
    (hr : Room k X.A) (TB : TabB X.base X.mg c P) (hcode : X.env.code = .ref c) (S : GenS X.env scope x) (hi : PE X iter te)
    (hs : ∀ v, genFold iter X.env v = pure v) (I : Inv X pins σ H s)
    (h : te σ H fun v H1 => ∃ (a : Addr) (xs : List V), v = .ref a ∧ SqL X.K H1 a xs ∧ TabG H1 P ∧ R xs H1)
    (hR : ∀ xs H1 s1, R xs H1 → Inv X pins σ H1 s1 →
      ∃ (pz : Nat → Bool) (F : Nat → V), (∀ i y v, xs[i]? = some y → RelV y v → QT X s1 P scope x v ifs (pz i) ∧ (pz i = true → QE X s1 P scope x v elt (F i))) ∧
      ∀ g s5, GReady X pins σ H1 P g (passing pz xs.length 0).length (fun j u => ∃ i, (passing pz xs.length 0)[j]? = some i ∧ i < xs.length ∧ RelV (F i) u) s5 → Q' (.ref g) s5) :
    wpAny (model X.prog X.w) X.A (eval (.GeneratorExp elt [⟨.Name x px, iter, ifs, 0⟩] scope gpos) X.env) Q' X.xe s := by
  refine wpAny_GeneratorExp_walksQ hr.hd S.co (closure_ok S.free) S.cell S.dot S.loc S.kind (by have := hr.dp; omega) ?_ hs
  refine thn (hi.run pins s σ H _ I h) fun w1 s1 ⟨v1, H1, I1, r1, q1⟩ => ?_
  obtain ⟨a, xs, rfl, hq, ⟨ps, hP, ht⟩, q1⟩ := q1
  obtain ⟨pz, F, hel, hQ⟩ := hR xs H1 s1 q1 I1
  cases r1
  obtain ⟨its, rv, pl, hz⟩ := I1.list hq
  have hlen := rv.length
  have oP : s1.heap.get? P = some { cls := .none, data := .fields ps } := I1.hok P _ hP
  have Plt : P < s1.heap.objs.size := Heap.lt_size oP
  obtain ⟨oa, hoa, hca, hda⟩ := id pl.isList
  have alt : a < s1.heap.objs.size := Heap.lt_size hoa
  have naP : a ≠ P := by
    intro z
    rw [z, oP] at hoa
    cases hoa
    cases hca
  obtain ⟨Q0, eQ0⟩ : ∃ Q0 : Nat, Q0 = s1.heap.objs.size := ⟨_, rfl⟩
  refine wpAny_pyIter_list pl.isList ?_
  obtain ⟨h2, eh2⟩ : ∃ h2 : Heap, h2 = s1.heap.push { cls := .type "list_iterator", data := .fields #[.ref a, .int 0 0] } := ⟨_, rfl⟩
  rw [← eh2]
  have k2 : ∀ b o, s1.heap.get? b = some o → h2.get? b = some o := fun b o e => by
    rw [eh2]
    exact Heap.get?_push_of_some _ e
  have sz2 : h2.objs.size = s1.heap.objs.size + 1 := by
    rw [eh2]
    exact Heap.size_push _ _
  have oP2 := k2 _ _ oP
  have itr2 : h2.IsListIter s1.heap.objs.size a 0 := by
    rw [eh2]
    exact ⟨_, Heap.get?_push_size _ rfl, rfl, rfl⟩
  have lim2 : h2.NoLimit := by
    rw [eh2]
    exact I1.nolimit.push _
  have code2 : PySem.W.CodeHd h2 c P := TB.code.keeps fun b u e => k2 _ _ (I1.bk b u e)
  have ncs : cStatics ≠ P ∧ cStatics < s1.heap.objs.size := by
    obtain ⟨_, hns, _⟩ := I1.nolimit
    refine ⟨fun z => ?_, hns.lt⟩
    obtain ⟨o, es, ep, ho, hd, _⟩ := hns
    rw [z, oP] at ho
    cases ho
    cases hd
  -- from the heap in which the code object stands
  have cont : ∀ (code : Value) (h3 : Heap) (tk : Nat) (ps' : Array Value), Heap.ExtBut P h2 h3 → h2.objs.size ≤ h3.objs.size →
      h3.get? P = some { cls := .none, data := .fields ps' } → (∃ more, ps' = ps ++ more) → TriplesOk ps'.toList →
      wpAny (model X.prog X.w) X.A (builtinsFor X.env.globals X.env.builtins) (fun bi s₄ =>
        ∃ Ia fp wr n₀ Pf St₀ pz' F', Value.ref s1.heap.objs.size = .ref Ia ∧ (∀ A' : Around, A'.handled = none → Walks X.prog X.w A' Ia fp wr n₀ Pf St₀) ∧
          St₀ 0 s₄.heap ∧ (∀ b ∈ fp, b < s₄.heap.objs.size) ∧ s₄.heap.NoLimit ∧ cStatics ∉ wr ∧
          (∀ href : Heap, (∀ b o, s₄.heap.get? b = some o → href.get? b = some o) →
            QuietGen X.prog X.w (genEnv scope (cloFrom X.env.cells scope.names []) s₄.heap.objs.size code bi X.env) x ifs elt (List.range s₄.heap.objs.size) wr Pf pz' F' href) ∧
          (∀ g h₅ tk gs, gs.bare = true → s₄.heap.objs.size < g → h₅.objs.size = g + 1 → (∀ b o, s₄.heap.get? b = some o → h₅.get? b = some o) →
            WalksS X.prog X.w X.A.in4 g (g :: s₄.heap.objs.size :: List.range s₄.heap.objs.size) (s₄.heap.objs.size :: wr) (GenOnlyQ s₄.gens.size) (passing pz' n₀ 0).length
              (fun j y => ∃ i, (passing pz' n₀ 0)[j]? = some i ∧ F' i y)
              (GenAt X.prog X.w X.A.in4 g s₄.gens.size s₄.heap.objs.size (List.range s₄.heap.objs.size) wr pz' n₀ F') →
            GenAt X.prog X.w X.A.in4 g s₄.gens.size s₄.heap.objs.size (List.range s₄.heap.objs.size) wr pz' n₀ F' 0 { s₄ with gens := s₄.gens.push gs, toks := tk, heap := h₅ } →
            Q' (.ref g) { s₄ with gens := s₄.gens.push gs, toks := tk, heap := h₅ })) X.xe { s1 with heap := h3, toks := tk } := by
    intro code h3 tk ps' hx hsz hP3 hmore ht3
    have k3 : ∀ b o, b ≠ P → s1.heap.get? b = some o → h3.get? b = some o := fun b o n e => hx b o n (k2 _ _ e)
    obtain ⟨bm, ob, e1, e2, e3, e4, e5, e6, e7, e8⟩ := TB.bm
    have globK : h3.Ns X.env.globals X.mg := by
      rw [I1.ok.glob]
      obtain ⟨og, esg, epg, eg, rg⟩ := I1.mod.glob
      exact ⟨og, esg, epg, k3 _ _ TB.gP (I1.bk _ _ eg), rg⟩
    refine wpAny_builtinsFor (m := X.mg) globK e1 e2 (k3 _ _ e4 (I1.bk _ _ e5)) e6 e7 e8 ?_
    have ne0 : a ≠ s1.heap.objs.size := Nat.ne_of_lt alt
    have itr3 : h3.IsListIter s1.heap.objs.size a 0 := by
      obtain ⟨o, ho, r⟩ := itr2
      exact ⟨o, hx _ _ (Nat.ne_of_gt Plt) ho, r⟩
    have lst3 : h3.IsList a its.toArray := ⟨oa, k3 _ _ naP hoa, hca, hda⟩
    refine ⟨s1.heap.objs.size, _, _, its.toArray.size, _, _, pz, fun i u => RelV (F i) u ∧ i < xs.length, rfl,
      fun A' hA => Walks.list hA s1.heap.objs.size a ne0 its.toArray, ⟨itr3, lst3⟩, ?_, lim2.extBut hx ncs.1, ?_, ?_, ?_⟩
    · intro b hb
      show b < h3.objs.size
      have low : s1.heap.objs.size < h3.objs.size := by omega
      rcases List.mem_cons.mp hb with z | z
      · rw [z]
        exact low
      · rw [List.mem_singleton.mp z]
        exact Nat.lt_trans alt low
    · intro z
      have z' : cStatics = s1.heap.objs.size := List.mem_singleton.mp z
      exact Nat.ne_of_lt ncs.2 z'
    · intro href hhref
      have fr : ∀ (u : Value) (s₂ : Shared) (m₂ : Str → Option Value), s₂.heap.Ns h3.objs.size m₂ → m₂ x = some u →
          (∀ b ∈ List.range h3.objs.size, b ∉ [s1.heap.objs.size] → ∀ o, href.get? b = some o → s₂.heap.get? b = some o) →
          GFr X s1 P scope x u (genEnv scope (cloFrom X.env.cells scope.names []) h3.objs.size code builtinsNs X.env) s₂ := by
        intro u s₂ m₂ hn hm hk
        refine ⟨rfl, rfl, I1.ok.glob, rfl, ⟨m₂, hn, hm⟩, fun b o n e => ?_⟩
        have e3 := k3 b o n e
        refine hk b (List.mem_range.mpr (Heap.lt_size e3)) (fun z => ?_) o (hhref _ _ e3)
        have z' : b = s1.heap.objs.size := List.mem_singleton.mp z
        exact Nat.ne_of_lt (Heap.lt_size e) z'
      have nth : ∀ (i : Nat) (u : Value), its.toArray[i]? = some u → ∃ y, xs[i]? = some y ∧ RelV y u := by
        intro i u hu
        have hu' : its[i]? = some u := by simpa using hu
        cases hx : xs[i]? with
        | none =>
          rw [Vals.none_of rv hx] at hu'
          cases hu'
        | some y =>
          obtain ⟨u', h1, h2⟩ := rv.get hx
          rw [h1] at hu'
          cases hu'
          exact ⟨y, rfl, h2⟩
      refine ⟨fun A' E' i u s₂ m₂ hA hPv hn hm hk => ?_, fun A' E' i u s₂ m₂ hA hPv hp hn hm hk => ?_⟩
      · obtain ⟨y, g1, g2⟩ := nth i u hPv
        exact (hel i y u g1 g2).1 _ A' E' s₂ hA (fr u s₂ m₂ hn hm hk)
      · obtain ⟨y, g1, g2⟩ := nth i u hPv
        have lt : i < xs.length := (List.getElem?_eq_some_iff.mp g1).1
        exact wpAny_mono ((hel i y u g1 g2).2 hp _ A' E' s₂ hA (fr u s₂ m₂ hn hm hk)) (fun _ _ z => ⟨⟨z.1, lt⟩, z.2⟩) fun _ _ e => e
    · intro g h5 tk5 gs hgb hag hsz5 hk5 W5 hat
      have en : its.toArray.size = xs.length := by rw [List.size_toArray, hlen]
      rw [en] at W5 hat
      obtain ⟨more, em⟩ := hmore
      have W5' := (W5.in4_1)
      refine hQ g _ ⟨_, _, _, _, ⟨W5'.sub, W5'.grefl, W5'.gtrans, W5'.frame, fun i s' Q'' E'' hi hst hh => W5'.item i s' Q'' E'' hi hst fun v s'' ⟨i', h1, h2, h3⟩ => hh v s'' ⟨i', h1, h3, h2⟩, W5'.done, W5'.self⟩, hat, ?_, ?_⟩
      · intro b hb
        show b < h5.objs.size
        rw [hsz5]
        rcases List.mem_cons.mp hb with z | z
        · rw [z]
          exact Nat.lt_succ_self _
        · rcases List.mem_cons.mp z with z | z
          · rw [z]
            exact Nat.lt_succ_of_lt hag
          · exact Nat.lt_succ_of_lt (Nat.lt_trans (List.mem_range.mp z) hag)
      · intro s' mv
        have nw : ∀ b o, s1.heap.get? b = some o → b ∉ h3.objs.size :: [s1.heap.objs.size] := by
          intro b o e hb
          have lt := Heap.lt_size e
          rcases List.mem_cons.mp hb with z | z
          · rw [z] at lt
            exact absurd lt (Nat.not_lt.mpr (by omega))
          · rw [List.mem_singleton.mp z] at lt
            exact Nat.lt_irrefl _ lt
        have J := inv_tab (more := more) (h' := s'.heap) (g' := s'.gens) (d' := s'.drawn) (t' := s'.toks) I1 hP
          (fun b u hb e => mv.heap b u (nw b u e) (hk5 b u (k3 b u hb e)))
          (by rw [← em]; exact mv.heap P _ (nw P _ oP) (hk5 P _ hP3)) (AllBare.movedS (I1.bare.push hgb) mv)
        rw [sh_eta s1 s' mv.os] at J
        exact ⟨_, ⟨⟨ps ++ more, upd_same, by rw [← em]; exact ht3⟩, fun b hb => upd_ne hb⟩, J⟩
  refine ⟨lim2, ?_⟩
  cases hf : codeAmong gpos ps.toList with
  | none =>
    refine wpAny_genexprCodeX hcode (code2.code oP2 ht) (code2.tab oP2) hf ?_
    intro c' h' tk hx hge hlt hco' _ htab' _
    obtain ⟨_, _, _, _, _, _, _, _, _, _, _, _, _, _, _, _, _, _, _, htr, _⟩ := hco'
    exact cont _ h' tk _ hx (Nat.le_trans hge (Nat.le_of_lt hlt)) htab'.2 ⟨_, rfl⟩ htr
  | some cv =>
    refine wpAny_genexprCode_hit hcode (code2.code oP2 ht) hf ?_
    exact cont cv h2 s1.toks ps (Heap.ExtBut.refl _ _) (Nat.le_refl _) oP2 ⟨#[], by simp⟩ ht
end

/-! all(..), any(..) -/
section
variable {X : Cx} {pins : List (Addr × Obj)} {σ : L2.St} {H : Hp} {s : Shared}
def pick (l : List Nat) (p : Nat → Bool) (j : Nat) : Bool := match l[j]? with | some i => p i | none => false
theorem range_all (l : List Nat) (p : Nat → Bool) : (List.range l.length).all (pick l p) = l.all p := by
  rw [Bool.eq_iff_iff, List.all_eq_true, List.all_eq_true]
  constructor
  · intro h b hb
    obtain ⟨j, hj, e⟩ := List.getElem_of_mem hb
    have q := h j (List.mem_range.mpr hj)
    unfold pick at q
    rw [List.getElem?_eq_getElem hj, e] at q
    exact q
  · intro h j hj
    have hj' := List.mem_range.mp hj
    unfold pick
    rw [List.getElem?_eq_getElem hj']
    exact h _ (List.getElem_mem hj')
theorem range_any (l : List Nat) (p : Nat → Bool) : (List.range l.length).any (pick l p) = l.any p := by
  rw [Bool.eq_iff_iff, List.any_eq_true, List.any_eq_true]
  constructor
  · rintro ⟨j, hj, q⟩
    have hj' := List.mem_range.mp hj
    unfold pick at q
    rw [List.getElem?_eq_getElem hj'] at q
    exact ⟨_, List.getElem_mem hj', q⟩
  · rintro ⟨b, hb, q⟩
    obtain ⟨j, hj, e⟩ := List.getElem_of_mem hb
    refine ⟨j, List.mem_range.mpr hj, ?_⟩
    unfold pick
    rw [List.getElem?_eq_getElem hj, e]
    exact q
theorem truth_pick {prog : Program} {w : World} {A : Around} {l : List Nat} {p : Nat → Bool} {n : Nat} :
    TruthOf prog w A (fun j u => ∃ i, l[j]? = some i ∧ i < n ∧ RelV (.bl (p i)) u) (pick l p) := by
  intro j u s Q E hp hq
  obtain ⟨i, h1, _, h2⟩ := hp
  cases h2
  unfold pick at hq
  rw [h1] at hq
  exact wpAny_truthy_bool hq
/-- what a test over a list, item by item, asks: pz keeps the i-th, pb is what it gives -/
def tGen (X : Cx) (P : Addr) (scope : Scope) (x : Str) (ifs : List Expr) (elt : Expr) (f : List Nat → (Nat → Bool) → Bool) (te : TE) : TE :=
  fun σ H Q => te σ H fun v H1 => ∃ (a : Addr) (xs : List V), v = .ref a ∧ SqL X.K H1 a xs ∧ TabG H1 P ∧ ∃ (pz pb : Nat → Bool),
    (∀ pins s1, Inv X pins σ H1 s1 → ∀ i y v, xs[i]? = some y → RelV y v → QT X s1 P scope x v ifs (pz i) ∧ (pz i = true → QE X s1 P scope x v elt (.bl (pb i)))) ∧
    ∀ H2, Tabbed P H1 H2 → Q (.bl (f ((List.range xs.length).filter pz) pb)) H2
theorem pe_allL {c P : Addr} {elt iter : Expr} {ifs : List Expr} {x : Str} {px p pos gpos : Pos} {scope : Scope} {te : TE} {k : Nat}
    (hr : Room k X.A) (hg : Gl X "all") (hm : X.mg "all" = none) (hb : bootBuiltins "all" = some (.builtin "all"))
    (TB : TabB X.base X.mg c P) (hcode : X.env.code = .ref c) (S : GenS X.env scope x) (hi : PE X iter te)
    (hs : ∀ v, genFold iter X.env v = pure v)
    (he : starEach [.GeneratorExp elt [⟨.Name x px, iter, ifs, 0⟩] scope gpos] X.env =
      (false, eval (.GeneratorExp elt [⟨.Name x px, iter, ifs, 0⟩] scope gpos) X.env) :: starEach [] X.env := by rfl) :
    PE X (.Call (.Name "all" p) [.GeneratorExp elt [⟨.Name x px, iter, ifs, 0⟩] scope gpos] [] pos) (tGen X P scope x ifs elt List.all te) := by
  refine ⟨fun pins s σ H Q I h => ?_⟩
  refine wpAny_Call_Name_kw (ld_blt I hg hm hb ?_)
  refine PyProof.Rows.callWith_builtin1 ?_ he (by rfl)
  rw [he]
  refine Calls.spliced_cons (gen_list hr TB hcode S hi hs I h fun xs H1 s1 ⟨pz, pb, hel, q⟩ I1 => ?_)
  refine ⟨pz, fun i => .bl (pb i), fun i y v g1 g2 => hel pins s1 I1 i y v g1 g2, fun g s5 hG => ?_⟩
  obtain ⟨fp, wr, G, St, W, hst, _, hI⟩ := hG
  refine Calls.spliced_nil ?_
  refine call_all_walkS (W.self 0 _ _ _ hst ⟨g, fp, wr, G, _, _, St, _, rfl, W, hst, truth_pick, fun s' mv => ?_⟩)
  obtain ⟨H2, hT, J⟩ := hI s' mv
  refine ⟨.bl _, H2, J, rfl, ?_⟩
  rw [range_all]
  exact q H2 hT
theorem pe_anyL {c P : Addr} {elt iter : Expr} {ifs : List Expr} {x : Str} {px p pos gpos : Pos} {scope : Scope} {te : TE} {k : Nat}
    (hr : Room k X.A) (hg : Gl X "any") (hm : X.mg "any" = none)
    (TB : TabB X.base X.mg c P) (hcode : X.env.code = .ref c) (S : GenS X.env scope x) (hi : PE X iter te)
    (hs : ∀ v, genFold iter X.env v = pure v)
    (he : starEach [.GeneratorExp elt [⟨.Name x px, iter, ifs, 0⟩] scope gpos] X.env =
      (false, eval (.GeneratorExp elt [⟨.Name x px, iter, ifs, 0⟩] scope gpos) X.env) :: starEach [] X.env := by rfl) :
    PE X (.Call (.Name "any" p) [.GeneratorExp elt [⟨.Name x px, iter, ifs, 0⟩] scope gpos] [] pos) (tGen X P scope x ifs elt List.any te) := by
  refine ⟨fun pins s σ H Q I h => ?_⟩
  refine wpAny_Call_Name_kw (ld_blt I hg hm boot_any ?_)
  refine PyProof.Rows.callWith_builtin1 ?_ he (by rfl)
  rw [he]
  refine Calls.spliced_cons (gen_list hr TB hcode S hi hs I h fun xs H1 s1 ⟨pz, pb, hel, q⟩ I1 => ?_)
  refine ⟨pz, fun i => .bl (pb i), fun i y v g1 g2 => hel pins s1 I1 i y v g1 g2, fun g s5 hG => ?_⟩
  obtain ⟨fp, wr, G, St, W, hst, _, hI⟩ := hG
  refine Calls.spliced_nil ?_
  refine call_any_walkS (W.self 0 _ _ _ hst ⟨g, fp, wr, G, _, _, St, _, rfl, W, hst, truth_pick, fun s' mv => ?_⟩)
  obtain ⟨H2, hT, J⟩ := hI s' mv
  refine ⟨.bl _, H2, J, rfl, ?_⟩
  rw [range_any]
  exact q H2 hT
end

/-! a def that holds generator expressions: its code object is told -/
def genB (sc scope : Scope) (x : Str) : Bool :=
  decide (scope.kind = .function) && !scope.isCoroutine && (scope.names.all fun y => !decide (y.2 = .cell)) &&
  decide (scope.names.lookup (".0" : Str) = some NameKind.local) && decide (scope.names.lookup x = some NameKind.local) &&
  scope.names.all fun y => !decide (y.2 = .free) || decide (sc.names.lookup y.1 = some .cell)
theorem genS_by {qual : Str} {sc scope : Scope} {L f : Addr} {cd : Value} {x : Str} (h : genB sc scope x = true) : GenS (envOfC qual sc L f cd) scope x := by
  unfold genB at h
  simp only [Bool.and_eq_true, Bool.or_eq_true, Bool.not_eq_true', decide_eq_true_eq, decide_eq_false_iff_not, List.all_eq_true] at h
  obtain ⟨⟨⟨⟨⟨h1, h2⟩, h3⟩, h4⟩, h5⟩, h6⟩ := h
  refine ⟨h1, h2, h3, h4, h5, fun y hy e => ?_⟩
  rcases h6 y hy with z | z
  · exact absurd e z
  · exact cell_has z
structure FunC (K : PySem.W.Frag) (x qual : Str) (st : Stmt) (f : Addr) (fd : FuncData) (c : Addr) : Prop where
  ex : ∃ (oc : Value) (od : Option Addr) (kV doc pm : Value) (an : Option Addr) (ct : Value) (osl : Array (Option Value)),
    fd = PySem.W.fnOf x qual (defArgs st) (defBody st) (defScope st) .none kV doc pm an (.ref c) ct ∧ K.lookup f = some ⟨oc, od, .func fd, osl⟩ ∧ PySem.W.codeIn K (.ref c) qual = true
  kp : PySem.W.keepIn K (.ref f) = true
theorem FunC.plain {K : PySem.W.Frag} {x qual : Str} {st : Stmt} {f : Addr} {fd : FuncData} {c : Addr} (F : FunC K x qual st f fd c) : Fun K x qual st f fd := by
  obtain ⟨oc, od, kV, doc, pm, an, ct, osl, e, l, h⟩ := F.ex
  exact ⟨⟨oc, od, kV, doc, pm, an, _, ct, osl, e, l, h⟩, F.kp⟩
theorem funC_mk {K : PySem.W.Frag} {x qual : Str} {st : Stmt} {f c : Addr} {oc : Value} {od an : Option Addr} {osl : Array (Option Value)} {kV doc pm ct : Value}
    (l : K.lookup f = some ⟨oc, od, .func (PySem.W.fnOf x qual (defArgs st) (defBody st) (defScope st) .none kV doc pm an (.ref c) ct), osl⟩)
    (h : PySem.W.codeIn K (.ref c) qual = true) (k : PySem.W.keepIn K (.ref f) = true) :
    FunC K x qual st f (PySem.W.fnOf x qual (defArgs st) (defBody st) (defScope st) .none kV doc pm an (.ref c) ct) c :=
  ⟨⟨oc, od, kV, doc, pm, an, ct, osl, rfl, l, h⟩, k⟩
theorem FunC.ok {P : Program} {w : World} {K : PySem.W.Frag} {mg : Str → Option Value} {base : Heap} {x qual : Str} {st : Stmt} {f : Addr} {fd : FuncData} {c : Addr}
    {N ps : List Str} {k : Nat} {sp : Sp} (F : FunC K x qual st f fd c) (S : FnScope N ps (defScope st)) (len : ∀ vs H Q E, sp vs H Q E → vs.length = ps.length)
    (hbody : ∀ (A : Around) (outer : List Env) (s : Shared) (H : Hp) (vs : List V) (Q : VK) (E : XK),
      Room k (A.deeper (envOfC qual (defScope st) s.heap.objs.size f (.ref c))) → sp vs H Q E →
      ∃ t, PSs (cxOf CX0 P w K mg base N qual (defScope st) f (.ref c) A outer s H E).nox (defBody st) t ∧ t { nx := fun _ H' => Q .non H', rt := Q } (start N vs) H) :
    FnOk P w K mg base CX0 (k + 1) f fd ps sp := by
  obtain ⟨oc, od, kV, doc, pm, an, ct, osl, rfl, lk, hcd⟩ := F.ex
  refine fn_of lk hcd S len ?_
  intro A outer s H vs Q E hr hsp
  obtain ⟨t, h, q⟩ := hbody A outer s H vs Q E hr hsp
  exact ⟨t, h.nox, q⟩
end Own

set_option Elab.async false
set_option linter.all false
set_option maxRecDepth 100000
set_option maxHeartbeats 4000000
namespace Own
open PySem PySem.Spec PyProof.Rows L2
/-! min(xs, key=lambda x: len(x[k])) -/
/-- the name of a lambda's code object, made in a def -/
abbrev lamQ (X : Cx) : Str := X.env.qual ++ "<lambda>"
/-- what the making of a lambda does to the heap -/
def LamNew (P : Addr) (q : Str) (H H1 : Hp) : Prop :=
  H1 = H ∨ ∃ (ps more : Array Value) (c : Addr), H P = some (.tbl ps) ∧ H c = none ∧ H1 = upd (upd H P (.tbl (ps ++ more))) c (LamX.CodeO c q)
section
variable {X : Cx} {pins : List (Addr × Obj)} {σ : L2.St} {H : Hp} {s : Shared}
theorem lam_new {c P : Addr} {pr : Arguments} {bd : Expr} {sco : Scope} {lp : Pos} {E Q : Value → Shared → Prop}
    (I : Inv X pins σ H s) (TB : LamX.TabB X.base X.mg c P) (hcode : X.env.code = .ref c) (hT : LamX.TabS H P (lamQ X))
    (hdef : defaultsOf pr X.env = ([], [])) (hfree : ∀ y ∈ sco.names, y.2 = .free → ∃ c, X.env.cells.lookup y.1 = some c)
    (h : ∀ (f c' : Addr) (pm ctv : Value) (H1 : Hp) (h' : Heap) (tk : Nat), Inv X pins σ H1 { s with heap := h', toks := tk } → LamNew P (lamQ X) H H1 → LamX.TabS H1 P (lamQ X) →
      h'.get? f = some (PySem.W.kla_obj "<lambda>" (lamQ X) pr bd sco (cloFrom X.env.cells sco.names []) pm c' ctv) →
      H1 c' = some (LamX.CodeO c' (lamQ X)) → Q (.ref f) { s with heap := h', toks := tk }) :
    wpAny (model X.prog X.w) X.A (eval (.Lambda pr bd sco lp) X.env) Q E s := by
  obtain ⟨ps, tP, t3, told⟩ := hT
  have obP : s.heap.get? P = some { cls := .none, data := .fields ps } := I.hok P _ tP
  have glob := I.mod.glob.keeps I.bk
  have head := TB.code.keeps I.bk
  have blt : s.heap.BuiltinsAt X.mg P := TB.bm.keeps I.bk
  refine PySem.W.kla_eval hdef ?_
  cases hf : codeAmong lp ps.toList with
  | some cv =>
    obtain ⟨c', rfl, known⟩ := told lp cv hf
    refine PySem.W.kla_makeFunctionHit (closure_ok hfree) I.ok.glob glob hcode head obP t3 hf blt fun ctv h' tk keep size => ?_
    have J := I.kept (t' := tk) (h' := h'.push (PySem.W.kla_obj "<lambda>" (lamQ X) pr bd sco (cloFrom X.env.cells sco.names []) ((X.mg "__name__").getD .none) c' ctv)) fun b o e => Heap.get?_push_of_some _ (keep b o e)
    exact h _ c' _ ctv H _ tk J (.inl rfl) ⟨ps, tP, t3, told⟩ (Heap.get?_push_size _ rfl) known
  | none =>
    refine PySem.W.kla_makeFunction (closure_ok hfree) I.ok.glob glob hcode head obP t3 hf TB.gP blt fun c' ctv h' tk ext low high rec_ tab => ?_
    obtain ⟨_, oc, vs, t, e0, r1, r2, r3⟩ := rec_
    cases e0
    have fresh : H c' = none := I.hok.fresh low
    have neP : P ≠ c' := ne_of_none tP fresh
    have J := LamX.inv_table (q := lamQ X) (t' := tk) (more := #[rawInt lp.line, rawInt lp.col, .ref c'])
      (h' := h'.push (PySem.W.kla_obj "<lambda>" (lamQ X) pr bd sco (cloFrom X.env.cells sco.names []) ((X.mg "__name__").getD .none) c' ctv)) I tP
      (fun b o n e => Heap.get?_push_of_some _ (ext b o n e)) (Heap.get?_push_of_some _ tab) low ⟨oc, vs, t, Heap.get?_push_of_some _ r1, r2, r3⟩
    refine h _ c' _ ctv _ _ tk J (.inr ⟨ps, _, c', tP, fresh, rfl⟩) ⟨_, by rw [upd_ne neP, upd_same], ?_, fun lp' cv' g => ?_⟩ (Heap.get?_push_size _ rfl) upd_same
    · rw [Array.toList_append]
      exact PySem.TriplesOk_snoc _ _ _ _ t3
    · rw [Array.toList_append] at g
      rcases LamX.among_app _ t3 g with z | z
      · obtain ⟨c0, e0, k0⟩ := told lp' cv' z
        refine ⟨c0, e0, ?_⟩
        rw [upd_ne (ne_of_none k0 fresh), upd_ne (fun z => ?_)]
        · exact k0
        · rw [z, tP] at k0
          exact LamX.codeO_ne _ (Option.some.inj k0).symm
      · exact ⟨c', z, upd_same⟩
/-- len(e), e a list -/
theorem qe_len {s1 : Shared} {P : Addr} {scope : Scope} {x : Str} {v : Value} {e : Expr} {l : Addr} {zs : List V} {p pos : Pos} (I : Inv X pins σ H s1) (hP : ∃ ps, H P = some (.tbl ps))
    (hk : scope.kind = .function) (hl : scope.names.lookup ("len" : Str) = some .globalImplicit) (hm : X.mg "len" = none)
    (he : QE X s1 P scope x v e (.ref l)) (hq : SqL X.K H l zs) (hse : ∀ ce, starEach [e] ce = [(false, eval e ce)]) :
    QE X s1 P scope x v (.Call (.Name "len" p) [e] [] pos) (.int zs.length) := by
  intro ce A' E' s2 hA F
  obtain ⟨its, r, pl, hz⟩ := I.list hq
  have hn := line63
  have hlen := r.length
  obtain ⟨ps, hP⟩ := hP
  have oP : s1.heap.get? P = some { cls := .none, data := .fields ps } := I.hok P _ hP
  have nlP : l ≠ P := by
    obtain ⟨o, ho, hc, _⟩ := id pl.isList
    intro z
    rw [z, oP] at ho
    cases ho
    cases hc
  have notP : ∀ b o, s1.heap.get? b = some o → (∃ es ep, o.data = .dict es ep) → b ≠ P := fun b o e ⟨es, ep, d⟩ z => by
    rw [z, oP] at e
    cases e
    cases d
  have k1 : ce.scope.kind = .function := by rw [F.sc]; exact hk
  have k2 : ce.kindOf "len" = some .globalImplicit := by
    show ce.scope.names.lookup ("len" : Str) = some .globalImplicit
    rw [F.sc]; exact hl
  have k3 : s2.heap.Ns ce.globals X.mg := by
    rw [F.gl]
    obtain ⟨o, es, ep, e, r⟩ := I.mod.glob
    exact ⟨o, es, ep, F.kp _ _ (notP _ _ (I.bk _ _ e) ⟨_, _, r.1⟩) (I.bk _ _ e), r⟩
  obtain ⟨mb, b1, b2⟩ := I.mod.blt
  have k4 : s2.heap.Ns ce.builtins mb := by
    rw [F.bl]
    obtain ⟨o, es, ep, e, r⟩ := b1
    exact ⟨o, es, ep, F.kp _ _ (notP _ _ (I.bk _ _ e) ⟨_, _, r.1⟩) (I.bk _ _ e), r⟩
  refine wpAny_Call_Name_kw (Calls.Name_function_global k1 k2 (Calls.loadGlobal_builtin k3 hm k4 ((b2 "len" (by decide)).trans PySem.boot_len) ?_) (by decide))
  refine PyProof.Rows.callWith_builtin1 ?_ (hse ce) (by rfl)
  rw [hse ce]
  refine Calls.spliced_cons (wpAny_mono (he ce A' E' s2 hA F) (fun u s3 h => ?_) fun _ _ e => e)
  obtain ⟨ru, kk⟩ := h
  cases ru
  refine Calls.spliced_nil ?_
  have F3 := F.on kk
  have pl3 : s3.heap.IsList l its.toArray := by
    obtain ⟨o, ho, hc, hd⟩ := pl.isList
    exact ⟨o, F3.kp _ _ nlP ho, hc, hd⟩
  refine Calls.call_len_list pl3 (by simp only [List.size_toArray] <;> omega) ⟨⟨s3.toks + 1, by rw [List.size_toArray, hlen]⟩, ktrans kk (ktok _ _)⟩
/-- the lambda's own object -/
def LamO (f : Addr) (q : Str) (pr : Arguments) (bd : Expr) (sco : Scope) (cl : List (Str × Addr)) (c' : Addr) : HO :=
  .ext fun h => ∃ pm ctv : Value, h.get? f = some (PySem.W.kla_obj "<lambda>" q pr bd sco cl pm c' ctv)
theorem lamO_ok {P : Program} {w : World} {H : Hp} {h : Heap} {f : Addr} {q : Str} {pr : Arguments} {bd : Expr} {sco : Scope} {cl : List (Str × Addr)} {c' : Addr} {pm ctv : Value}
    (e : h.get? f = some (PySem.W.kla_obj "<lambda>" q pr bd sco cl pm c' ctv)) : ObjOk P w H h f (LamO f q pr bd sco cl c') :=
  ⟨⟨pm, ctv, e⟩, ⟨_, e⟩, fun _ _ ⟨pm, ctv, z⟩ k => ⟨pm, ctv, k _ z⟩⟩
def tLamV (P : Addr) (q : Str) (pr : Arguments) (bd : Expr) (sco : Scope) (cl : List (Str × Addr)) : TE := fun _ H Q =>
  LamX.TabS H P q ∧ ∀ (H1 : Hp) (f c' : Addr), LamNew P q H H1 → LamX.TabS H1 P q → H1 c' = some (LamX.CodeO c' q) → H1 f = none → Q (.ref f) (upd H1 f (LamO f q pr bd sco cl c'))
theorem pe_lam {c P : Addr} {pr : Arguments} {bd : Expr} {sco : Scope} {lp : Pos} (TB : LamX.TabB X.base X.mg c P) (hcode : X.env.code = .ref c)
    (hdef : defaultsOf pr X.env = ([], [])) (hfree : ∀ y ∈ sco.names, y.2 ≠ .free) :
    PE X (.Lambda pr bd sco lp) (tLamV P (lamQ X) pr bd sco (cloFrom X.env.cells sco.names [])) := by
  refine ⟨fun pins s σ H Q I h => ?_⟩
  obtain ⟨hT, q⟩ := h
  obtain ⟨ps, tP, t3, told⟩ := hT
  have obP : s.heap.get? P = some { cls := .none, data := .fields ps } := I.hok P _ tP
  have glob := I.mod.glob.keeps I.bk
  have head := TB.code.keeps I.bk
  have blt : s.heap.BuiltinsAt X.mg P := TB.bm.keeps I.bk
  have hfr : ∀ y ∈ sco.names, y.2 = .free → ∃ c, X.env.cells.lookup y.1 = some c := fun y hy e => absurd e (hfree y hy)
  refine PySem.W.kla_eval hdef ?_
  cases hf : codeAmong lp ps.toList with
  | some cv =>
    obtain ⟨c', rfl, known⟩ := told lp cv hf
    refine PySem.W.kla_makeFunctionHit (closure_ok hfr) I.ok.glob glob hcode head obP t3 hf blt fun ctv h' tk keep size => ?_
    have fn : H h'.objs.size = none := I.hok.fresh size
    refine ⟨.ref _, _, I.laid (t' := tk) (fun b o e => Heap.get?_push_of_some _ (keep b o e)) size (lamO_ok (Heap.get?_push_size _ rfl)), rfl, q H _ c' (.inl rfl) ⟨ps, tP, t3, told⟩ known fn⟩
  | none =>
    refine PySem.W.kla_makeFunction (closure_ok hfr) I.ok.glob glob hcode head obP t3 hf TB.gP blt fun c' ctv h' tk ext low high rec_ tab => ?_
    obtain ⟨_, oc, vs, t, e0, r1, r2, r3⟩ := rec_
    cases e0
    have fresh : H c' = none := I.hok.fresh low
    have neP : P ≠ c' := ne_of_none tP fresh
    have J := LamX.inv_table (q := lamQ X) (t' := tk) (more := #[rawInt lp.line, rawInt lp.col, .ref c']) (h' := h') I tP ext tab low ⟨oc, vs, t, r1, r2, r3⟩
    have fn := J.hok.fresh (Nat.le_refl _)
    have fnc : h'.objs.size ≠ c' := Nat.ne_of_gt high
    refine ⟨.ref _, _, J.laid (t' := tk) (fun b o e => Heap.get?_push_of_some _ e) (Nat.le_refl _) (lamO_ok (Heap.get?_push_size _ rfl)), rfl,
      q _ _ c' (.inr ⟨ps, _, c', tP, fresh, rfl⟩) ⟨_, by rw [upd_ne neP, upd_same], ?_, fun lp' cv' g => ?_⟩ upd_same fn⟩
    · rw [Array.toList_append]
      exact PySem.TriplesOk_snoc _ _ _ _ t3
    · rw [Array.toList_append] at g
      rcases LamX.among_app _ t3 g with z | z
      · obtain ⟨c0, e0, k0⟩ := told lp' cv' z
        refine ⟨c0, e0, ?_⟩
        rw [upd_ne (ne_of_none k0 fresh), upd_ne (fun z => ?_)]
        · exact k0
        · rw [z, tP] at k0
          exact LamX.codeO_ne _ (Option.some.inj k0).symm
      · exact ⟨c', z, upd_same⟩
/-- a lambda of one parameter, that takes no name from around -/
structure LamP (sco : Scope) (x : Str) : Prop where
  kind : sco.kind = .function
  co : sco.isCoroutine = false
  gen : sco.isGenerator = false
  cell : ∀ y ∈ sco.names, y.2 ≠ .cell
  loc : sco.names.lookup x = some .local
def rMinKey (X : Cx) (P : Addr) (q : Str) (pr : Arguments) (bd : Expr) (sco : Scope) (cl : List (Str × Addr)) (x : Str) : List V → List V → Hp → VK → Prop := fun xs zs H Q =>
  ∃ (a f c' : Addr) (ys : List V) (ln : Nat → Nat), xs = [.ref a] ∧ zs = [.ref f] ∧ H f = some (LamO f q pr bd sco cl c') ∧ H c' = some (LamX.CodeO c' q) ∧ SqL X.K H a ys ∧ 0 < ys.length ∧
    (∀ (pins : List (Addr × Obj)) (σ : L2.St) (s1 : Shared), Inv X pins σ H s1 → ∀ (i : Nat) (y : V) (v : Value), ys[i]? = some y → RelV y v → QE X s1 P sco x v bd (.int (ln i : Nat))) ∧
    ∀ y, ys[argBest (fun i j => decide (((ln i : Nat) : Int) < ((ln j : Nat) : Int))) (ys.length - 1)]? = some y → Q y H
theorem cr_minKey {k : Nat} {P : Addr} {q : Str} {pr : Arguments} {bd : Expr} {sco : Scope} {x : Str} (hr : Room (k + 1) X.A) (hq : q = lamQ X) (S : LamP sco x)
    (hb : ∀ (pm cv ctv u : Value), bindArgs (PySem.W.kla_fn "<lambda>" q pr bd sco (cloFrom X.env.cells sco.names []) pm cv ctv) ⟨[u], []⟩ = pure [(x, u)]) :
    CallRK X (.builtin "min") ["key"] (rMinKey X P q pr bd sco (cloFrom X.env.cells sco.names []) x) := by
  intro pins s σ H xs zs us ws Q I r r2 h
  obtain ⟨a, f, c', ys, ln, rfl, rfl, hf, hc, hl, pos, hbody, hQ⟩ := h
  obtain ⟨u, rfl, ru⟩ := vals1 r
  obtain ⟨u2, rfl, ru2⟩ := vals1 r2
  cases ru
  cases ru2
  show wpAny _ _ (call (.builtin "min") [.ref a] [(Str.ofString "key", .ref f)]) _ _ s
  obtain ⟨its, rv, pl, hz⟩ := I.list hl
  have hlen := rv.length
  obtain ⟨⟨pm, ctv, of⟩, _, _⟩ := I.hok f _ hf
  obtain ⟨⟨oc, vs, t, hoc, hdc, hvc⟩, _, _⟩ := I.hok c' _ hc
  obtain ⟨oa, hoa, hca, hda⟩ := id pl.isList
  have alt : a < s.heap.objs.size := Heap.lt_size hoa
  refine call_min_walkK (wpAny_pyIter_list pl.isList ?_)
  obtain ⟨s2, es2⟩ : ∃ s2 : Shared, s2 = { s with heap := s.heap.push { cls := .type "list_iterator", data := .fields #[.ref a, .int 0 0] } } := ⟨_, rfl⟩
  rw [← es2]
  have k2 : ∀ b o, s.heap.get? b = some o → s2.heap.get? b = some o := fun b o e => by
    rw [es2]
    exact Heap.get?_push_of_some _ e
  have sz2 : s2.heap.objs.size = s.heap.objs.size + 1 := by
    rw [es2]
    exact Heap.size_push _ _
  have itr2 : s2.heap.IsListIter s.heap.objs.size a 0 := by
    rw [es2]
    exact ⟨_, Heap.get?_push_size _ rfl, rfl, rfl⟩
  have m0 : Moved [s.heap.objs.size] (fun a b => b = a) s s2 := by
    rw [es2]
    exact ⟨fun b o _ e => Heap.get?_push_of_some _ e, rfl, rfl, rfl, Nat.le_refl _⟩
  have ne0 : a ≠ s.heap.objs.size := Nat.ne_of_lt alt
  have hsz : its.toArray.size = ys.length := by rw [List.size_toArray, hlen]
  have hh : X.A.in1.handled = none := hr.hd
  have W := (Walks.list (prog := X.prog) (w := X.w) (A := X.A.in1) hh s.heap.objs.size a ne0 its.toArray).toS
  -- what stands at s stands
  let J : Shared → Prop := fun s' => (∀ b o, s.heap.get? b = some o → s'.heap.get? b = some o) ∧ s'.gens = s.gens ∧ s'.drawn = s.drawn ∧ s'.os = s.os
  have back : ∀ s', J s' → Inv X pins σ H s' := fun s' ⟨j1, j2, j3, j4⟩ => by
    have I' := I.kept (t' := s'.toks) j1
    have e : ({ s with heap := s'.heap, toks := s'.toks } : Shared) = s' := by
      cases s'
      cases s
      simp only at j2 j3 j4
      subst j2 j3 j4
      rfl
    rw [e] at I'
    exact I'
  have lowS : ∀ b o, s.heap.get? b = some o → b ∉ [s2.heap.objs.size, s.heap.objs.size] := fun b o e hm => by
    have lt := Heap.lt_size e
    rcases List.mem_cons.mp hm with z | z
    · rw [z, sz2] at lt
      exact absurd lt (Nat.not_lt.mpr (Nat.le_succ _))
    · rw [List.mem_singleton.mp z] at lt
      exact Nat.lt_irrefl _ lt
  refine ⟨s.heap.objs.size, _, _, _, its.toArray.size, _, _, J, fun i u _ => ∃ t, u = Value.int (ln i : Nat) t, fun i j => decide (((ln i : Nat) : Int) < ((ln j : Nat) : Int)), rfl, W,
    ⟨itr2, oa, k2 _ _ hoa, hca, hda⟩, fun b hb => ?_, by rw [hsz]; exact pos, ⟨fun s3 s4 j mv => ?_, fun i k s3 s4 z _ => z, ?_, ?_⟩, ⟨k2, by rw [es2], by rw [es2], by rw [es2]⟩, fun v s' hv j => ?_⟩
  · show b < s2.heap.objs.size
    rw [sz2]
    rcases List.mem_cons.mp hb with z | z
    · rw [z]
      exact Nat.lt_succ_self _
    · rw [List.mem_singleton.mp z]
      exact Nat.lt_succ_of_lt alt
  · obtain ⟨j1, j2, j3, j4⟩ := j
    exact ⟨fun b o e => mv.heap b o (lowS b o e) (j1 b o e), mv.gens.trans j2, mv.drawn.trans j3, mv.os.trans j4⟩
  · intro i v s3 o Qk Ek hi hv j hst hS hk
    have hv' : its[i]? = some v := by simpa using hv
    obtain ⟨y, hy, ry⟩ : ∃ y, ys[i]? = some y ∧ RelV y v := by
      cases e : ys[i]? with
      | none =>
        rw [Vals.none_of rv e] at hv'
        cases hv'
      | some y =>
        obtain ⟨u', g1, g2⟩ := rv.get e
        rw [g1] at hv'
        cases hv'
        exact ⟨y, rfl, g2⟩
    have I3 := back s3 j
    have of3 := j.1 _ _ of
    refine wpAny_call (PySem.W.kla_callFunE (by have := hr.depth; exact this) of3 rfl S.co S.gen rfl ⟨c', oc, vs, t, rfl, j.1 _ _ hoc, hdc, hvc⟩ ?_)
    rw [hb]
    refine wpAny_pure (wpAny_newFunctionEnv S.cell (fun z hz => by rw [List.mem_singleton.mp hz]; exact S.loc) (fun h1 hns hsb => ⟨I3.nolimit.fresh _ hsb, ?_⟩) S.kind)
    have kp : ∀ b o, s3.heap.get? b = some o → h1.get? b = some o := fun b o e => hsb.extBut b o (Nat.ne_of_lt (Heap.lt_size e)) (Heap.get?_push_of_some _ e)
    refine PySem.W.kla_codeExpr (wpAny_mono (hbody pins σ s3 I3 i y v hy ry _ _ _ _ ?_ ⟨rfl, rfl, rfl, rfl, ⟨_, hns, ?_⟩, fun b o _ e => kp b o e⟩) (fun u' s5 hu => ?_) fun _ _ e => e)
    · exact hr.hd
    · simp
    · obtain ⟨ru', hk5⟩ := hu
      obtain ⟨h5, tk5, rfl, kk⟩ := hk5
      obtain ⟨t', rfl⟩ := ru'
      have all : ∀ b o, s3.heap.get? b = some o → h5.get? b = some o := fun b o e => kk b o (kp b o e)
      exact hk _ _ ⟨fun b o e => all b o (j.1 b o e), j.2.1, j.2.2.1, j.2.2.2⟩ ⟨let ⟨o, z1, z2⟩ := hst.1; ⟨o, all _ _ z1, z2⟩, let ⟨o, z1, z2⟩ := hst.2; ⟨o, all _ _ z1, z2⟩⟩ (all _ _ hS) ⟨t', rfl⟩ fun _ _ z => z
  · intro i j ki kj s3 Qk Ek _ hi hj hq'
    exact CmpOf.ints_lt (P := fun i v => ∃ t, v = Value.int (ln i : Nat) t) (fun i => ((ln i : Nat) : Int)) (fun _ _ z => z) i j ki kj s3 Qk Ek hi hj hq'
  · have hv' : its[argBest (fun i j => decide (((ln i : Nat) : Int) < ((ln j : Nat) : Int))) (ys.length - 1)]? = some v := by
      have := hv
      rw [hsz] at this
      simpa using this
    cases e : ys[argBest (fun i j => decide (((ln i : Nat) : Int) < ((ln j : Nat) : Int))) (ys.length - 1)]? with
    | none =>
      rw [Vals.none_of rv e] at hv'
      cases hv'
    | some y =>
      obtain ⟨u', g1, g2⟩ := rv.get e
      rw [g1] at hv'
      cases hv'
      exact ⟨y, H, back s' j, g2, hQ y e⟩
/-- min(e, key=lambda x: body) -/
theorem pe_minLam {k : Nat} {c P : Addr} {pr : Arguments} {bd e : Expr} {sco : Scope} {lp kpos p pos : Pos} {x : Str} {te : TE} (hr : Room (k + 1) X.A) (hc : X.calm = true) (hg : Gl X "min") (hm : X.mg "min" = none)
    (TB : LamX.TabB X.base X.mg c P) (hcode : X.env.code = .ref c) (hdef : defaultsOf pr X.env = ([], [])) (hfree : ∀ y ∈ sco.names, y.2 ≠ .free) (S : LamP sco x)
    (hb : ∀ (pm cv ctv u : Value), bindArgs (PySem.W.kla_fn "<lambda>" (lamQ X) pr bd sco (cloFrom X.env.cells sco.names []) pm cv ctv) ⟨[u], []⟩ = pure [(x, u)]) (ha : PE X e te)
    (he : backTo pos (starEach [e] X.env) = (false, eval e X.env) :: backTo pos (starEach [] X.env) := by rfl) (hpl : (backTo pos (starEach [e] X.env)).any (·.1) = false := by rfl) (hst : starEach [e] X.env = (false, eval e X.env) :: starEach [] X.env := by rfl) :
    PE X (.Call (.Name "min" p) [e] [⟨some "key", .Lambda pr bd sco lp, kpos⟩] pos)
      (tCKw (rMinKey X P (lamQ X) pr bd sco (cloFrom X.env.cells sco.names []) x) (tCons te tNil) (tCons (tLamV P (lamQ X) pr bd sco (cloFrom X.env.cells sco.names [])) tNil)) :=
  pe_callBK (ks := ["key"]) (cr_minKey hr rfl S hb) hg hm (by decide +kernel) (pa_cons ha pa_nil (hs := hst)) (pk_cons (pe_lam TB hcode hdef hfree) pk_nil) (he := he) (hpl := hpl)
end
end Own

set_option Elab.async false
set_option linter.all false
set_option maxRecDepth 100000
set_option maxHeartbeats 2000000
namespace Own
open PySem PySem.Spec PyProof.Rows L2
theorem nlt {b n : Nat} (e : b = n) (h : b < n) : False := by omega
theorem up1 {b n : Nat} (e : b = n) : b < n + 1 := by omega
theorem up2 {b c n : Nat} (e : b = c) (h : c < n) : b < n + 1 := by omega
/-! the view d.values() as a value; the greatest of such a view, with default= -/
abbrev vwObj (a : Addr) : Obj := { cls := .type "dict_values", data := .fields #[.ref a] }
def VwO (v a : Addr) : HO := .ext fun h => h.get? v = some (vwObj a)
theorem vw_ok {P : Program} {w : World} {H : Hp} {h : Heap} {v a : Addr} (e : h.get? v = some (vwObj a)) : ObjOk P w H h v (VwO v a) :=
  ⟨e, ⟨_, e⟩, fun _ _ p k => k _ p⟩
section
variable {X : Cx}
def rVals : V → List V → Hp → VK → Prop := fun x xs H Q =>
  ∃ (a : Addr) (kvs : List (Key × V)), x = .ref a ∧ xs = [] ∧ H a = some (.dK kvs) ∧ ∀ v, H v = none → Q (.ref v) (upd H v (VwO v a))
theorem mt_vals : MtR X "dict.values" rVals := by
  intro pins s σ H x xs v us Q I rx rxs h
  obtain ⟨a, kvs, rfl, rfl, ha, q⟩ := h
  cases rx
  cases rxs
  obtain ⟨_, hsys, vs, rel, dof⟩ := dk_of I.hok ha
  obtain ⟨ep, dat⟩ := dof.dictAt
  obtain ⟨ob, es, ho, ex, _⟩ := id dat
  refine call_meetsIn F.slot_dict_values ⟨ob, ho, ex.1⟩ F.entry_dict_values (F.args_dict_values_1 _)
    (meets_dict_values (mixKind X.prog X.w) a hsys) ⟨⟨vs, dof⟩, ?_⟩
  refine ⟨.ref s.heap.objs.size, _, I.laid (t' := s.toks) (o := VwO s.heap.objs.size a)
    (fun b u e => Heap.get?_push_of_some _ e) (Nat.le_refl _) (vw_ok (Heap.get?_push_size _ rfl)), rfl, q _ (I.hok.fresh (Nat.le_refl _))⟩
def rMaxD : List V → List V → Hp → VK → Prop := fun xs zs H Q => ∃ (v a : Addr) (kvs : List (Key × V)) (is : List Int) (d : Int),
  xs = [.ref v] ∧ zs = [.int d] ∧ H v = some (VwO v a) ∧ H a = some (.dK kvs) ∧ kvs.map (·.2) = is.map V.int ∧
  (is = [] → Q (.int d) H) ∧ ∀ m, m ∈ is → (∀ j ∈ is, j ≤ m) → Q (.int m) H
theorem cr_maxD (hc : X.calm = true) : CallRK X (.builtin "max") ["default"] rMaxD := by
  intro pins s σ H xs zs us ws Q I r r2 h
  obtain ⟨v, a, kvs, is, d, rfl, rfl, hv, ha, he, q0, q1⟩ := h
  obtain ⟨u, rfl, ru⟩ := vals1 r
  obtain ⟨u2, rfl, ru2⟩ := vals1 r2
  cases ru
  obtain ⟨t, rfl⟩ := ru2
  show wpAny _ _ (call (.builtin "max") [.ref v] [(Str.ofString "default", .int d t)]) _ _ s
  have hview : s.heap.get? v = some (vwObj a) := (I.hok v _ hv).1
  obtain ⟨_, hsys, vs, rel, dof⟩ := dk_of I.hok ha
  obtain ⟨ep, dat⟩ := dof.dictAt
  obtain ⟨ob, es, ho, ex, _⟩ := id dat
  have alt : a < s.heap.objs.size := Heap.lt_size ho
  have hne : a ≠ s.heap.objs.size := Nat.ne_of_lt alt
  have lens : vs.length = is.length := by
    have e1 := congrArg List.length he
    simp only [List.length_map] at e1
    rw [← e1, KV.length rel]
  have hval : ∀ (i : Nat) (x : Value), (∃ k, vs[i]? = some (k, x)) → ∃ t, x = Value.int (is.getD i 0) t := by
    intro i x ⟨k, hk⟩
    obtain ⟨y, h1, h2⟩ := KV.at' rel hk
    have e1 : (is.map V.int)[i]? = some y := by rw [← he, List.getElem?_map, h1]; rfl
    rw [List.getElem?_map] at e1
    obtain ⟨j, hj, rfl⟩ := Option.map_eq_some_iff.mp e1
    obtain ⟨t, rfl⟩ := h2
    exact ⟨t, by rw [List.getD_eq_getElem?_getD, hj]; rfl⟩
  refine call_max_walkD (wpAny_pyIter_values (v := v) (d := a) ⟨_, hview, rfl, rfl⟩ dat ?_)
  have gone : ∀ s' : Shared, Moved [s.heap.objs.size] (fun a b => b = a) { s with heap := s.heap.push { cls := .type "dict_valueiterator", data := .fields #[.ref a, .int 0 0, .int vs.length 0, .int ep 0] } } s' →
      Inv X pins σ H s' := by
    intro s' mv
    have k : ∀ b o, s.heap.get? b = some o → s'.heap.get? b = some o := fun b o e => by
      refine mv.heap b o ?_ (Heap.get?_push_of_some _ e)
      intro hm
      have e2 : b = s.heap.objs.size := List.mem_singleton.mp hm
      exact nlt e2 (Heap.lt_size e)
    have J := I.kept (t' := s'.toks) k
    have eg : s'.gens = s.gens := mv.gens
    have ed : s'.drawn = s.drawn := mv.drawn
    have eo : s'.os = s.os := mv.os
    have es : ({ s with heap := s'.heap, toks := s'.toks } : Shared) = s' := by
      cases s'
      cases s
      simp only at eg ed eo
      subst eg ed eo
      rfl
    rw [es] at J
    exact J
  refine ⟨s.heap.objs.size, _, _, _, vs.length, _, _, s.heap, fun i j => decide (is.getD i 0 > is.getD j 0), rfl,
    (Walks.dictValues (knd := mixKind X.prog X.w) (A := X.A.in1) (I.ok.hd hc) s.heap.objs.size a hne vs ep).toS,
    ⟨⟨_, Heap.get?_push_size _ rfl, rfl, rfl⟩, dat.keep fun b u e => Heap.get?_push_of_some _ e⟩, fun b hb => ?_, fun b o e hm => ?_, fun b o e => Heap.get?_push_of_some _ e, fun h0 s' mv => ?_, fun hn => ⟨?_, fun x s' hP mv => ?_⟩⟩
  · show b < (s.heap.push _).objs.size
    rw [Heap.size_push]
    rcases List.mem_cons.mp hb with e | hb
    · exact up1 e
    · exact up2 (List.mem_singleton.mp hb) alt
  · exact nlt (List.mem_singleton.mp hm) (Heap.lt_size e)
  · have e0 : is = [] := List.length_eq_zero_iff.mp (by omega)
    exact ⟨.int d, H, gone s' mv, ⟨t, rfl⟩, q0 e0⟩
  · intro i j vi vj s2 Q2 E2 _ hi hj hq
    exact CmpOf.ints_gt (fun i => is.getD i 0) hval i j vi vj s2 Q2 E2 hi hj hq
  · obtain ⟨t2, rfl⟩ := hval _ x hP
    obtain ⟨b1, b2⟩ := argBest_gt (fun i => is.getD i 0) (vs.length - 1)
    refine ⟨.int _, H, gone s' mv, ⟨t2, rfl⟩, q1 _ ?_ fun j hj => ?_⟩
    · have hb : argBest (fun i j => decide (is.getD i 0 > is.getD j 0)) (vs.length - 1) < is.length := by omega
      rw [List.getD_eq_getElem?_getD, List.getElem?_eq_getElem hb]
      exact List.getElem_mem hb
    · obtain ⟨i, hi, e⟩ := List.mem_iff_getElem.mp hj
      have e2 : is.getD i 0 = j := by rw [List.getD_eq_getElem?_getD, List.getElem?_eq_getElem hi, ← e]; rfl
      rw [← e2]
      exact b2 i (by omega)
end
end Own

set_option Elab.async false
set_option linter.all false
set_option maxRecDepth 100000
set_option maxHeartbeats 2000000
namespace Own
open PySem PySem.Spec PyProof.Rows L2
/-! list(d.values()) -/
def rListVw : List V → Hp → VK → Prop := fun xs H Q => ∃ (v a : Addr) (kvs : List (Key × V)), xs = [.ref v] ∧ H v = some (VwO v a) ∧ H a = some (.dK kvs) ∧ ∀ l, H l = none → Q (.ref l) (upd H l (.lst (kvs.map (·.2))))
section
variable {X : Cx}
theorem call_listVw (hc : X.calm = true) : CallR X (.type "list") rListVw := by
  intro pins s σ H xs us Q I r h
  obtain ⟨v, a, kvs, rfl, hv, ha, q⟩ := h
  obtain ⟨u, rfl, ru⟩ := vals1 r
  cases ru
  have view : s.heap.get? v = some (vwObj a) := (I.hok v _ hv).1
  obtain ⟨few, hsys, vs, rel, dof⟩ := dk_of I.hok ha
  obtain ⟨ep, dat⟩ := dof.dictAt
  have lens : kvs.length = vs.length := KV.length rel
  refine PySem.W.kdl_call (PySem.W.kdl_values (knd := mixKind X.prog X.w) (kvs := vs) (ep := ep) (r := v) (d := a)) (I.ok.hd hc) ⟨⟨_, view, rfl, rfl⟩, dat⟩ (by omega) fun h' tk acc c' keep new items => ?_
  have ok : Vals (kvs.map (·.2)) acc.toList := by
    obtain ⟨n1, n2⟩ := items
    have n1' : acc.toList.length = vs.length := by rw [Array.length_toList]; exact n1
    have go : ∀ (kvs : List (Key × V)) (vs : List (Key × Value)) (l : List Value), KV kvs vs → l.length = vs.length → (∀ (i : Nat) (x : Value), l[i]? = some x → ∃ k, vs[i]? = some (k, x)) → Vals (kvs.map (·.2)) l := by
      intro kvs
      induction kvs with
      | nil =>
        intro vs l r e _
        cases r
        rw [List.length_eq_zero_iff.mp e]
        exact .nil
      | cons p kvs ih =>
        intro vs l r e g
        cases r with
        | @cons _ q _ qs hpq r' =>
          cases l with
          | nil => cases e
          | cons x l =>
            obtain ⟨k, hk⟩ := g 0 x rfl
            have hq : q = (k, x) := Option.some.inj hk
            refine .cons ?_ (ih qs l r' (Nat.succ.inj e) fun i y hy => g (i + 1) y hy)
            have := hpq.2
            rw [hq] at this
            exact this
    exact go kvs vs acc.toList rel n1' fun i x hx => n2 i x (by rw [← Array.getElem?_toList]; exact hx)
  refine ⟨.ref _, _, I.laid (t' := tk) keep (Nat.le_refl _) (show ObjOk X.prog X.w _ h' _ (.lst (kvs.map (·.2))) from ⟨by rw [List.length_map]; exact few, acc.toList, c', ok, ?_⟩), rfl, q _ (I.hok.fresh (Nat.le_refl _))⟩
  rw [Array.toArray_toList]
  exact new
end
end Own

set_option Elab.async false
set_option linter.all false
set_option maxRecDepth 100000
namespace Own
open PySem PySem.Spec PyProof.Rows L2
/-! what goes on from heap to heap -/
/-- the tables of code objects: of generator expressions, of lambdas -/
structure Tbs where
  g : List Addr
  l : List (Addr × Str)
/-- what may be written without a word of tables, code objects, tuples -/
def plainO : HO → Bool
  | .lst _ => true
  | .dK _ => true
  | .dT _ => true
  | .ins _ _ _ => true
  | .own _ => true
  | .frz _ (.lst _) => true
  | .frz _ (.dK _) => true
  | .frz _ (.dT _) => true
  | _ => false
def tupO : HO → Bool
  | .tup _ => true
  | .frz _ (.tup _) => true
  | _ => false
theorem plain_tbl {o : HO} (h : plainO o = true) (ps : Array Value) : o ≠ .tbl ps := by
  intro z
  rw [z] at h
  cases h
theorem plain_ext {o : HO} (h : plainO o = true) (φ : Heap → Prop) : o ≠ .ext φ := by
  intro z
  rw [z] at h
  cases h
theorem plain_tup {o u : HO} (h : plainO o = true) (g : tupO u = true) : u ≠ o := by
  intro z
  rw [z] at g
  cases o with
  | tup xs => cases h
  | frz ob v => cases v <;> first | (cases h; done) | (cases g; done)
  | _ => cases g
/-- of H1 to H2: what S names may have changed; tuples, tables, all else stand; nothing known is forgotten -/
structure Fx (W : Tbs) (S : List Addr) (H H' : Hp) : Prop where
  o : ∀ b o, b ∉ S → H b = some o → (∀ ps, o ≠ .tbl ps) → H' b = some o
  u : ∀ b o, tupO o = true → H b = some o → H' b = some o
  g : ∀ P ∈ W.g, GxR.TabG H P → GxR.TabG H' P
  l : ∀ p ∈ W.l, LamX.TabS H p.1 p.2 → LamX.TabS H' p.1 p.2
  f : ∀ b, H' b = none → H b = none
abbrev Ext (W : Tbs) (H H' : Hp) : Prop := Fx W [] H H'
section
variable {W : Tbs} {S S' : List Addr} {H H1 H2 H' : Hp} {K : PySem.W.Frag}
theorem Fx.refl : Fx W S H H := ⟨fun _ _ _ e _ => e, fun _ _ _ e => e, fun _ _ h => h, fun _ _ h => h, fun _ h => h⟩
theorem Fx.trans (a : Fx W S H H1) (b : Fx W S H1 H2) : Fx W S H H2 :=
  ⟨fun c o hc e n => b.o c o hc (a.o c o hc e n) n, fun c o t e => b.u c o t (a.u c o t e), fun P hP h => b.g P hP (a.g P hP h), fun p hp h => b.l p hp (a.l p hp h), fun c h => a.f c (b.f c h)⟩
theorem Fx.wk (a : Fx W S H H1) (h : ∀ x ∈ S, x ∈ S') : Fx W S' H H1 := ⟨fun c o hc => a.o c o fun z => hc (h c z), a.u, a.g, a.l, a.f⟩
theorem Fx.up (a : Ext W H H1) : Fx W S H H1 := a.wk fun x hx => absurd hx (by simp)
/-- what S names was not there at first -/
theorem Fx.down (a : Fx W S H H1) (h : ∀ x ∈ S, H x = none) : Ext W H H1 :=
  ⟨fun c o _ e n => a.o c o (fun z => by rw [h c z] at e; cases e) e n, a.u, a.g, a.l, a.f⟩
theorem Fx.of (s : Same H H') : Fx W S H H' := ⟨fun b o _ e _ => s b o e, fun b o _ e => s b o e, fun P _ ⟨ps, h1, h2⟩ => ⟨ps, s _ _ h1, h2⟩, fun p _ h => h.ext s, fun _ h => s.free h⟩
theorem same_new {p : Addr} {o : HO} (h : H p = none) : Same H (upd H p o) := fun b x e => by
  rw [upd_ne (ne_of_none e h)]
  exact e
theorem Fx.new {p : Addr} {o : HO} (h : H p = none) : Fx W S H (upd H p o) := .of (same_new h)
theorem tabS_write {p P : Addr} {o o1 : HO} {q : Str} (h1 : H p = some o1) (t1 : ∀ ps, o1 ≠ .tbl ps) (t2 : ∀ q, o1 ≠ LamX.CodeO p q) (h : LamX.TabS H P q) : LamX.TabS (upd H p o) P q := by
  obtain ⟨ps, a, b, c⟩ := h
  refine ⟨ps, by rw [upd_ne (fun z => t1 ps (by rw [z, h1] at a; exact Option.some.inj a))]; exact a, b, fun pos cv e => ?_⟩
  obtain ⟨d, e1, e2⟩ := c pos cv e
  refine ⟨d, e1, ?_⟩
  rw [upd_ne (fun z => t2 q (by rw [z, h1] at e2; exact Option.some.inj e2))]
  exact e2
theorem tabG_write {p P : Addr} {o o1 : HO} (h1 : H p = some o1) (t1 : ∀ ps, o1 ≠ .tbl ps) (h : GxR.TabG H P) : GxR.TabG (upd H p o) P := by
  obtain ⟨ps, a, b⟩ := h
  exact ⟨ps, by rw [upd_ne (fun z => t1 ps (by rw [z, h1] at a; exact Option.some.inj a))]; exact a, b⟩
/-- something is written: what was not there at first, or what S names -/
theorem Fx.putG {p : Addr} {o o1 : HO} (e : Fx W S H H1) (h : H p = none ∨ p ∈ S) (h1 : H1 p = some o1) (t1 : ∀ ps, o1 ≠ .tbl ps) (t2 : ∀ q, o1 ≠ LamX.CodeO p q) (t3 : tupO o1 = false) : Fx W S H (upd H1 p o) := by
  refine ⟨fun b x hb q n => ?_, fun b x t q => ?_, fun P hP hT => tabG_write h1 t1 (e.g P hP hT), fun P hP hT => tabS_write h1 t1 t2 (e.l P hP hT), fun b q => ?_⟩
  · rw [upd_ne (fun z => ?_)]
    · exact e.o b x hb q n
    · rw [z] at q hb
      rcases h with h | h
      · rw [h] at q; cases q
      · exact hb h
  · have q' := e.u b x t q
    rw [upd_ne (fun z => ?_)]
    · exact q'
    · rw [z, h1] at q'
      rw [← Option.some.inj q', t3] at t
      cases t
  · by_cases z : b = p
    · rw [z, upd_same] at q
      cases q
    · rw [upd_ne z] at q
      exact e.f b q
theorem plain_tupF {o : HO} (h : plainO o = true) : tupO o = false := by
  cases e : tupO o with
  | false => rfl
  | true => exact absurd rfl (plain_tup h e)
theorem Fx.put {p : Addr} {o o1 : HO} (e : Fx W S H H1) (h : H p = none ∨ p ∈ S) (h1 : H1 p = some o1) (t : plainO o1 = true := by rfl) : Fx W S H (upd H1 p o) :=
  e.putG h h1 (plain_tbl t) (fun q => plain_ext t _) (plain_tupF t)
/-- a thing is locked, walked, unlocked -/
theorem Fx.locked {d : Addr} {od : Obj} {u : HO} (hd : H d = some u) (t : plainO u = true) (t' : plainO (.frz od u) = true) (x : Fx W S (upd H d (.frz od u)) H') (hd' : H' d = some (.frz od u)) : Fx W S H (upd H' d u) := by
  refine ⟨fun b o hb e n => ?_, fun b o tu e => ?_, fun P hP h => tabG_write hd' (plain_tbl t') (x.g P hP (tabG_write hd (plain_tbl t) h)),
    fun p hp h => tabS_write hd' (plain_tbl t') (fun q => plain_ext t' _) (x.l p hp (tabS_write hd (plain_tbl t) (fun q => plain_ext t _) h)), fun b e => ?_⟩
  · by_cases z : b = d
    · rw [z, upd_same]
      rw [z, hd] at e
      exact e
    · rw [upd_ne z]
      exact x.o b o hb (by rw [upd_ne z]; exact e) n
  · have z : b ≠ d := fun z => plain_tup t tu (by rw [z, hd] at e; exact (Option.some.inj e).symm)
    rw [upd_ne z]
    exact x.u b o tu (by rw [upd_ne z]; exact e)
  · by_cases z : b = d
    · rw [z, upd_same] at e
      cases e
    · rw [upd_ne z] at e
      have := x.f b e
      rw [upd_ne z] at this
      exact this
/-- a generator expression's table is written -/
theorem Fx.tab {P : Addr} (hT : GxR.TabG H P) (h : GxR.Tabbed P H H') (nl : ∀ p ∈ W.l, p.1 ≠ P) : Fx W S H H' := by
  obtain ⟨h1, h2⟩ := h
  have nP : ∀ b o, H b = some o → (∀ ps, o ≠ .tbl ps) → b ≠ P := fun b o e n z => by
    obtain ⟨ps, g, _⟩ := hT
    rw [z, g] at e
    exact n ps (Option.some.inj e).symm
  refine ⟨fun b o _ e n => by rw [h2 b (nP b o e n)]; exact e, fun b o t e => by rw [h2 b (nP b o e (fun ps z => by rw [z] at t; cases t))]; exact e, fun Q hQ hTQ => ?_, fun p hp hS => ?_, fun b q => ?_⟩
  · by_cases z : Q = P
    · rw [z]
      exact h1
    · obtain ⟨ps, g1, g2⟩ := hTQ
      exact ⟨ps, by rw [h2 Q z]; exact g1, g2⟩
  · obtain ⟨ps, a, b, c⟩ := hS
    refine ⟨ps, by rw [h2 _ (nl p hp)]; exact a, b, fun pos cv e => ?_⟩
    obtain ⟨d, e1, e2⟩ := c pos cv e
    exact ⟨d, e1, by rw [h2 d (nP d _ e2 (fun ps => LamX.codeO_ne ps))]; exact e2⟩
  · by_cases z : b = P
    · obtain ⟨ps, g, _⟩ := h1
      rw [z, g] at q
      cases q
    · rw [h2 b z] at q
      exact q
/-- a lambda is made -/
theorem Fx.lam {P : Addr} {q : Str} (h : LamNew P q H H') (hS : LamX.TabS H' P q) (hl : ∀ p ∈ W.l, p.1 = P → p.2 = q) : Fx W S H H' := by
  rcases h with h | ⟨ps, more, c, hP, hc, h⟩
  · rw [h]
    exact .refl
  · have at_ : ∀ b, b ≠ P → b ≠ c → H' b = H b := fun b h1 h2 => by rw [h, upd_ne h2, upd_ne h1]
    have nP : ∀ b o, H b = some o → (∀ ps, o ≠ .tbl ps) → b ≠ P := fun b o e n z => by
      rw [z, hP] at e
      exact n ps (Option.some.inj e).symm
    have keep : ∀ b o, H b = some o → (∀ ps, o ≠ .tbl ps) → H' b = some o := fun b o e n => by
      rw [at_ b (nP b o e n) (ne_of_none e hc)]
      exact e
    refine ⟨fun b o _ => keep b o, fun b o t e => keep b o e (fun ps z => by rw [z] at t; cases t), fun Q hQ hTQ => ?_, fun p hp hS2 => ?_, fun b e => ?_⟩
    · by_cases z : Q = P
      · obtain ⟨qs, a, b, _⟩ := hS
        rw [z]
        exact ⟨qs, a, b⟩
      · obtain ⟨qs, a, b⟩ := hTQ
        exact ⟨qs, by rw [at_ Q z (ne_of_none a hc)]; exact a, b⟩
    · by_cases z : p.1 = P
      · rw [hl p hp z, z]
        exact hS
      · obtain ⟨qs, a, b, k⟩ := hS2
        refine ⟨qs, by rw [at_ _ z (ne_of_none a hc)]; exact a, b, fun pos cv e => ?_⟩
        obtain ⟨d, e1, e2⟩ := k pos cv e
        exact ⟨d, e1, keep d _ e2 (fun ps => LamX.codeO_ne ps)⟩
    · by_cases z : b = P
      · obtain ⟨qs, a, _⟩ := hS
        rw [z, a] at e
        cases e
      · by_cases y : b = c
        · rw [y]
          exact hc
        · rw [at_ b z y] at e
          exact e
theorem Fx.seq {a : Addr} {xs : List V} (e : Fx W S H H') (h : SqL K H a xs) (ha : a ∉ S := by simp) : SqL K H' a xs := by
  rcases h with (h | ⟨o, h⟩) | h
  · exact .inl (.inl (e.o _ _ ha h (fun _ z => by cases z)))
  · exact .inl (.inr ⟨o, e.o _ _ ha h (fun _ z => by cases z)⟩)
  · exact .inr h
theorem Fx.tup {a : Addr} {xs : List V} (e : Fx W S H H') (h : SqT K H a xs) : SqT K H' a xs := by
  rcases h with (h | ⟨o, h⟩) | h
  · exact .inl (.inl (e.u _ _ rfl h))
  · exact .inl (.inr ⟨o, e.u _ _ rfl h⟩)
  · exact .inr h
theorem Fx.lst {a : Addr} {xs : List V} (e : Fx W S H H') (h : H a = some (.lst xs)) (ha : a ∉ S := by simp) : H' a = some (.lst xs) := e.o _ _ ha h (fun _ z => by cases z)
theorem Fx.dk {a : Addr} {kvs : List (Key × V)} (e : Fx W S H H') (h : H a = some (.dK kvs)) (ha : a ∉ S := by simp) : H' a = some (.dK kvs) := e.o _ _ ha h (fun _ z => by cases z)
theorem Fx.dt {a : Addr} {kvs : List (List Key × V)} (e : Fx W S H H') (h : H a = some (.dT kvs)) (ha : a ∉ S := by simp) : H' a = some (.dT kvs) := e.o _ _ ha h (fun _ z => by cases z)
theorem Fx.fz {a : Addr} {od : Obj} {v : HO} (e : Fx W S H H') (h : H a = some (.frz od v)) (ha : a ∉ S := by simp) : H' a = some (.frz od v) := e.o _ _ ha h (fun _ z => by cases z)
theorem Fx.tp {a : Addr} {xs : List V} (e : Fx W S H H') (h : H a = some (.tup xs)) : H' a = some (.tup xs) := e.u _ _ rfl h
theorem Fx.ins {a C dx : Addr} {fs : List (Str × V)} (e : Fx W S H H') (h : H a = some (.ins C dx fs)) (ha : a ∉ S := by simp) : H' a = some (.ins C dx fs) := e.o _ _ ha h (fun _ z => by cases z)
/-! new objects: the heap behind is given a name -/
@[elab_as_elim] theorem newO {motive : Hp → Prop} {p : Addr} {o : HO} (W : Tbs) (np : H p = none) (h : ∀ H', Ext W H H' → H' p = some o → motive H') : motive (upd H p o) := h _ (.new np) upd_same
/-- a list of things, each told of by its own word -/
def Each (K : PySem.W.Frag) (H : Hp) (as : List Addr) (ts : List (List Int)) : Prop := Paired (fun b r => SqT K H b (r.map V.int)) as ts
/-- a list of tuples of ints -/
def Rows (K : PySem.W.Frag) (H : Hp) (a : Addr) (ts : List (List Int)) : Prop := ∃ as : List Addr, SqL K H a (as.map V.ref) ∧ Each K H as ts
theorem Fx.each (e : Fx W S H H') : ∀ {as : List Addr} {ts : List (List Int)}, Each K H as ts → Each K H' as ts
  | _, _, .nil => .nil
  | _, _, .cons h t => .cons (e.tup h) (Fx.each e t)
theorem Fx.rows {a : Addr} {ts : List (List Int)} (e : Fx W S H H') (h : Rows K H a ts) (ha : a ∉ S := by simp) : Rows K H' a ts := by
  obtain ⟨as, h1, h2⟩ := h
  exact ⟨as, e.seq h1 ha, e.each h2⟩
theorem Each.len {as : List Addr} {ts : List (List Int)} (h : Each K H as ts) : as.length = ts.length := Paired.length h
theorem Each.at : ∀ {as : List Addr} {ts : List (List Int)} {i : Nat} {r : List Int}, Each K H as ts → ts[i]? = some r → ∃ b, as[i]? = some b ∧ SqT K H b (r.map V.int)
  | _, _, _, _, .nil, h => by simp at h
  | b :: _, t :: _, 0, r, .cons h _, e => by
    have e' : t = r := Option.some.inj e
    subst e'
    exact ⟨b, rfl, h⟩
  | _ :: _, _ :: _, i + 1, r, .cons _ t, e => by
    obtain ⟨b, h1, h2⟩ := Each.at (i := i) (r := r) t (by simpa using e)
    exact ⟨b, by simpa using h1, h2⟩
theorem Each.on : ∀ {as : List Addr} {ts : List (List Int)} {i : Nat} {b : Addr}, Each K H as ts → as[i]? = some b → ∃ r, ts[i]? = some r ∧ SqT K H b (r.map V.int)
  | _, _, _, _, .nil, h => by simp at h
  | c :: _, t :: _, 0, b, .cons h _, e => by
    have e' : c = b := Option.some.inj e
    subst e'
    exact ⟨t, rfl, h⟩
  | _ :: _, _ :: _, i + 1, b, .cons _ t, e => by
    obtain ⟨r, h1, h2⟩ := Each.on (i := i) (b := b) t (by simpa using e)
    exact ⟨r, by simpa using h1, h2⟩
theorem Each.snoc : ∀ {as : List Addr} {ts : List (List Int)} {b : Addr} {r : List Int}, Each K H as ts → SqT K H b (r.map V.int) → Each K H (as ++ [b]) (ts ++ [r])
  | _, _, _, _, .nil, h => .cons h .nil
  | _, _, _, _, .cons q t, h => .cons q (Each.snoc t h)
theorem Each.app : ∀ {as bs : List Addr} {ts us : List (List Int)}, Each K H as ts → Each K H bs us → Each K H (as ++ bs) (ts ++ us)
  | _, _, _, _, .nil, h => h
  | _, _, _, _, .cons q t, h => .cons q (Each.app t h)
theorem Each.take : ∀ {as : List Addr} {ts : List (List Int)} (n : Nat), Each K H as ts → Each K H (as.take n) (ts.take n)
  | _, _, 0, _ => .nil
  | _, _, _ + 1, .nil => .nil
  | _, _, n + 1, .cons q t => .cons q (Each.take n t)
theorem Each.drop : ∀ {as : List Addr} {ts : List (List Int)} (n : Nat), Each K H as ts → Each K H (as.drop n) (ts.drop n)
  | _, _, 0, h => h
  | _, _, _ + 1, .nil => .nil
  | _, _, n + 1, .cons _ t => Each.drop n t
/-- the i-th value of such a list -/
theorem Each.val {as : List Addr} {ts : List (List Int)} {i : Nat} {x : V} (h : Each K H as ts) (e : (as.map V.ref)[i]? = some x) : ∃ b r, x = .ref b ∧ as[i]? = some b ∧ ts[i]? = some r ∧ SqT K H b (r.map V.int) := by
  rw [List.getElem?_map] at e
  obtain ⟨b, hb, rfl⟩ := Option.map_eq_some_iff.mp e
  obtain ⟨r, h1, h2⟩ := h.on hb
  exact ⟨b, r, rfl, hb, h1, h2⟩
end

section
variable {X : Cx}
/-- a constant of the module: an int, a text -/
theorem pe_ci {x : Str} {i : Int} {t : Tok} {pos : Pos} (hg : Gl X x) (hm : X.mg x = some (.int i t)) (hd : (x == ("__debug__" : Str)) = false := by decide) :
    PE X (.Name x pos) (tC (.int i)) := pe_glob hg hm ⟨t, rfl⟩ hd
theorem pe_cs {x : Str} {z : Str} {t : Tok} {pos : Pos} (hg : Gl X x) (hm : X.mg x = some (.str z t)) (hd : (x == ("__debug__" : Str)) = false := by decide) :
    PE X (.Name x pos) (tC (.str z)) := pe_glob hg hm ⟨t, rfl⟩ hd
end
section
/-! the rules with the written part named: for use within a comprehension's block -/
theorem ixL (K : PySem.W.Frag) {X : Cx} (h : X.K = K := by rfl) : IxR X (rIxL K) := by
  subst h
  exact ix_list
theorem ixT (K : PySem.W.Frag) {X : Cx} (h : X.K = K := by rfl) : IxR X (rIxT K) := by
  subst h
  exact ix_tup
theorem slL (K : PySem.W.Frag) {X : Cx} (h : X.K = K := by rfl) : SlR X (rSlL K) := by
  subst h
  exact sl_list
theorem slT (K : PySem.W.Frag) {X : Cx} (h : X.K = K := by rfl) : SlR X (rSlT K) := by
  subst h
  exact sl_tup
def rLenQ (K : PySem.W.Frag) : List V → Hp → VK → Prop := fun xs H Q => ∃ p ys, xs = [.ref p] ∧ (SqL K H p ys ∨ SqT K H p ys) ∧ Q (.int ys.length) H
theorem lenQ (K : PySem.W.Frag) {X : Cx} (h : X.K = K := by rfl) : CallR X (.builtin "len") (rLenQ K) := by
  subst h
  exact call_len_seq
theorem minL (K : PySem.W.Frag) {X : Cx} (hc : X.calm = true) (h : X.K = K := by rfl) : CallR X (.builtin "min") (rMin K) := by
  subst h
  exact cr_min hc
theorem maxL (K : PySem.W.Frag) {X : Cx} (hc : X.calm = true) (h : X.K = K := by rfl) : CallR X (.builtin "max") (rMax K) := by
  subst h
  exact cr_max hc
theorem sumL (K : PySem.W.Frag) {X : Cx} (hc : X.calm = true) (h : X.K = K := by rfl) : CallR X (.builtin "sum") (rSum K) := by
  subst h
  exact cr_sum hc
theorem inS (K : PySem.W.Frag) {X : Cx} (h : X.K = K := by rfl) : OpR X (compareOp .In) (rIn K false) := by
  subst h
  exact op_in_seq
theorem ninS (K : PySem.W.Frag) {X : Cx} (h : X.K = K := by rfl) : OpR X (compareOp .NotIn) (rIn K true) := by
  subst h
  exact op_notIn_seq
theorem eqD (K : PySem.W.Frag) {X : Cx} (hu : X.A.units + 64 < cLine) (h : X.K = K := by rfl) : OpR X (compareOp .Eq) (rEqD K) := by
  subst h
  exact op_eqD hu
theorem neD (K : PySem.W.Frag) {X : Cx} (hu : X.A.units + 64 < cLine) (h : X.K = K := by rfl) : OpR X (compareOp .NotEq) (rNeD K) := by
  subst h
  exact op_neD hu
theorem cntL (K : PySem.W.Frag) {X : Cx} (h : X.K = K := by rfl) : MtR X "list.count" (rCntI K) := by
  subst h
  exact mt_lcount
def rListOf (K : PySem.W.Frag) : List V → Hp → VK → Prop := fun xs H Q => ∃ p ys, xs = [.ref p] ∧ (SqL K H p ys ∨ SqT K H p ys) ∧ ∀ l, H l = none → Q (.ref l) (upd H l (.lst ys))
theorem listOf (K : PySem.W.Frag) {X : Cx} (h : X.K = K := by rfl) : CallR X (.type "list") (rListOf K) := by
  subst h
  exact call_list_of
theorem isiO (K : PySem.W.Frag) {X : Cx} (h : X.K = K := by rfl) : CallR X (.builtin "isinstance") (rIsi K) := by
  subst h
  exact call_isi
theorem catT (K : PySem.W.Frag) {X : Cx} (h : X.K = K := by rfl) : OpR X (binaryOp .Add) (rCatT K) := by
  subst h
  exact op_catT
theorem bmC (K : PySem.W.Frag) {X : Cx} {e : Expr} {T : String} {to : TE} {t : TA} {r : V → List V → Hp → VK → Prop}
    (p : PE X e (tBM X.K T r to t)) (h : X.K = K := by rfl) : PE X e (tBM K T r to t) := by
  subst h
  exact p
theorem bm0C (K : PySem.W.Frag) {X : Cx} {e : Expr} {T : String} {to : TE} {r : V → List V → Hp → VK → Prop}
    (p : PE X e (tBM0 X.K T r to)) (h : X.K = K := by rfl) : PE X e (tBM0 K T r to) := by
  subst h
  exact p
theorem fldC (K : PySem.W.Frag) {X : Cx} {e : Expr} {f : Str} {ta : TE}
    (p : PE X e (tFld X.K ta f)) (h : X.K = K := by rfl) : PE X e (tFld K ta f) := by
  subst h
  exact p
end
theorem yesT {σ : L2.St} {H : Hp} {A B : Hp → Prop} (h : A H) : tYes σ H (fun b H3 => if b = true then A H3 else B H3) := by
  show if true = true then A H else B H
  rw [if_pos rfl]
  exact h
/-- a tuple stays where something that is no tuple is written -/
theorem tup_upd {K : PySem.W.Frag} {H : Hp} {a D : Addr} {o u : HO} {xs : List V} (hD : H D = some u) (h1 : ∀ ys, u ≠ .tup ys) (h2 : ∀ o ys, u ≠ .frz o (.tup ys)) (h : SqT K H a xs) : SqT K (upd H D o) a xs := by
  rcases h with (h | ⟨ob, h⟩) | h
  · exact .inl (.inl (by rw [upd_ne (fun z => by rw [z, hD] at h; exact h1 _ (Option.some.inj h))]; exact h))
  · exact .inl (.inr ⟨ob, by rw [upd_ne (fun z => by rw [z, hD] at h; exact h2 _ _ (Option.some.inj h))]; exact h⟩)
  · exact .inr h
/-! slices by places -/
theorem cut_ij (xs : List V) (i j : Nat) : cutV xs (some (i : Int)) (some (j : Int)) = (xs.drop i).take (j - i) := by
  unfold cutV
  rw [HT.sIx_nat, HT.sIx_nat]
  by_cases h : i ≤ xs.length
  · rw [Nat.min_eq_left h]
    by_cases g : j ≤ xs.length
    · rw [Nat.min_eq_left g]
    · rw [Nat.min_eq_right (by omega), List.take_of_length_le (by rw [List.length_drop]; exact Nat.le_refl _), List.take_of_length_le (by rw [List.length_drop]; omega)]
  · rw [List.drop_of_length_le (by omega), List.drop_of_length_le (by omega), List.take_nil, List.take_nil]
theorem cut_j (xs : List V) (j : Nat) : cutV xs none (some (j : Int)) = xs.take j := by
  unfold cutV
  rw [HT.sIx_nat, HT.sIx_none, List.drop_zero, Nat.sub_zero]
  by_cases g : j ≤ xs.length
  · rw [Nat.min_eq_left g]
  · rw [Nat.min_eq_right (by omega), List.take_of_length_le (Nat.le_refl _), List.take_of_length_le (by omega)]
theorem cut_i (xs : List V) (i : Nat) : cutV xs (some (i : Int)) none = xs.drop i := by
  unfold cutV
  rw [HT.sIx_nat, HT.sIx_none]
  by_cases h : i ≤ xs.length
  · rw [Nat.min_eq_left h, List.take_of_length_le (by rw [List.length_drop]; exact Nat.le_refl _)]
  · rw [List.drop_of_length_le (by omega), List.drop_of_length_le (by omega), List.take_nil]
/-- for i, x in enumerate(a list that the body leaves as it is) -/
theorem for_enum {K : PySem.W.Frag} {a : Addr} {xs : List V} {g : TG} {tb : TS} {D : Ends} {σ : L2.St} {H : Hp} (Pv : Nat → L2.St → Hp → Prop)
    (h0 : Pv 0 σ H) (hl : ∀ i σ H, i ≤ xs.length → Pv i σ H → SqL K H a xs)
    (hs : ∀ i x σ H T, xs[i]? = some x → Pv i σ H → H T = none → g (.ref T) σ (upd H T (.tup [.int (i : Nat), x])) fun σ2 H2 =>
      tb { D with nx := Pv (i + 1), ct := Pv (i + 1), bk := D.nx } σ2 H2)
    (hd : ∀ σ H, Pv xs.length σ H → D.nx σ H) :
    ∃ W : Nat → Nat → L2.St → Hp → Prop, (∃ m, W 0 m σ H) ∧ ∀ i m σ H, W i m σ H → ((Ite K a).stop i H ∧ D.nx σ H) ∨
      ((Ite K a).go i H ∧ ∃ N : L2.St → Hp → Prop, (∀ σ' H', N σ' H' → ∃ m', m' < m ∧ W (i + 1) m' σ' H') ∧
        ∀ x H', (Ite K a).yld i H x H' → g x σ H' fun σ2 H2 => tb { D with nx := N, ct := N, bk := D.nx } σ2 H2) := by
  refine ⟨fun i m σ H => m + i = xs.length ∧ Pv i σ H, ⟨_, Nat.add_zero _, h0⟩, fun i m σ H hw => ?_⟩
  obtain ⟨hm, p⟩ := hw
  have here := hl i σ H (by omega) p
  rcases Nat.lt_or_ge i xs.length with lt | ge
  · refine .inr ⟨⟨xs, xs[i], here, List.getElem?_eq_getElem lt⟩, Pv (i + 1), fun σ' H' p' => ⟨m - 1, by omega, by omega, p'⟩, ?_⟩
    rintro v H' ⟨T, x, rfl, hT, rfl, hx⟩
    exact hs i x σ H T (hx xs here) p hT
  · have e : i = xs.length := by omega
    rw [e] at p
    exact .inl ⟨⟨xs, here, ge⟩, hd σ H p⟩
end Own

set_option Elab.async false
set_option linter.all false
namespace K08
/-! the mathematics: ends, the count, goodness -/
abbrev Row := List Int
def ends (ts : List Row) (sd : Nat) : List Int := ts.map (·.getD sd 0)
def most (es : List Int) : Nat := (es.map es.count).foldl max 0
theorem foldl_max_ge (l : List Nat) : ∀ a, a ≤ l.foldl max a := by
  induction l with
  | nil => intro a; exact Nat.le_refl _
  | cons x r ih => intro a; exact Nat.le_trans (Nat.le_max_left a x) (ih (max a x))
theorem foldl_max_mem (l : List Nat) : ∀ a x, x ∈ l → x ≤ l.foldl max a := by
  induction l with
  | nil => intro a x h; cases h
  | cons y r ih =>
    intro a x h
    rcases List.mem_cons.mp h with e | h
    · subst e
      exact Nat.le_trans (Nat.le_max_right a x) (foldl_max_ge r _)
    · exact ih _ x h
theorem foldl_max_in (l : List Nat) : ∀ a, l.foldl max a = a ∨ l.foldl max a ∈ l := by
  induction l with
  | nil => intro a; exact .inl rfl
  | cons y r ih =>
    intro a
    rcases ih (max a y) with e | e
    · rcases Nat.le_total a y with h | h
      · right
        show r.foldl max (max a y) ∈ y :: r
        rw [e, Nat.max_eq_right h]
        exact List.mem_cons_self
      · left
        show r.foldl max (max a y) = a
        rw [e, Nat.max_eq_left h]
    · exact .inr (List.mem_cons_of_mem _ e)
theorem most_ge {es : List Int} {e : Int} (h : e ∈ es) : es.count e ≤ most es := foldl_max_mem _ _ _ (List.mem_map.mpr ⟨e, h, rfl⟩)
theorem most_in (es : List Int) : most es = 0 ∨ ∃ e ∈ es, most es = es.count e := by
  rcases foldl_max_in (es.map es.count) 0 with h | h
  · exact .inl h
  · obtain ⟨e, he, q⟩ := List.mem_map.mp h
    exact .inr ⟨e, he, q.symm⟩
/-- a number that is the count of some end, and no end's is greater -/
theorem most_is {es : List Int} {m : Int} (h0 : es = [] → m = 0) (h1 : es ≠ [] → (∃ e ∈ es, m = (es.count e : Nat)) ∧ ∀ e ∈ es, ((es.count e : Nat) : Int) ≤ m) : m = (most es : Nat) := by
  by_cases e : es = []
  · rw [h0 e, e]
    rfl
  · obtain ⟨⟨x, hx, rfl⟩, hg⟩ := h1 e
    have a := most_ge hx
    rcases most_in es with z | ⟨y, hy, q⟩
    · omega
    · have := hg y hy
      omega
def count (ts : List Row) : Nat := max (most (ends ts 0)) (most (ends ts 1))
def keys (ts : List Row) (sd : Nat) : List Row := ts.map fun r => [r.getD sd 0, r.getD 2 0]
def good (ts : List Row) : Bool := (ts.all fun r => decide (r.getD 2 0 < (count ts : Nat))) && decide (keys ts 0).Nodup && decide (keys ts 1).Nodup
def meets (a b : Row) : Bool := decide (a.getD 2 0 = b.getD 2 0) && (decide (a.getD 0 0 = b.getD 0 0) || decide (a.getD 1 0 = b.getD 1 0))
/-- the law's own look: no later row meets an earlier one with the same hue -/
def apart (ts : List Row) : Bool := (List.range ts.length).all fun k => (ts.take k).all fun o => !meets o (ts.getD k [])
def due (ts : List Row) : Bool := apart ts && ts.all fun r => decide (r.getD 2 0 < (count ts : Nat))
theorem nodup_keys {ts : List Row} {sd : Nat} : (keys ts sd).Nodup ↔ ∀ (k : Nat) (a : Row), ts[k]? = some a → ∀ o ∈ ts.take k, ¬ (o.getD 2 0 = a.getD 2 0 ∧ o.getD sd 0 = a.getD sd 0) := by
  unfold keys
  rw [List.nodup_iff_pairwise_ne, List.pairwise_map, List.pairwise_iff_getElem]
  constructor
  · intro h k a hk o ho ⟨e1, e2⟩
    obtain ⟨i, hi, e⟩ := List.getElem_of_mem ho
    obtain ⟨hk', ek⟩ := List.getElem?_eq_some_iff.mp hk
    rw [List.length_take] at hi
    rw [List.getElem_take] at e
    refine h i k (by omega) hk' (by omega) ?_
    rw [e, ek, e1, e2]
  · intro h i j hi hj hij e
    have e1 := (List.cons.inj e).1
    have e2 := (List.cons.inj (List.cons.inj e).2).1
    exact h j ts[j] (List.getElem?_eq_getElem hj) ts[i] (List.mem_take_iff_getElem.mpr ⟨i, by omega, rfl⟩) ⟨e2, e1⟩
theorem good_due (ts : List Row) : good ts = due ts := by
  have key : (decide (keys ts 0).Nodup && decide (keys ts 1).Nodup) = apart ts := by
    rw [Bool.eq_iff_iff, Bool.and_eq_true, decide_eq_true_eq, decide_eq_true_eq, nodup_keys, nodup_keys]
    unfold apart
    rw [List.all_eq_true]
    constructor
    · rintro ⟨h0, h1⟩ k hk
      have hk' := List.mem_range.mp hk
      rw [List.all_eq_true]
      intro o ho
      have ek : ts[k]? = some ts[k] := List.getElem?_eq_getElem hk'
      have g : ts.getD k [] = ts[k] := by rw [List.getD_eq_getElem?_getD, ek]; rfl
      have a := h0 k _ ek o ho
      have b := h1 k _ ek o ho
      rw [g]
      unfold meets
      simp only [Bool.not_eq_true', Bool.and_eq_false_iff, decide_eq_false_iff_not, Bool.or_eq_false_iff]
      by_cases c : o.getD 2 0 = ts[k].getD 2 0
      · exact .inr ⟨fun z => a ⟨c, z⟩, fun z => b ⟨c, z⟩⟩
      · exact .inl c
    · intro h
      have one : ∀ (k : Nat) (a : Row), ts[k]? = some a → ∀ o ∈ ts.take k, meets o a = false := by
        intro k a hk o ho
        obtain ⟨hk', ek⟩ := List.getElem?_eq_some_iff.mp hk
        have q := List.all_eq_true.mp (h k (List.mem_range.mpr hk')) o ho
        have g : ts.getD k [] = a := by rw [List.getD_eq_getElem?_getD, hk]; rfl
        rw [g] at q
        simpa using q
      refine ⟨fun k a hk o ho ⟨e1, e2⟩ => ?_, fun k a hk o ho ⟨e1, e2⟩ => ?_⟩
      · have q := one k a hk o ho
        unfold meets at q
        rw [decide_eq_true e1, decide_eq_true e2] at q
        cases q
      · have q := one k a hk o ho
        unfold meets at q
        rw [decide_eq_true e1, decide_eq_true e2, Bool.or_true] at q
        cases q
  unfold good due
  rw [Bool.and_assoc, key, Bool.and_comm]
end K08

set_option Elab.async false
set_option linter.all false
namespace Mt
/-! pairs, chains, turning: the mathematics -/
structure Pr where
  n : Nat
  l : Nat
  r : Nat
  h : Nat
deriving DecidableEq
def Pr.e (p : Pr) (s : Nat) : Nat := if s = 0 then p.l else p.r
def Proper (R : List Pr) : Prop := ∀ p ∈ R, ∀ q ∈ R, ∀ s, s < 2 → p.e s = q.e s → p.h = q.h → p = q
/-- which pair has the hue at the end: the last one -/
def at_ (R : List Pr) (s e h : Nat) : Option Pr := R.reverse.find? fun p => decide (p.e s = e) && decide (p.h = h)
theorem at_nil (s e h : Nat) : at_ [] s e h = none := rfl
theorem at_snoc (R : List Pr) (p : Pr) (s e h : Nat) : at_ (R ++ [p]) s e h = if p.e s = e ∧ p.h = h then some p else at_ R s e h := by
  unfold at_
  rw [List.reverse_append]
  simp only [List.reverse_cons, List.reverse_nil, List.nil_append, List.cons_append, List.find?_cons]
  by_cases c : p.e s = e ∧ p.h = h
  · rw [if_pos c, c.1, c.2]
    simp
  · rw [if_neg c]
    have : (decide (p.e s = e) && decide (p.h = h)) = false := by
      rw [Bool.and_eq_false_iff, decide_eq_false_iff_not, decide_eq_false_iff_not]
      by_cases d : p.e s = e
      · exact .inr fun z => c ⟨d, z⟩
      · exact .inl d
    rw [this]
theorem at_some {R : List Pr} {s e h : Nat} {p : Pr} (a : at_ R s e h = some p) : p ∈ R ∧ p.e s = e ∧ p.h = h := by
  have h1 := List.mem_of_find?_eq_some a
  have h2 := List.find?_some a
  simp only [Bool.and_eq_true, decide_eq_true_eq] at h2
  exact ⟨List.mem_reverse.mp h1, h2⟩
theorem at_none {R : List Pr} {s e h : Nat} (a : at_ R s e h = none) : ∀ p ∈ R, p.e s = e → p.h ≠ h := by
  intro p hp e1 e2
  have := List.find?_eq_none.mp a p (List.mem_reverse.mpr hp)
  simp [e1, e2] at this
theorem at_is {R : List Pr} (P : Proper R) {s e h : Nat} (hs : s < 2) {p : Pr} (hp : p ∈ R) (e1 : p.e s = e) (e2 : p.h = h) : at_ R s e h = some p := by
  cases a : at_ R s e h with
  | none => exact absurd e2 (at_none a p hp e1)
  | some q =>
    obtain ⟨hq, f1, f2⟩ := at_some a
    rw [P q hq p hp s hs (f1.trans e1.symm) (f2.trans e2.symm)]
theorem at_no {R : List Pr} {s e h : Nat} (a : ∀ p ∈ R, p.e s = e → p.h ≠ h) : at_ R s e h = none := by
  cases c : at_ R s e h with
  | none => rfl
  | some q =>
    obtain ⟨hq, f1, f2⟩ := at_some c
    exact absurd f2 (a q hq f1)
/-! ### chains -/
def chainF (R : List Pr) : Nat → Nat → Nat → Nat → Nat → List Pr
  | 0, _, _, _, _ => []
  | k + 1, s, e, h, g => match at_ R s e h with
    | none => []
    | some p => p :: chainF R k (1 - s) (p.e (1 - s)) g h
def chain (R : List Pr) (s e one other : Nat) : List Pr := chainF R (R.length + 1) s e other one
theorem Proper.sub {R R' : List Pr} (P : Proper R) (h : ∀ p ∈ R', p ∈ R) : Proper R' := fun p hp q hq => P p (h p hp) q (h q hq)
theorem chainF_mem {R : List Pr} : ∀ {k s e h g : Nat} {q : Pr}, q ∈ chainF R k s e h g → q ∈ R ∧ (q.h = h ∨ q.h = g)
  | 0, _, _, _, _, _, hq => by simp [chainF] at hq
  | k + 1, s, e, h, g, q, hq => by
    unfold chainF at hq
    split at hq
    · simp at hq
    · rename_i p hp
      rcases List.mem_cons.mp hq with z | z
      · rw [z]
        obtain ⟨h1, _, h3⟩ := at_some hp
        exact ⟨h1, .inl h3⟩
      · obtain ⟨h1, h2⟩ := chainF_mem z
        exact ⟨h1, h2.symm⟩
/-- without a pair that it never meets a chain is as it is -/
theorem chainF_skip {R : List Pr} (P : Proper R) {p : Pr} (hp : p ∈ R) {s e h g : Nat} (hs : s < 2) (hg : h ≠ g) (e1 : p.e s = e) (e2 : p.h = h) (fr : ∀ q ∈ R, q.e s = e → q.h ≠ g) :
    ∀ (k s' e' h' g' : Nat), (h' = h ∧ g' = g ∧ s' = s ∧ e' ≠ e) ∨ (h' = g ∧ g' = h ∧ s' = 1 - s) → chainF R k s' e' h' g' = chainF (R.filter (fun q => decide (q ≠ p))) k s' e' h' g' := by
  have P' : Proper (R.filter (fun q => decide (q ≠ p))) := P.sub fun q hq => (List.mem_filter.mp hq).1
  have same : ∀ s' e' h', s' < 2 → (p.e s' = e' → p.h ≠ h') → at_ (R.filter (fun q => decide (q ≠ p))) s' e' h' = at_ R s' e' h' := by
    intro s' e' h' hs' hn
    cases a : at_ R s' e' h' with
    | none => exact at_no fun q hq => at_none a q (List.mem_filter.mp hq).1
    | some q =>
      obtain ⟨h1, h2, h3⟩ := at_some a
      refine at_is P' hs' (List.mem_filter.mpr ⟨h1, decide_eq_true fun z => ?_⟩) h2 h3
      rw [z] at h2 h3
      exact hn h2 h3
  intro k
  induction k with
  | zero => intros; rfl
  | succ k ih =>
    intro s' e' h' g' hc
    have hs' : s' < 2 := by omega
    have hn : p.e s' = e' → p.h ≠ h' := by
      intro z1 z2
      rcases hc with ⟨c1, c2, c3, c4⟩ | ⟨c1, c2, c3⟩
      · rw [c3, e1] at z1
        exact c4 z1.symm
      · omega
    unfold chainF
    rw [same s' e' h' hs' hn]
    cases a : at_ R s' e' h' with
    | none => rfl
    | some q =>
      obtain ⟨h1, h2, h3⟩ := at_some a
      show q :: _ = q :: _
      congr 1
      refine ih _ _ _ _ ?_
      rcases hc with ⟨c1, c2, c3, c4⟩ | ⟨c1, c2, c3⟩
      · exact .inr ⟨c2, c1, by rw [c3]⟩
      · have cs : 1 - s' = s := by omega
        refine .inl ⟨c2, c1, cs, ?_⟩
        rw [cs]
        exact fun z => fr q h1 z (h3.trans c1)
theorem chainF_nodup : ∀ (k : Nat) {R : List Pr} (_ : Proper R) {s e h g : Nat} (_ : s < 2) (_ : h ≠ g) (_ : ∀ q ∈ R, q.e s = e → q.h ≠ g), (chainF R k s e h g).Nodup
  | 0, _, _, _, _, _, _, _, _, _ => by simp [chainF]
  | k + 1, R, P, s, e, h, g, hs, hg, fr => by
    unfold chainF
    split
    · exact List.nodup_nil
    · rename_i p hp
      obtain ⟨h1, h2, h3⟩ := at_some hp
      rw [chainF_skip P h1 hs hg h2 h3 fr k (1 - s) (p.e (1 - s)) g h (.inr ⟨rfl, rfl, rfl⟩)]
      refine List.nodup_cons.mpr ⟨fun m => ?_, ?_⟩
      · have := (List.mem_filter.mp (chainF_mem m).1).2
        simp at this
      · refine chainF_nodup k (P.sub fun q hq => (List.mem_filter.mp hq).1) (by omega) (Ne.symm hg) fun q hq e1 e2 => ?_
        obtain ⟨g1, g2⟩ := List.mem_filter.mp hq
        have := P q g1 p h1 (1 - s) (by omega) e1 (e2.trans h3.symm)
        simp [this] at g2
theorem nodup_len {α : Type} [DecidableEq α] : ∀ {l m : List α}, l.Nodup → (∀ x ∈ l, x ∈ m) → l.length ≤ m.length
  | [], _, _, _ => Nat.zero_le _
  | x :: l, m, h, s => by
    obtain ⟨h1, h2⟩ := List.nodup_cons.mp h
    have hx := s x List.mem_cons_self
    have ih := nodup_len (m := m.erase x) h2 fun y hy => by
      have := s y (List.mem_cons_of_mem _ hy)
      exact (List.mem_erase_of_ne fun z => h1 (by rw [← z]; exact hy)).mpr this
    rw [List.length_erase_of_mem hx] at ih
    have := List.length_pos_of_mem hx
    rw [List.length_cons]
    omega
theorem chainF_more {R : List Pr} : ∀ {k s e h g : Nat}, (chainF R k s e h g).length < k → chainF R (k + 1) s e h g = chainF R k s e h g
  | 0, _, _, _, _, h => by simp at h
  | k + 1, s, e, h, g, hl => by
    unfold chainF at hl
    rw [chainF]
    conv => rhs; rw [chainF]
    cases a : at_ R s e h with
    | none => rfl
    | some p =>
      rw [a] at hl
      show p :: _ = p :: _
      congr 1
      refine chainF_more ?_
      simp only [List.length_cons] at hl
      omega
theorem chainF_le {R : List Pr} {k s e h g : Nat} (P : Proper R) (hs : s < 2) (hg : h ≠ g) (fr : ∀ q ∈ R, q.e s = e → q.h ≠ g) : (chainF R k s e h g).length ≤ R.length :=
  nodup_len (chainF_nodup k P hs hg fr) fun _ hq => (chainF_mem hq).1
theorem chainF_enough {R : List Pr} {s e h g : Nat} (P : Proper R) (hs : s < 2) (hg : h ≠ g) (fr : ∀ q ∈ R, q.e s = e → q.h ≠ g) (k : Nat) :
    chainF R (R.length + 1 + k) s e h g = chainF R (R.length + 1) s e h g := by
  induction k with
  | zero => rfl
  | succ k ih =>
    rw [← ih]
    refine chainF_more (k := R.length + 1 + k) ?_
    have := chainF_le (k := R.length + 1 + k) P hs hg fr
    omega
/-- how a pair of the chain is come to -/
theorem chainF_entry {R : List Pr} : ∀ {k s e h g : Nat} {q : Pr}, s < 2 → q ∈ chainF R k s e h g →
    (q.h = h ∧ (q.e s = e ∨ ∃ p ∈ chainF R k s e h g, p.h = g ∧ p.e s = q.e s)) ∨ (q.h = g ∧ ∃ p ∈ chainF R k s e h g, p.h = h ∧ p.e (1 - s) = q.e (1 - s))
  | 0, _, _, _, _, _, _, hq => by simp [chainF] at hq
  | k + 1, s, e, h, g, q, hs, hq => by
    rw [chainF] at hq ⊢
    cases a : at_ R s e h with
    | none =>
      rw [a] at hq
      simp at hq
    | some p =>
      rw [a] at hq
      simp only at hq ⊢
      obtain ⟨h1, h2, h3⟩ := at_some a
      have ss : 1 - (1 - s) = s := by omega
      rcases List.mem_cons.mp hq with z | z
      · rw [z]
        exact .inl ⟨h3, .inl h2⟩
      · rcases chainF_entry (by omega) z with ⟨c1, c2⟩ | ⟨c1, p', c2, c3, c4⟩
        · refine .inr ⟨c1, ?_⟩
          rcases c2 with c2 | ⟨p', c2, c3, c4⟩
          · exact ⟨p, List.mem_cons_self, h3, c2.symm⟩
          · exact ⟨p', List.mem_cons_of_mem _ c2, c3, c4⟩
        · rw [ss] at c4
          exact .inl ⟨c1, .inr ⟨p', List.mem_cons_of_mem _ c2, c3, c4⟩⟩
/-- where a pair of the chain leads on to -/
theorem chainF_exit {R : List Pr} : ∀ {k s e h g : Nat} {q q' : Pr}, s < 2 → chainF R (k + 1) s e h g = chainF R k s e h g → q ∈ chainF R k s e h g →
    (q.h = h → at_ R (1 - s) (q.e (1 - s)) g = some q' → h ≠ g → q' ∈ chainF R k s e h g) ∧ (q.h = g → at_ R s (q.e s) h = some q' → h ≠ g → q' ∈ chainF R k s e h g)
  | 0, _, _, _, _, _, _, _, _, hq => by simp [chainF] at hq
  | k + 1, s, e, h, g, q, q', hs, he, hq => by
    rw [chainF] at hq he ⊢
    conv at he => rhs; rw [chainF]
    cases a : at_ R s e h with
    | none =>
      rw [a] at hq
      simp at hq
    | some p =>
      rw [a] at hq he
      simp only at hq he ⊢
      have he' := (List.cons.inj he).2
      obtain ⟨h1, h2, h3⟩ := at_some a
      have ss : 1 - (1 - s) = s := by omega
      rcases List.mem_cons.mp hq with z | z
      · rw [z]
        refine ⟨fun _ b _ => List.mem_cons_of_mem _ ?_, fun c _ n => absurd (h3.symm.trans c) n⟩
        rw [← he', chainF, b]
        exact List.mem_cons_self
      · obtain ⟨i1, i2⟩ := chainF_exit (q' := q') (by omega : 1 - s < 2) he' z
        rw [ss] at i1
        exact ⟨fun c b n => List.mem_cons_of_mem _ (i2 c b n.symm), fun c b n => List.mem_cons_of_mem _ (i1 c b n.symm)⟩
end Mt

set_option Elab.async false
set_option linter.all false
namespace Mt
/-! ### turning a chain -/
def Pr.put (p : Pr) (h : Nat) : Pr := ⟨p.n, p.l, p.r, h⟩
def Pr.flip (p : Pr) (one other : Nat) : Pr := p.put (if p.h = one then other else one)
theorem flip_e (p : Pr) (a b s : Nat) : (p.flip a b).e s = p.e s := rfl
theorem flip_n (p : Pr) (a b : Nat) : (p.flip a b).n = p.n := rfl
/-- the pairs of the numbers ns have their hues exchanged -/
def turn (R : List Pr) (ns : List Nat) (one other : Nat) : List Pr := R.map fun p => if p.n ∈ ns then p.flip one other else p
theorem turn_mem {R : List Pr} {ns : List Nat} {a b : Nat} {q : Pr} (h : q ∈ turn R ns a b) : ∃ p ∈ R, q = if p.n ∈ ns then p.flip a b else p := by
  obtain ⟨p, hp, e⟩ := List.mem_map.mp h
  exact ⟨p, hp, e.symm⟩
theorem turn_n (R : List Pr) (ns : List Nat) (a b : Nat) : (turn R ns a b).map (·.n) = R.map (·.n) := by
  unfold turn
  rw [List.map_map]
  refine List.map_congr_left fun p _ => ?_
  show (if p.n ∈ ns then p.flip a b else p).n = p.n
  split <;> rfl
theorem turn_e (R : List Pr) (ns : List Nat) (a b s : Nat) : (turn R ns a b).map (·.e s) = R.map (·.e s) := by
  unfold turn
  rw [List.map_map]
  refine List.map_congr_left fun p _ => ?_
  show (if p.n ∈ ns then p.flip a b else p).e s = p.e s
  split <;> rfl
theorem n_inj {R : List Pr} (N : (R.map (·.n)).Nodup) {p q : Pr} (hp : p ∈ R) (hq : q ∈ R) (e : p.n = q.n) : p = q := by
  induction R with
  | nil => cases hp
  | cons a r ih =>
    have N' : (a.n :: r.map (·.n)).Nodup := N
    obtain ⟨h1, h2⟩ := List.nodup_cons.mp N'
    rcases List.mem_cons.mp hp with z | z
    · rcases List.mem_cons.mp hq with y | y
      · rw [z, y]
      · exact absurd (List.mem_map.mpr ⟨q, y, by rw [← e, z]⟩) h1
    · rcases List.mem_cons.mp hq with y | y
      · exact absurd (List.mem_map.mpr ⟨p, z, by rw [e, y]⟩) h1
      · exact ih h2 z y
/-- the chain from an end where one is free, beginning with other: where it is turned, and a pair comes to that end and to an end at the far side where other is free, no two that meet have one hue -/
theorem turn_proper {R : List Pr} (P : Proper R) (N : (R.map (·.n)).Nodup) {s e e2 one other : Nat} {x : Pr} (hs : s < 2) (ho : other ≠ one)
    (fr : at_ R s e one = none) (fr2 : at_ R (1 - s) e2 other = none) (x1 : x.e s = e) (x2 : x.e (1 - s) = e2) (xh : x.h = other) :
    Proper (turn R ((chain R s e one other).map (·.n)) other one ++ [x]) := by
  have fr' := at_none fr
  have fr2' := at_none fr2
  have ss : 1 - (1 - s) = s := by omega
  have en : chainF R (R.length + 1 + 1) s e other one = chainF R (R.length + 1) s e other one := chainF_enough P hs ho fr' 1
  have inC : ∀ p ∈ R, (p.n ∈ (chain R s e one other).map (·.n)) ↔ p ∈ chain R s e one other := by
    intro p hp
    constructor
    · intro h
      obtain ⟨q, hq, e⟩ := List.mem_map.mp h
      rw [← n_inj N (chainF_mem hq).1 hp e]
      exact hq
    · exact fun h => List.mem_map.mpr ⟨p, h, rfl⟩
  generalize hC : chain R s e one other = C at *
  have memC : ∀ q ∈ C, q ∈ R ∧ (q.h = other ∨ q.h = one) := fun q hq => by
    rw [← hC] at hq
    exact chainF_mem hq
  have start : ∀ q ∈ R, q.e s = e → q.h = other → q ∈ C := fun q hq e1 e2 => by
    rw [← hC]
    unfold chain chainF
    rw [at_is P hs hq e1 e2]
    exact List.mem_cons_self
  have entry : ∀ q ∈ C, (q.h = other ∧ (q.e s = e ∨ ∃ p ∈ C, p.h = one ∧ p.e s = q.e s)) ∨ (q.h = one ∧ ∃ p ∈ C, p.h = other ∧ p.e (1 - s) = q.e (1 - s)) := fun q hq => by
    rw [← hC] at hq ⊢
    exact chainF_entry hs hq
  have exit : ∀ q ∈ C, ∀ q', (q.h = other → at_ R (1 - s) (q.e (1 - s)) one = some q' → q' ∈ C) ∧ (q.h = one → at_ R s (q.e s) other = some q' → q' ∈ C) := fun q hq q' => by
    rw [← hC] at hq ⊢
    obtain ⟨a, b⟩ := chainF_exit (q' := q') hs en hq
    exact ⟨fun c d => a c d ho, fun c d => b c d ho⟩
  -- a pair that meets one of the chain, with the other of the two hues, is of the chain
  have closed : ∀ p ∈ C, ∀ q ∈ R, ∀ t, t < 2 → p.e t = q.e t → (p.h = other → q.h = one → q ∈ C) ∧ (p.h = one → q.h = other → q ∈ C) := by
    intro p hp q hq t ht et
    have pR := (memC p hp).1
    refine ⟨fun c d => ?_, fun c d => ?_⟩
    · by_cases hts : t = s
      · rw [hts] at et
        rcases entry p hp with ⟨_, z | ⟨p', z1, z2, z3⟩⟩ | ⟨z, _⟩
        · exact absurd d (fr' q hq (et.symm.trans z))
        · rw [P q hq p' (memC p' z1).1 s hs (et.symm.trans z3.symm) (d.trans z2.symm)]
          exact z1
        · omega
      · have t1 : t = 1 - s := by omega
        rw [t1] at et
        exact (exit p hp q).1 c (at_is P (by omega) hq et.symm d)
    · by_cases hts : t = s
      · rw [hts] at et
        exact (exit p hp q).2 c (at_is P hs hq et.symm d)
      · have t1 : t = 1 - s := by omega
        rw [t1] at et
        rcases entry p hp with ⟨z, _⟩ | ⟨_, p', z1, z2, z3⟩
        · omega
        · rw [P q hq p' (memC p' z1).1 (1 - s) (by omega) (et.symm.trans z3.symm) (d.trans z2.symm)]
          exact z1
  have fh : ∀ p ∈ C, (p.h = other ∧ (p.flip other one).h = one) ∨ (p.h = one ∧ (p.flip other one).h = other) := by
    intro p hp
    show (p.h = other ∧ (if p.h = other then one else other) = one) ∨ (p.h = one ∧ (if p.h = other then one else other) = other)
    rcases (memC p hp).2 with z | z
    · exact .inl ⟨z, if_pos z⟩
    · exact .inr ⟨z, if_neg (by omega)⟩
  have new : ∀ q' ∈ turn R (C.map (·.n)) other one, ∀ t, t < 2 → x.e t = q'.e t → x.h ≠ q'.h := by
    intro q' hq' t ht et hh
    obtain ⟨q, hq, e'⟩ := turn_mem hq'
    rw [xh] at hh
    by_cases c : q.n ∈ C.map (·.n)
    · have qC := (inC q hq).mp c
      rw [if_pos c] at e'
      rw [e'] at et hh
      rw [flip_e] at et
      have q1 : q.h = one := by
        rcases fh q qC with ⟨_, z⟩ | ⟨z, _⟩
        · omega
        · exact z
      by_cases hts : t = s
      · rw [hts, x1] at et
        exact fr' q hq et.symm q1
      · have t1 : t = 1 - s := by omega
        rw [t1, x2] at et
        rcases entry q qC with ⟨z, _⟩ | ⟨_, p', z1, z2, z3⟩
        · omega
        · exact fr2' p' (memC p' z1).1 (z3.trans et.symm) z2
    · rw [if_neg c] at e'
      rw [e'] at et hh
      by_cases hts : t = s
      · rw [hts, x1] at et
        exact c ((inC q hq).mpr (start q hq et.symm hh.symm))
      · have t1 : t = 1 - s := by omega
        rw [t1, x2] at et
        exact fr2' q hq et.symm hh.symm
  have old : Proper (turn R (C.map (·.n)) other one) := by
    intro p' hp' q' hq' t ht et hh
    obtain ⟨p, hp, e1⟩ := turn_mem hp'
    obtain ⟨q, hq, e2⟩ := turn_mem hq'
    by_cases cp : p.n ∈ C.map (·.n)
    · have pC := (inC p hp).mp cp
      rw [if_pos cp] at e1
      by_cases cq : q.n ∈ C.map (·.n)
      · have qC := (inC q hq).mp cq
        rw [if_pos cq] at e2
        have : p.h = q.h := by
          rw [e1, e2] at hh
          rcases fh p pC with ⟨a, b⟩ | ⟨a, b⟩ <;> rcases fh q qC with ⟨c, d⟩ | ⟨c, d⟩ <;> omega
        rw [e1, e2] at et ⊢
        rw [P p hp q hq t ht et this]
      · rw [if_neg cq] at e2
        rw [e1, e2] at et hh
        rw [flip_e] at et
        refine absurd ((inC q hq).mpr ?_) cq
        obtain ⟨k1, k2⟩ := closed p pC q hq t ht et
        rcases fh p pC with ⟨a, b⟩ | ⟨a, b⟩
        · exact k1 a (by omega)
        · exact k2 a (by omega)
    · rw [if_neg cp] at e1
      by_cases cq : q.n ∈ C.map (·.n)
      · have qC := (inC q hq).mp cq
        rw [if_pos cq] at e2
        rw [e1, e2] at et hh
        rw [flip_e] at et
        refine absurd ((inC p hp).mpr ?_) cp
        obtain ⟨k1, k2⟩ := closed q qC p hp t ht et.symm
        rcases fh q qC with ⟨a, b⟩ | ⟨a, b⟩
        · exact k1 a (by omega)
        · exact k2 a (by omega)
      · rw [if_neg cq] at e2
        rw [e1, e2] at et hh ⊢
        exact P p hp q hq t ht et hh
  intro p hp q hq t ht et hh
  rcases List.mem_append.mp hp with a | a
  · rcases List.mem_append.mp hq with b | b
    · exact old p a q b t ht et hh
    · rw [List.mem_singleton.mp b] at et hh
      exact absurd hh.symm (new p a t ht et.symm)
  · rcases List.mem_append.mp hq with b | b
    · rw [List.mem_singleton.mp a] at et hh
      exact absurd hh (new q b t ht et)
    · rw [List.mem_singleton.mp a, List.mem_singleton.mp b]
/-- a pair that comes with a hue that is free at both ends -/
theorem snoc_proper {R : List Pr} (P : Proper R) {x : Pr} (f0 : at_ R 0 x.l x.h = none) (f1 : at_ R 1 x.r x.h = none) : Proper (R ++ [x]) := by
  have no : ∀ q ∈ R, ∀ t, t < 2 → x.e t = q.e t → x.h ≠ q.h := by
    intro q hq t ht et
    by_cases z : t = 0
    · rw [z] at et
      exact fun e => at_none f0 q hq et.symm e.symm
    · have t1 : t = 1 := by omega
      rw [t1] at et
      exact fun e => at_none f1 q hq et.symm e.symm
  intro p hp q hq t ht et hh
  rcases List.mem_append.mp hp with a | a
  · rcases List.mem_append.mp hq with b | b
    · exact P p a q b t ht et hh
    · rw [List.mem_singleton.mp b] at et hh
      exact absurd hh.symm (no p a t ht et.symm)
  · rcases List.mem_append.mp hq with b | b
    · rw [List.mem_singleton.mp a] at et hh
      exact absurd hh (no q b t ht et)
    · rw [List.mem_singleton.mp a, List.mem_singleton.mp b]
end Mt

set_option Elab.async false
set_option linter.all false
namespace Mt
open K08 (count most ends)
/-! ### free hues, ways, a pair's place -/
def free (R : List Pr) (s e m : Nat) : List Nat := (List.range m).filter fun h => (at_ R s e h).isNone
theorem mem_free {R : List Pr} {s e m h : Nat} : h ∈ free R s e m ↔ h < m ∧ at_ R s e h = none := by
  unfold free
  rw [List.mem_filter, List.mem_range, Option.isNone_iff_eq_none]
structure Way where
  hue : Nat
  other : Nat
  c : List Nat
def ways (R : List Pr) (l r m : Nat) : List Way :=
  (free R 0 l m).flatMap fun a => (free R 1 r m).flatMap fun b => [⟨a, b, (chain R 1 r b a).map (·.n)⟩, ⟨b, a, (chain R 0 l a b).map (·.n)⟩]
theorem mem_ways {R : List Pr} {l r m : Nat} {w : Way} : w ∈ ways R l r m ↔ ∃ a ∈ free R 0 l m, ∃ b ∈ free R 1 r m, w = ⟨a, b, (chain R 1 r b a).map (·.n)⟩ ∨ w = ⟨b, a, (chain R 0 l a b).map (·.n)⟩ := by
  unfold ways
  constructor
  · intro h
    obtain ⟨a, ha, h⟩ := List.mem_flatMap.mp h
    obtain ⟨b, hb, h⟩ := List.mem_flatMap.mp h
    refine ⟨a, ha, b, hb, ?_⟩
    rcases List.mem_cons.mp h with z | z
    · exact .inl z
    · exact .inr (List.mem_singleton.mp z)
  · rintro ⟨a, ha, b, hb, h⟩
    refine List.mem_flatMap.mpr ⟨a, ha, List.mem_flatMap.mpr ⟨b, hb, ?_⟩⟩
    rcases h with z | z
    · rw [z]; exact List.mem_cons_self
    · rw [z]; exact List.mem_cons_of_mem _ List.mem_cons_self
def bestI (f : Nat → Nat) : Nat → Nat
  | 0 => 0
  | k + 1 => if f (k + 1) < f (bestI f k) then k + 1 else bestI f k
theorem bestI_le (f : Nat → Nat) : ∀ k, bestI f k ≤ k
  | 0 => Nat.le_refl _
  | k + 1 => by
    unfold bestI
    have := bestI_le f k
    split <;> omega
theorem bestI_min (f : Nat → Nat) : ∀ k j, j ≤ k → f (bestI f k) ≤ f j
  | 0, j, h => by
    have : j = 0 := by omega
    rw [this]
    exact Nat.le_refl _
  | k + 1, j, h => by
    unfold bestI
    by_cases e : j = k + 1
    · rw [e]
      split <;> omega
    · have := bestI_min f k j (by omega)
      split <;> omega
def best (ws : List Way) : Way := ws.getD (bestI (fun i => (ws.getD i ⟨0, 0, []⟩).c.length) (ws.length - 1)) ⟨0, 0, []⟩
theorem best_mem {ws : List Way} (h : ws ≠ []) : best ws ∈ ws := by
  unfold best
  have := bestI_le (fun i => (ws.getD i ⟨0, 0, []⟩).c.length) (ws.length - 1)
  have := List.length_pos_iff.mpr h
  rw [List.getD_eq_getElem?_getD, List.getElem?_eq_getElem (by omega)]
  exact List.getElem_mem _
theorem best_min {ws : List Way} {w : Way} (h : w ∈ ws) : (best ws).c.length ≤ w.c.length := by
  obtain ⟨i, hi, e⟩ := List.getElem_of_mem h
  have := bestI_min (fun i => (ws.getD i ⟨0, 0, []⟩).c.length) (ws.length - 1) i (by omega)
  unfold best
  have g : ws.getD i ⟨0, 0, []⟩ = w := by rw [List.getD_eq_getElem?_getD, List.getElem?_eq_getElem hi, e]; rfl
  simp only [g] at this
  exact this
/-- what is told of a pair: its number, its hue, the other hue of the chain that was turned, its numbers -/
structure Told where
  n : Nat
  hue : Nat
  other : Option Nat
  c : List Nat
def both (R : List Pr) (l r m : Nat) : List Nat := (free R 0 l m).filter fun h => decide (h ∈ free R 1 r m)
def place (R : List Pr) (n l r m : Nat) : Told × List Pr :=
  match both R l r m with
  | h :: _ => (⟨n, h, none, []⟩, R ++ [⟨n, l, r, h⟩])
  | [] => (⟨n, (best (ways R l r m)).hue, some (best (ways R l r m)).other, (best (ways R l r m)).c⟩,
      turn R (best (ways R l r m)).c (best (ways R l r m)).hue (best (ways R l r m)).other ++ [⟨n, l, r, (best (ways R l r m)).hue⟩])
theorem place_both {R : List Pr} {n l r m h : Nat} {t : List Nat} (e : both R l r m = h :: t) : place R n l r m = (⟨n, h, none, []⟩, R ++ [⟨n, l, r, h⟩]) := by
  unfold place
  rw [e]
theorem place_way {R : List Pr} {n l r m : Nat} (e : both R l r m = []) : place R n l r m = (⟨n, (best (ways R l r m)).hue, some (best (ways R l r m)).other, (best (ways R l r m)).c⟩,
      turn R (best (ways R l r m)).c (best (ways R l r m)).hue (best (ways R l r m)).other ++ [⟨n, l, r, (best (ways R l r m)).hue⟩]) := by
  unfold place
  rw [e]
/-- what a way is -/
theorem way_is {R : List Pr} {l r m : Nat} (f0 : free R 0 l m ≠ []) (f1 : free R 1 r m ≠ []) : best (ways R l r m) ∈ ways R l r m := by
  refine best_mem ?_
  obtain ⟨a, ha⟩ := List.exists_mem_of_ne_nil _ f0
  obtain ⟨b, hb⟩ := List.exists_mem_of_ne_nil _ f1
  exact List.ne_nil_of_mem (mem_ways.mpr ⟨a, ha, b, hb, .inl rfl⟩)
theorem both_nil {R : List Pr} {l r m a b : Nat} (e : both R l r m = []) (ha : a ∈ free R 0 l m) (hb : b ∈ free R 1 r m) : a ≠ b := by
  intro z
  have : a ∈ both R l r m := List.mem_filter.mpr ⟨ha, decide_eq_true (by rw [z]; exact hb)⟩
  rw [e] at this
  cases this
/-- a pair finds its place: still no two that meet have one hue -/
theorem place_proper {R : List Pr} (P : Proper R) (N : (R.map (·.n)).Nodup) {n l r m : Nat} (f0 : free R 0 l m ≠ []) (f1 : free R 1 r m ≠ []) : Proper (place R n l r m).2 := by
  cases e : both R l r m with
  | cons h t =>
    rw [place_both e]
    have hm : h ∈ both R l r m := by rw [e]; exact List.mem_cons_self
    obtain ⟨h1, h2⟩ := List.mem_filter.mp hm
    exact snoc_proper P (mem_free.mp h1).2 (mem_free.mp (of_decide_eq_true h2)).2
  | nil =>
    rw [place_way e]
    obtain ⟨a, ha, b, hb, z⟩ := mem_ways.mp (way_is f0 f1)
    have ab := both_nil e ha hb
    have a0 := (mem_free.mp ha).2
    have b1 := (mem_free.mp hb).2
    rcases z with z | z
    · rw [z]
      exact turn_proper P N (s := 1) (e := r) (e2 := l) (one := b) (other := a) (x := ⟨n, l, r, a⟩) (by decide) ab b1 a0 rfl rfl rfl
    · rw [z]
      exact turn_proper P N (s := 0) (e := l) (e2 := r) (one := a) (other := b) (x := ⟨n, l, r, b⟩) (by decide) (Ne.symm ab) a0 b1 rfl rfl rfl
theorem place_ns {R : List Pr} {n l r m : Nat} : (place R n l r m).2.map (·.n) = R.map (·.n) ++ [n] := by
  cases e : both R l r m with
  | cons h t => rw [place_both e, List.map_append]; rfl
  | nil => rw [place_way e, List.map_append, turn_n]; rfl
theorem place_es {R : List Pr} {n l r m s : Nat} : (place R n l r m).2.map (·.e s) = R.map (·.e s) ++ [(⟨n, l, r, 0⟩ : Pr).e s] := by
  cases e : both R l r m with
  | cons h t => rw [place_both e, List.map_append]; rfl
  | nil => rw [place_way e, List.map_append, turn_e]; rfl
/-- a pair whose number is of the chain of the way has one of its two hues -/
theorem way_c {R : List Pr} (N : (R.map (·.n)).Nodup) {l r m : Nat} {w : Way} (h : w ∈ ways R l r m) {p : Pr} (hp : p ∈ R) (c : p.n ∈ w.c) : p.h = w.hue ∨ p.h = w.other := by
  obtain ⟨a, ha, b, hb, z⟩ := mem_ways.mp h
  rcases z with z | z
  · rw [z] at c ⊢
    obtain ⟨c', h1, h2⟩ := List.mem_map.mp c
    obtain ⟨h3, h4⟩ := chainF_mem h1
    rw [n_inj N h3 hp h2] at h4
    exact h4
  · rw [z] at c ⊢
    obtain ⟨c', h1, h2⟩ := List.mem_map.mp c
    obtain ⟨h3, h4⟩ := chainF_mem h1
    rw [n_inj N h3 hp h2] at h4
    exact h4
theorem way_lt {R : List Pr} {l r m : Nat} {w : Way} (h : w ∈ ways R l r m) : w.hue < m ∧ w.other < m := by
  obtain ⟨a, ha, b, hb, z⟩ := mem_ways.mp h
  have a0 := (mem_free.mp ha).1
  have b0 := (mem_free.mp hb).1
  rcases z with z | z <;> rw [z] <;> exact ⟨by assumption, by assumption⟩
theorem way_nodup {R : List Pr} (P : Proper R) (N : (R.map (·.n)).Nodup) {l r m : Nat} (e : both R l r m = []) {w : Way} (h : w ∈ ways R l r m) : w.c.Nodup ∧ ∀ x ∈ w.c, x ∈ R.map (·.n) := by
  have key : ∀ (s e one other : Nat), s < 2 → other ≠ one → at_ R s e one = none → ((chain R s e one other).map (·.n)).Nodup ∧ ∀ x ∈ (chain R s e one other).map (·.n), x ∈ R.map (·.n) := by
    intro s e one other hs ho fr
    have nd := chainF_nodup (R.length + 1) P hs ho (at_none fr)
    refine ⟨?_, fun x hx => ?_⟩
    · rw [List.nodup_iff_pairwise_ne, List.pairwise_map]
      refine List.Pairwise.imp_of_mem (fun ha hb hn z => hn ?_) (List.nodup_iff_pairwise_ne.mp nd)
      exact n_inj N (chainF_mem ha).1 (chainF_mem hb).1 z
    · obtain ⟨p, hp, rfl⟩ := List.mem_map.mp hx
      exact List.mem_map.mpr ⟨p, (chainF_mem hp).1, rfl⟩
  obtain ⟨a, ha, b, hb, z⟩ := mem_ways.mp h
  have ab := both_nil e ha hb
  have a0 := (mem_free.mp ha).2
  have b1 := (mem_free.mp hb).2
  rcases z with z | z
  · rw [z]
    exact key 1 r b a (by decide) ab b1
  · rw [z]
    exact key 0 l a b (by decide) (Ne.symm ab) a0
/-- whose hue is none of the first m keeps it; others stay below m; the new one gets one of these -/
theorem place_hues {R : List Pr} (N : (R.map (·.n)).Nodup) {n l r m : Nat} (f0 : free R 0 l m ≠ []) (f1 : free R 1 r m ≠ []) {q : Pr} (hq : q ∈ (place R n l r m).2) :
    (q.n = n ∧ q.l = l ∧ q.r = r ∧ q.h < m) ∨ q ∈ R ∨ (∃ p ∈ R, p.n = q.n ∧ p.l = q.l ∧ p.r = q.r ∧ p.h < m ∧ q.h < m) := by
  cases e : both R l r m with
  | cons h t =>
    rw [place_both e] at hq
    have hm : h ∈ both R l r m := by rw [e]; exact List.mem_cons_self
    have := (mem_free.mp (List.mem_filter.mp hm).1).1
    rcases List.mem_append.mp hq with z | z
    · exact .inr (.inl z)
    · rw [List.mem_singleton.mp z]
      exact .inl ⟨rfl, rfl, rfl, this⟩
  | nil =>
    rw [place_way e] at hq
    have W := way_is f0 f1
    have hw := way_lt W
    rcases List.mem_append.mp hq with y | y
    · obtain ⟨p, hp, ep⟩ := turn_mem y
      by_cases c : p.n ∈ (best (ways R l r m)).c
      · rw [if_pos c] at ep
        refine .inr (.inr ⟨p, hp, by rw [ep]; rfl, by rw [ep]; rfl, by rw [ep]; rfl, ?_, ?_⟩)
        · rcases way_c N W hp c with z | z <;> rw [z]
          · exact hw.1
          · exact hw.2
        · rw [ep]
          show (if p.h = (best (ways R l r m)).hue then (best (ways R l r m)).other else (best (ways R l r m)).hue) < m
          split
          · exact hw.2
          · exact hw.1
      · rw [if_neg c] at ep
        rw [ep]
        exact .inr (.inl hp)
    · rw [List.mem_singleton.mp y]
      exact .inl ⟨rfl, rfl, rfl, hw.1⟩
/-- an old pair of a hue beyond the first m stays as it is -/
theorem place_far {R : List Pr} (N : (R.map (·.n)).Nodup) {n l r m : Nat} (f0 : free R 0 l m ≠ []) (f1 : free R 1 r m ≠ []) {p : Pr} (hp : p ∈ R) (hm : m ≤ p.h) : p ∈ (place R n l r m).2 := by
  cases e : both R l r m with
  | cons h t =>
    rw [place_both e]
    exact List.mem_append_left _ hp
  | nil =>
    rw [place_way e]
    have W := way_is f0 f1
    have hw := way_lt W
    refine List.mem_append_left _ (List.mem_map.mpr ⟨p, hp, ?_⟩)
    show (if p.n ∈ (best (ways R l r m)).c then _ else p) = p
    by_cases c : p.n ∈ (best (ways R l r m)).c
    · have := way_c N W hp c
      omega
    · rw [if_neg c]
/-! ### how full -/
def deg (R : List Pr) (s e : Nat) : Nat := (R.map (·.e s)).count e
def row (p : Pr) : List Int := [(p.l : Int), (p.r : Int), (p.h : Int)]
def cnt (R : List Pr) : Nat := count (R.map row)
theorem count_cast (l : List Nat) (x : Nat) : (l.map (fun n : Nat => (n : Int))).count (x : Int) = l.count x := by
  induction l with
  | nil => rfl
  | cons a l ih =>
    rw [List.map_cons, List.count_cons, List.count_cons, ih]
    congr 1
    by_cases h : a = x
    · rw [h]
      simp
    · have : ¬ (a : Int) = (x : Int) := by omega
      simp [h, this]
theorem ends_row (R : List Pr) : ends (R.map row) 0 = (R.map (·.e 0)).map (fun n : Nat => (n : Int)) ∧ ends (R.map row) 1 = (R.map (·.e 1)).map (fun n : Nat => (n : Int)) := by
  unfold ends
  rw [List.map_map, List.map_map, List.map_map, List.map_map]
  exact ⟨rfl, rfl⟩
theorem most_le {l : List Nat} {x : Nat} : l.count x ≤ most (l.map (fun n : Nat => (n : Int))) := by
  rw [← count_cast]
  by_cases h : (x : Int) ∈ l.map (fun n : Nat => (n : Int))
  · exact K08.most_ge h
  · rw [List.count_eq_zero.mpr h]
    exact Nat.zero_le _
theorem most_at {l : List Nat} : most (l.map (fun n : Nat => (n : Int))) = 0 ∨ ∃ x ∈ l, most (l.map (fun n : Nat => (n : Int))) = l.count x := by
  rcases K08.most_in (l.map (fun n : Nat => (n : Int))) with h | ⟨e, he, q⟩
  · exact .inl h
  · obtain ⟨x, hx, rfl⟩ := List.mem_map.mp he
    rw [count_cast] at q
    exact .inr ⟨x, hx, q⟩
theorem deg_le (R : List Pr) {s e : Nat} (hs : s < 2) : deg R s e ≤ cnt R := by
  unfold deg cnt count
  obtain ⟨e0, e1⟩ := ends_row R
  rw [e0, e1]
  match s, hs with
  | 0, _ => exact Nat.le_trans most_le (Nat.le_max_left _ _)
  | 1, _ => exact Nat.le_trans most_le (Nat.le_max_right _ _)
theorem cnt_at (R : List Pr) : (cnt R = 0 ∧ R = []) ∨ ∃ s e, s < 2 ∧ (∃ p ∈ R, p.e s = e) ∧ deg R s e = cnt R := by
  cases R with
  | nil => exact .inl ⟨rfl, rfl⟩
  | cons p R =>
    right
    generalize hR : p :: R = R'
    have hp : p ∈ R' := by rw [← hR]; exact List.mem_cons_self
    have pos : 0 < cnt R' := by
      refine Nat.lt_of_lt_of_le ?_ (deg_le R' (s := 0) (e := p.e 0) (by decide))
      exact List.count_pos_iff.mpr (List.mem_map.mpr ⟨p, hp, rfl⟩)
    unfold cnt count at pos ⊢
    obtain ⟨e0, e1⟩ := ends_row R'
    rw [e0, e1] at pos ⊢
    rcases Nat.le_total (most ((R'.map (·.e 0)).map (fun n : Nat => (n : Int)))) (most ((R'.map (·.e 1)).map (fun n : Nat => (n : Int)))) with h | h
    · rw [Nat.max_eq_right h] at pos ⊢
      rcases most_at (l := R'.map (·.e 1)) with z | ⟨x, hx, z⟩
      · omega
      · obtain ⟨q, hq, e⟩ := List.mem_map.mp hx
        exact ⟨1, x, by decide, ⟨q, hq, e⟩, z.symm⟩
    · rw [Nat.max_eq_left h] at pos ⊢
      rcases most_at (l := R'.map (·.e 0)) with z | ⟨x, hx, z⟩
      · omega
      · obtain ⟨q, hq, e⟩ := List.mem_map.mp hx
        exact ⟨0, x, by decide, ⟨q, hq, e⟩, z.symm⟩
theorem cnt_congr {R R' : List Pr} (h0 : R.map (·.e 0) = R'.map (·.e 0)) (h1 : R.map (·.e 1) = R'.map (·.e 1)) : cnt R = cnt R' := by
  unfold cnt count
  rw [(ends_row R).1, (ends_row R).2, (ends_row R').1, (ends_row R').2, h0, h1]
theorem deg_filter (R : List Pr) (s e : Nat) : deg R s e = (R.filter fun p => decide (p.e s = e)).length := by
  unfold deg
  induction R with
  | nil => rfl
  | cons p R ih =>
    rw [List.map_cons, List.count_cons, ih, List.filter_cons]
    by_cases h : p.e s = e
    · simp [h]
    · simp [h]
/-- where fewer than m others meet one of m hues is free -/
theorem free_some {R : List Pr} {s e m : Nat} (h : deg R s e < m) : free R s e m ≠ [] := by
  intro z
  rw [deg_filter] at h
  have all : ∀ x ∈ List.range m, x ∈ (R.filter fun p => decide (p.e s = e)).map (·.h) := by
    intro x hx
    have nx : x ∉ free R s e m := by rw [z]; simp
    cases a : at_ R s e x with
    | none => exact absurd (mem_free.mpr ⟨List.mem_range.mp hx, a⟩) nx
    | some p =>
      obtain ⟨h1, h2, h3⟩ := at_some a
      exact List.mem_map.mpr ⟨p, List.mem_filter.mpr ⟨h1, decide_eq_true h2⟩, h3⟩
  have := nodup_len List.nodup_range all
  rw [List.length_range, List.length_map] at this
  omega
end Mt

set_option Elab.async false
set_option linter.all false
namespace Mt
open K08 (count most ends)
/-! ### what holds of a hall's pairs -/
structure Good (R : List Pr) : Prop where
  P : Proper R
  N : (R.map (·.n)).Nodup
  H : ∀ p ∈ R, p.h < cnt R
theorem Good.nil : Good [] := ⟨fun p hp => absurd hp (by simp), List.nodup_nil, fun p hp => absurd hp (by simp)⟩
def nlr (p : Pr) : Nat × Nat × Nat := (p.n, p.l, p.r)
theorem map_n (R : List Pr) : R.map (·.n) = (R.map nlr).map (·.1) := by
  rw [List.map_map]
  rfl
theorem map_e (R : List Pr) (s : Nat) : R.map (·.e s) = (R.map nlr).map (fun t => if s = 0 then t.2.1 else t.2.2) := by
  rw [List.map_map]
  rfl
theorem perm_deg {R R' : List Pr} (h : (R.map nlr).Perm (R'.map nlr)) (s e : Nat) : deg R s e = deg R' s e := by
  unfold deg
  rw [map_e, map_e]
  exact (h.map _).count_eq _
theorem cnt_deg {R R' : List Pr} (h : ∀ s e, s < 2 → deg R s e ≤ deg R' s e) : cnt R ≤ cnt R' := by
  rcases cnt_at R with ⟨z, _⟩ | ⟨s, e, hs, _, z⟩
  · omega
  · have := h s e hs
    have := deg_le R' (s := s) (e := e) hs
    omega
theorem perm_cnt {R R' : List Pr} (h : (R.map nlr).Perm (R'.map nlr)) : cnt R = cnt R' :=
  Nat.le_antisymm (cnt_deg fun s e _ => Nat.le_of_eq (perm_deg h s e)) (cnt_deg fun s e _ => Nat.le_of_eq (perm_deg h s e).symm)
theorem perm_nodup {R R' : List Pr} (h : (R.map nlr).Perm (R'.map nlr)) (N : (R.map (·.n)).Nodup) : (R'.map (·.n)).Nodup := by
  rw [map_n] at N ⊢
  exact (h.map _).nodup_iff.mp N
theorem deg_snoc (R : List Pr) (p : Pr) (s e : Nat) : deg (R ++ [p]) s e = deg R s e + if p.e s = e then 1 else 0 := by
  unfold deg
  rw [List.map_append, List.count_append]
  by_cases h : p.e s = e
  · rw [if_pos h, ← h]
    simp
  · rw [if_neg h]
    have : e ∉ List.map (·.e s) [p] := by
      simp only [List.map_cons, List.map_nil, List.mem_singleton]
      exact fun z => h z.symm
    rw [List.count_eq_zero.mpr this]
theorem place_nlr {R : List Pr} {n l r m : Nat} : (place R n l r m).2.map nlr = R.map nlr ++ [(n, l, r)] := by
  cases e : both R l r m with
  | cons h t => rw [place_both e, List.map_append]; rfl
  | nil =>
    rw [place_way e, List.map_append]
    have : (turn R (best (ways R l r m)).c (best (ways R l r m)).hue (best (ways R l r m)).other).map nlr = R.map nlr := by
      unfold turn
      rw [List.map_map]
      refine List.map_congr_left fun p _ => ?_
      show nlr (if p.n ∈ _ then _ else p) = nlr p
      split <;> rfl
    rw [this]
    rfl
/-! ### a pair comes -/
def manyWith (R : List Pr) (l r : Nat) : Nat := count (R.map row ++ [[(l : Int), (r : Int)]])
theorem many_is (R : List Pr) (n l r h : Nat) : manyWith R l r = cnt (R ++ [⟨n, l, r, h⟩]) := by
  unfold manyWith cnt count ends
  simp only [List.map_append, List.map_cons, List.map_nil]
  rfl
def come (R : List Pr) (n l r : Nat) : Told × List Pr := place R n l r (manyWith R l r)
theorem come_free (R : List Pr) (l r : Nat) : free R 0 l (manyWith R l r) ≠ [] ∧ free R 1 r (manyWith R l r) ≠ [] := by
  rw [many_is R 0 l r 0]
  refine ⟨free_some ?_, free_some ?_⟩
  · have a := deg_le (R ++ [⟨0, l, r, 0⟩]) (s := 0) (e := l) (by decide)
    rw [deg_snoc, if_pos (show (⟨0, l, r, 0⟩ : Pr).e 0 = l from rfl)] at a
    omega
  · have a := deg_le (R ++ [⟨0, l, r, 0⟩]) (s := 1) (e := r) (by decide)
    rw [deg_snoc, if_pos (show (⟨0, l, r, 0⟩ : Pr).e 1 = r from rfl)] at a
    omega
theorem come_cnt (R : List Pr) (n l r : Nat) : cnt (come R n l r).2 = manyWith R l r := by
  rw [many_is R n l r 0]
  refine perm_cnt ?_
  unfold come
  rw [place_nlr, List.map_append]
  exact List.Perm.refl _
theorem cnt_le_many (R : List Pr) (l r : Nat) : cnt R ≤ manyWith R l r := by
  rw [many_is R 0 l r 0]
  exact cnt_deg fun s e _ => by rw [deg_snoc]; omega
theorem come_good {R : List Pr} (G : Good R) {n l r : Nat} (hn : n ∉ R.map (·.n)) : Good (come R n l r).2 := by
  obtain ⟨f0, f1⟩ := come_free R l r
  refine ⟨place_proper G.P G.N f0 f1, ?_, fun q hq => ?_⟩
  · unfold come
    rw [place_ns]
    refine List.nodup_append.mpr ⟨G.N, by simp, fun a ha b hb => ?_⟩
    rw [List.mem_singleton.mp hb]
    exact fun z => hn (by rw [← z]; exact ha)
  · rw [come_cnt]
    rcases place_hues G.N f0 f1 hq with ⟨_, _, _, z⟩ | z | ⟨_, _, _, _, _, _, z⟩
    · exact z
    · have := G.H q z
      have := cnt_le_many R l r
      omega
    · exact z
/-! ### a pair goes -/
def drop (R : List Pr) (x : Nat) : List Pr := R.filter fun p => decide (p.n ≠ x)
theorem mem_drop {R : List Pr} {x : Nat} {p : Pr} : p ∈ drop R x ↔ p ∈ R ∧ p.n ≠ x := by
  unfold drop
  rw [List.mem_filter, decide_eq_true_eq]
theorem drop_no {R : List Pr} {x : Nat} (h : x ∉ R.map (·.n)) : drop R x = R := by
  unfold drop
  exact List.filter_eq_self.mpr fun p hp => decide_eq_true fun z => h (List.mem_map.mpr ⟨p, hp, z⟩)
theorem drop_perm {R : List Pr} (N : (R.map (·.n)).Nodup) {p : Pr} (hp : p ∈ R) : R.Perm (drop R p.n ++ [p]) := by
  induction R with
  | nil => cases hp
  | cons a R ih =>
    have N' : (a.n :: R.map (·.n)).Nodup := N
    obtain ⟨h1, h2⟩ := List.nodup_cons.mp N'
    rcases List.mem_cons.mp hp with z | z
    · have : drop (a :: R) p.n = R := by
        unfold drop
        rw [List.filter_cons, if_neg (by simp [z])]
        rw [z]
        exact drop_no h1
      rw [this, z]
      exact (List.perm_append_singleton a R).symm
    · have na : a.n ≠ p.n := fun e => h1 (by rw [e]; exact List.mem_map.mpr ⟨p, z, rfl⟩)
      have : drop (a :: R) p.n = a :: drop R p.n := by
        unfold drop
        rw [List.filter_cons, if_pos (by simp [na])]
      rw [this]
      exact (ih h2 z).cons a
theorem drop_nodup {R : List Pr} (N : (R.map (·.n)).Nodup) (x : Nat) : ((drop R x).map (·.n)).Nodup := (List.filter_sublist.map _).nodup N
theorem drop_notin (R : List Pr) (x : Nat) : x ∉ (drop R x).map (·.n) := by
  intro h
  obtain ⟨p, hp, e⟩ := List.mem_map.mp h
  exact (mem_drop.mp hp).2 e
theorem drop_deg {R : List Pr} (N : (R.map (·.n)).Nodup) {p : Pr} (hp : p ∈ R) (s e : Nat) : deg R s e = deg (drop R p.n) s e + if p.e s = e then 1 else 0 := by
  rw [← deg_snoc]
  unfold deg
  exact ((drop_perm N hp).map _).count_eq _
def srt (l : List Nat) : List Nat := l.mergeSort (fun a b => decide (a ≤ b))
theorem srt_perm (l : List Nat) : (srt l).Perm l := List.mergeSort_perm l _
theorem srt_le (l : List Nat) : (srt l).Pairwise (· ≤ ·) := by
  have := List.pairwise_mergeSort (le := fun a b : Nat => decide (a ≤ b)) (by intro a b c h1 h2; simp at *; omega) (by intro a b; simp; omega) l
  exact this.imp (by intro a b h; simpa using h)
theorem srt_is {l m : List Nat} (h1 : m.Perm l) (h2 : m.Pairwise (· ≤ ·)) : m = srt l :=
  (h1.trans (srt_perm l).symm).eq_of_pairwise (fun x y _ _ h1 h2 => Nat.le_antisymm h1 h2) h2 (srt_le l)
theorem mem_srt {l : List Nat} {x : Nat} : x ∈ srt l ↔ x ∈ l := (srt_perm l).mem_iff
/-- the numbers of the pairs of a hue, rising -/
def ofHue (R : List Pr) (h : Nat) : List Nat := (srt (R.map (·.n))).filter fun x => R.any fun p => decide (p.n = x) && decide (p.h = h)
theorem mem_ofHue {R : List Pr} {h x : Nat} : x ∈ ofHue R h ↔ ∃ p ∈ R, p.n = x ∧ p.h = h := by
  unfold ofHue
  rw [List.mem_filter, mem_srt, List.any_eq_true]
  constructor
  · rintro ⟨_, p, hp, e⟩
    simp only [Bool.and_eq_true, decide_eq_true_eq] at e
    exact ⟨p, hp, e⟩
  · rintro ⟨p, hp, e1, e2⟩
    exact ⟨List.mem_map.mpr ⟨p, hp, e1⟩, p, hp, by simp [e1, e2]⟩
theorem ofHue_nodup {R : List Pr} (N : (R.map (·.n)).Nodup) (h : Nat) : (ofHue R h).Nodup :=
  List.filter_sublist.nodup ((srt_perm _).nodup_iff.mpr N)
def pairOf (R : List Pr) (x : Nat) : Option Pr := R.find? fun p => decide (p.n = x)
theorem pairOf_some {R : List Pr} {x : Nat} {p : Pr} (h : pairOf R x = some p) : p ∈ R ∧ p.n = x :=
  ⟨List.mem_of_find?_eq_some h, by simpa using List.find?_some h⟩
theorem pairOf_is {R : List Pr} (N : (R.map (·.n)).Nodup) {p : Pr} (hp : p ∈ R) : pairOf R p.n = some p := by
  cases h : pairOf R p.n with
  | none =>
    have := List.find?_eq_none.mp h p hp
    simp at this
  | some q =>
    obtain ⟨h1, h2⟩ := pairOf_some h
    rw [n_inj N h1 hp h2]
def goL (m : Nat) : List Pr → List Nat → List Told × List Pr
  | R, [] => ([], R)
  | R, x :: xs => match pairOf R x with
    | none => ([], R)
    | some p => ((place (drop R x) x p.l p.r m).1 :: (goL m (place (drop R x) x p.l p.r m).2 xs).1, (goL m (place (drop R x) x p.l p.r m).2 xs).2)
theorem goL_cons {m : Nat} {R : List Pr} {x : Nat} {xs : List Nat} {p : Pr} (h : pairOf R x = some p) :
    goL m R (x :: xs) = ((place (drop R x) x p.l p.r m).1 :: (goL m (place (drop R x) x p.l p.r m).2 xs).1, (goL m (place (drop R x) x p.l p.r m).2 xs).2) := by
  rw [goL, h]
/-- what holds while those of the hue m are placed anew -/
structure Going (m : Nat) (R : List Pr) (xs : List Nat) : Prop where
  P : Proper R
  N : (R.map (·.n)).Nodup
  D : ∀ s e, s < 2 → deg R s e ≤ m
  H : ∀ p ∈ R, p.h ≤ m
  X : xs.Nodup
  I : ∀ p ∈ R, p.h = m ↔ p.n ∈ xs
  J : ∀ x ∈ xs, x ∈ R.map (·.n)
theorem Going.pair {m : Nat} {R : List Pr} {x : Nat} {xs : List Nat} (G : Going m R (x :: xs)) : ∃ p ∈ R, p.n = x ∧ p.h = m ∧ pairOf R x = some p ∧
    free (drop R x) 0 p.l m ≠ [] ∧ free (drop R x) 1 p.r m ≠ [] := by
  obtain ⟨p, hp, e⟩ := List.mem_map.mp (G.J x List.mem_cons_self)
  have e : p.n = x := e
  have hm : p.h = m := (G.I p hp).mpr (by rw [e]; exact List.mem_cons_self)
  refine ⟨p, hp, e, hm, by rw [← e]; exact pairOf_is G.N hp, free_some ?_, free_some ?_⟩
  · have a := G.D 0 p.l (by decide)
    rw [drop_deg G.N hp, if_pos (show p.e 0 = p.l from rfl), e] at a
    omega
  · have a := G.D 1 p.r (by decide)
    rw [drop_deg G.N hp, if_pos (show p.e 1 = p.r from rfl), e] at a
    omega
theorem Going.next_nlr {R : List Pr} {x m : Nat} (N : (R.map (·.n)).Nodup) {p : Pr} (hp : p ∈ R) (e : p.n = x) : ((place (drop R x) x p.l p.r m).2.map nlr).Perm (R.map nlr) := by
  rw [place_nlr]
  have := ((drop_perm N hp).map nlr).symm
  rw [List.map_append, e] at this
  have e2 : List.map nlr [p] = [(x, p.l, p.r)] := by
    rw [← e]
    rfl
  rw [e2] at this
  exact this
theorem Going.next {m : Nat} {R : List Pr} {x : Nat} {xs : List Nat} (G : Going m R (x :: xs)) {p : Pr} (hp : p ∈ R) (e : p.n = x) (hm : p.h = m)
    (f0 : free (drop R x) 0 p.l m ≠ []) (f1 : free (drop R x) 1 p.r m ≠ []) : Going m (place (drop R x) x p.l p.r m).2 xs := by
  obtain ⟨x1, x2⟩ := List.nodup_cons.mp G.X
  have pm := Going.next_nlr (m := m) G.N hp e
  have Nd := drop_nodup G.N x
  refine ⟨place_proper (G.P.sub fun q hq => (mem_drop.mp hq).1) Nd f0 f1, perm_nodup pm.symm G.N, fun s e hs => by rw [perm_deg pm]; exact G.D s e hs, fun q hq => ?_, x2, fun q hq => ?_, fun y hy => ?_⟩
  · rcases place_hues Nd f0 f1 hq with ⟨_, _, _, z⟩ | z | ⟨_, _, _, _, _, _, z⟩
    · omega
    · exact G.H q (mem_drop.mp z).1
    · omega
  · rcases place_hues Nd f0 f1 hq with ⟨z1, _, _, z⟩ | z | ⟨q', z0, z1, _, _, z3, z⟩
    · rw [z1]
      exact ⟨fun h => by omega, fun h => absurd h x1⟩
    · obtain ⟨a, b⟩ := mem_drop.mp z
      have := G.I q a
      rw [this, List.mem_cons]
      exact ⟨fun h => h.resolve_left b, .inr⟩
    · obtain ⟨a, b⟩ := mem_drop.mp z0
      have := G.I q' a
      rw [List.mem_cons, z1] at this
      exact ⟨fun h => by omega, fun h => absurd (this.mpr (.inr h)) (by omega)⟩
  · have := G.J y (List.mem_cons_of_mem _ hy)
    rw [map_n] at this ⊢
    exact (pm.map _).mem_iff.mpr this
theorem goL_ok {m : Nat} : ∀ {xs : List Nat} {R : List Pr}, Going m R xs → Going m (goL m R xs).2 [] ∧ ((goL m R xs).2.map nlr).Perm (R.map nlr)
  | [], R, G => ⟨G, List.Perm.refl _⟩
  | x :: xs, R, G => by
    obtain ⟨p, hp, e, hm, ho, f0, f1⟩ := G.pair
    rw [goL_cons ho]
    obtain ⟨a, b⟩ := goL_ok (G.next hp e hm f0 f1)
    exact ⟨a, b.trans (Going.next_nlr G.N hp e)⟩
def go (R : List Pr) (x : Nat) : List Told × List Pr := if cnt (drop R x) = cnt R then ([], drop R x) else goL (cnt (drop R x)) (drop R x) (ofHue (drop R x) (cnt (drop R x)))
theorem drop_cnt {R : List Pr} (N : (R.map (·.n)).Nodup) {x : Nat} (hx : x ∈ R.map (·.n)) : cnt (drop R x) ≤ cnt R ∧ cnt R ≤ cnt (drop R x) + 1 := by
  obtain ⟨p, hp, e⟩ := List.mem_map.mp hx
  have e : p.n = x := e
  rw [← e]
  refine ⟨cnt_deg fun s e _ => by rw [drop_deg N hp]; omega, ?_⟩
  rcases cnt_at R with ⟨z, _⟩ | ⟨s, e, hs, _, z⟩
  · omega
  · have a := drop_deg N hp s e
    have b := deg_le (drop R p.n) (s := s) (e := e) hs
    split at a <;> omega
theorem go_start {R : List Pr} (G : Good R) {x : Nat} (hx : x ∈ R.map (·.n)) (ne : cnt (drop R x) ≠ cnt R) : Going (cnt (drop R x)) (drop R x) (ofHue (drop R x) (cnt (drop R x))) := by
  obtain ⟨a, b⟩ := drop_cnt G.N hx
  refine ⟨G.P.sub fun q hq => (mem_drop.mp hq).1, drop_nodup G.N x, fun s e hs => deg_le _ hs, fun p hp => ?_, ofHue_nodup (drop_nodup G.N x) _, fun p hp => ?_, fun y hy => ?_⟩
  · have := G.H p (mem_drop.mp hp).1
    omega
  · rw [mem_ofHue]
    refine ⟨fun h => ⟨p, hp, rfl, h⟩, fun ⟨q, hq, e1, e2⟩ => ?_⟩
    rw [← n_inj (drop_nodup G.N x) hq hp e1]
    exact e2
  · obtain ⟨p, hp, e, _⟩ := mem_ofHue.mp hy
    exact List.mem_map.mpr ⟨p, hp, e⟩
theorem go_ok {R : List Pr} (G : Good R) {x : Nat} (hx : x ∈ R.map (·.n)) : Good (go R x).2 ∧ ((go R x).2.map nlr).Perm ((drop R x).map nlr) := by
  unfold go
  by_cases c : cnt (drop R x) = cnt R
  · rw [if_pos c]
    exact ⟨⟨G.P.sub fun q hq => (mem_drop.mp hq).1, drop_nodup G.N x, fun p hp => by show p.h < cnt (drop R x); rw [c]; exact G.H p (mem_drop.mp hp).1⟩, List.Perm.refl _⟩
  · rw [if_neg c]
    obtain ⟨a, b⟩ := goL_ok (go_start G hx c)
    refine ⟨⟨a.P, a.N, fun p hp => ?_⟩, b⟩
    have h1 := a.H p hp
    have h2 := a.I p hp
    rw [perm_cnt b]
    have : p.h ≠ cnt (drop R x) := fun z => by
      have := h2.mp z
      simp at this
    omega
/-! ### at each fullest end each hue is had -/
theorem Good.full {R : List Pr} (G : Good R) {s e h : Nat} (hs : s < 2) (hd : deg R s e = cnt R) (hh : h < cnt R) : ∃ p ∈ R, p.e s = e ∧ p.h = h := by
  by_cases c : ∃ p ∈ R, p.e s = e ∧ p.h = h
  · exact c
  · exfalso
    have nd : ((R.filter fun p => decide (p.e s = e)).map (·.h)).Nodup := by
      have nR : R.Nodup := by
        have := G.N
        rw [List.nodup_iff_pairwise_ne, List.pairwise_map] at this
        exact List.nodup_iff_pairwise_ne.mpr (this.imp fun h z => h (by rw [z]))
      rw [List.nodup_iff_pairwise_ne, List.pairwise_map]
      refine List.Pairwise.imp_of_mem (fun ha hb hn z => hn ?_) (List.nodup_iff_pairwise_ne.mp (List.filter_sublist.nodup nR))
      obtain ⟨a1, a2⟩ := List.mem_filter.mp ha
      obtain ⟨b1, b2⟩ := List.mem_filter.mp hb
      exact G.P _ a1 _ b1 s hs ((of_decide_eq_true a2).trans (of_decide_eq_true b2).symm) z
    have sub : ∀ x ∈ ((R.filter fun p => decide (p.e s = e)).map (·.h)), x ∈ (List.range (cnt R)).erase h := by
      intro x hx
      obtain ⟨p, hp, rfl⟩ := List.mem_map.mp hx
      obtain ⟨a1, a2⟩ := List.mem_filter.mp hp
      have ne : p.h ≠ h := fun z => c ⟨p, a1, of_decide_eq_true a2, z⟩
      exact (List.mem_erase_of_ne ne).mpr (List.mem_range.mpr (G.H p a1))
    have a := nodup_len nd sub
    rw [List.length_map, ← deg_filter, hd, List.length_erase_of_mem (List.mem_range.mpr hh), List.length_range] at a
    omega
end Mt

set_option Elab.async false
set_option linter.all false
set_option maxRecDepth 100000
set_option maxHeartbeats 1000000
namespace Own
open PySem PySem.Spec PyProof.Rows L2 StX
/-! more rules with the written part named -/
section
def rSortI (K : PySem.W.Frag) : List V → Hp → VK → Prop := fun xs H Q => ∃ (a : Addr) (kvs : List (Key × V)) (ks : List Int), xs = [.ref a] ∧ Rd H a (.dK kvs) ∧ kvs.map (·.1) = ks.map Sum.inl ∧ ks.length < 64 ∧
  ∀ (ys : List Int) (p : Addr), ys.Perm ks → ys.Pairwise (· ≤ ·) → H p = none → Q (.ref p) (upd H p (.lst (ys.map V.int)))
theorem sortD (K : PySem.W.Frag) {X : Cx} (hc : X.calm = true) : CallR X (.builtin "sorted") (rSortI K) := call_sortedDI hc
theorem sortL (K : PySem.W.Frag) {X : Cx} (h : X.K = K := by rfl) : CallR X (.builtin "sorted") (rSorted K) := by
  subst h
  exact cr_sorted
theorem allL (K : PySem.W.Frag) {X : Cx} (hc : X.calm = true) (h : X.K = K := by rfl) : CallR X (.builtin "all") (rAll K) := by
  subst h
  exact cr_all hc
theorem starC (K : PySem.W.Frag) {X : Cx} {e : Expr} {es : List Expr} {te : TE} {t : TA} {p : Pos} (he : PE X e te) (hr : PA X es t) (h : X.K = K := by rfl)
    (hs : starEach (.Starred e p :: es) X.env = (true, eval e X.env) :: starEach es X.env := by rfl) : PA X (.Starred e p :: es) (tStar K te t) := by
  subst h
  exact pa_star he hr hs
theorem typ1 (K : PySem.W.Frag) {X : Cx} (h : X.K = K := by rfl) : CallR X (.type "type") (rTyp K) := by
  subst h
  exact call_type1
end
/-! type(x) == T -/
def tyNames : List String := ["int", "str", "bool", "NoneType", "list", "tuple", "dict", "bytes"]
theorem ty_meta {T : String} (h : T ∈ tyNames) (s : Shared) : s.TypeIs (.type T) "type" := by
  simp only [tyNames, List.mem_cons, List.not_mem_nil, or_false] at h
  rcases h with rfl | rfl | rfl | rfl | rfl | rfl | rfl | rfl <;> (show typeOf _ = _; kernel_rfl)
theorem TyB.name {K : PySem.W.Frag} {H : Hp} {x : V} {T : String} (t : TyB K H x T) : T ∈ tyNames := by
  cases t <;> simp [tyNames]
def rEqTy : R2 := fun x y H Q => ∃ a b : String, x = .ty a ∧ y = .ty b ∧ a ∈ tyNames ∧ b ∈ tyNames ∧ Q (.bl (decide (a = b))) H
def rNeTy : R2 := fun x y H Q => ∃ a b : String, x = .ty a ∧ y = .ty b ∧ a ∈ tyNames ∧ b ∈ tyNames ∧ Q (.bl (!decide (a = b))) H
section
variable {X : Cx}
theorem op_eqTy : OpR X (compareOp .Eq) rEqTy := by
  intro pins s σ H x y v u Q I rx ry h
  obtain ⟨a, b, rfl, rfl, ha, hb, q⟩ := h
  cases (show v = Value.type a from rx)
  cases (show u = Value.type b from ry)
  by_cases e : a = b
  · subst e
    rw [decide_eq_true rfl] at q
    exact PySem.TypeEq.eq_type_same (ty_meta ha) ⟨.bl true, H, I, rfl, q⟩
  · rw [decide_eq_false e] at q
    exact PySem.TypeEq.eq_type_other (ty_meta ha) (ty_meta hb) (by rw [beq_eq_false_iff_ne]; intro z; injection z with z; exact e z) ⟨.bl false, H, I, rfl, q⟩
end
/-! exceptions of the program -/
structure ExcO (K : PySem.W.Frag) (mg : Str → Option Value) (x : Str) (C : Addr) : Prop where
  g : mg x = some (.ref C)
  x : PySem.W.excIn K C [.type "ValueError", .type "Exception", .type "BaseException", .type "object"] "ValueError.__new__" = true
  k : PySem.W.keepIn K (.ref C) = true
  b : PySem.W.subIn K (.ref C) (.type "BaseException") = some true
  t : PySem.W.typeIn K (.ref C) = some (.type "type")
end Own

set_option Elab.async false
set_option linter.all false
set_option maxRecDepth 100000
set_option maxHeartbeats 1000000
namespace Own
open PySem PySem.Spec PyProof.Rows L2 Mt
section
variable {X : Cx}
/-- a constant of the module, told up to its token -/
theorem pe_gi {x : Str} {i : Int} {pos : Pos} (hg : Gl X x) (hm : ∃ t, X.mg x = some (.int i t)) (hd : (x == ("__debug__" : Str)) = false := by decide) : PE X (.Name x pos) (tC (.int i)) := by
  obtain ⟨t, h⟩ := hm
  exact pe_glob hg h ⟨t, rfl⟩ hd
theorem pe_gs {x : Str} {z : Str} {pos : Pos} (hg : Gl X x) (hm : ∃ t, X.mg x = some (.str z t)) (hd : (x == ("__debug__" : Str)) = false := by decide) : PE X (.Name x pos) (tC (.str z)) := by
  obtain ⟨t, h⟩ := hm
  exact pe_glob hg h ⟨t, rfl⟩ hd
end
/-! what stands for pairs, tables -/
section
variable {K : PySem.W.Frag} {H H' : Hp} {W : Tbs} {S : List Addr}
theorem pget {α β : Type} {G : α → β → Prop} : ∀ {l : List α} {m : List β}, Paired G l m → ∀ {i : Nat} {b : β}, m[i]? = some b → ∃ a, l[i]? = some a ∧ G a b
  | _, _, .nil, i, b, h => by simp at h
  | _, _, .cons r t, 0, b, h => by
    cases h
    exact ⟨_, rfl, r⟩
  | _, _, .cons r t, i + 1, b, h => by
    obtain ⟨a, h1, h2⟩ := pget t (i := i) (b := b) (by simpa using h)
    exact ⟨a, by simpa using h1, h2⟩
theorem pon {α β : Type} {G : α → β → Prop} : ∀ {l : List α} {m : List β}, Paired G l m → ∀ {i : Nat} {a : α}, l[i]? = some a → ∃ b, m[i]? = some b ∧ G a b
  | _, _, .nil, i, b, h => by simp at h
  | _, _, .cons r t, 0, b, h => by
    cases h
    exact ⟨_, rfl, r⟩
  | _, _, .cons r t, i + 1, b, h => by
    obtain ⟨a, h1, h2⟩ := pon t (i := i) (a := b) (by simpa using h)
    exact ⟨a, by simpa using h1, h2⟩
theorem papp {α β : Type} {G : α → β → Prop} : ∀ {l l' : List α} {m m' : List β}, Paired G l m → Paired G l' m' → Paired G (l ++ l') (m ++ m')
  | _, _, _, _, .nil, h => h
  | _, _, _, _, .cons r t, h => .cons r (papp t h)
/-- an entry of the dict of the pairs -/
def DEnt (K : PySem.W.Frag) (H : Hp) (kv : Key × V) (p : Pr) : Prop := ∃ a : Addr, kv = (Sum.inl (p.n : Int), .ref a) ∧ SqT K H a [.int p.l, .int p.r, .int p.h]
abbrev DEach (K : PySem.W.Frag) (H : Hp) : List (Key × V) → List Pr → Prop := Paired (DEnt K H)
theorem Fx.deach (x : Fx W S H H') {kvs : List (Key × V)} {R : List Pr} (h : DEach K H kvs R) : DEach K H' kvs R :=
  Paired.mapP h fun _ _ ⟨a, e, t⟩ => ⟨a, e, x.tup t⟩
theorem DEach.len {kvs : List (Key × V)} {R : List Pr} (h : DEach K H kvs R) : kvs.length = R.length := Paired.length h
theorem DEach.keys : ∀ {kvs : List (Key × V)} {R : List Pr}, DEach K H kvs R → kvs.map (·.1) = R.map (fun p => (Sum.inl (p.n : Int) : Key))
  | _, _, .nil => rfl
  | _, _, .cons ⟨a, e, _⟩ t => by
    rw [List.map_cons, List.map_cons, DEach.keys t, e]
theorem DEach.val : ∀ {kvs : List (Key × V)} {R : List Pr} {x : Nat}, DEach K H kvs R → (pairOf R x = none ∧ valV kvs (Sum.inl (x : Int)) = none) ∨
    ∃ p a, pairOf R x = some p ∧ valV kvs (Sum.inl (x : Int)) = some (.ref a) ∧ SqT K H a [.int p.l, .int p.r, .int p.h]
  | _, _, x, .nil => .inl ⟨rfl, rfl⟩
  | _, _, x, .cons (b := p) ⟨a, e, t⟩ r => by
    by_cases c : p.n = x
    · refine .inr ⟨p, a, ?_, ?_, t⟩
      · unfold pairOf
        rw [List.find?_cons, decide_eq_true c]
      · rw [e]
        exact valV_pos (by rw [c])
    · have n1 : ¬ (Sum.inl (p.n : Int) : Key) = Sum.inl (x : Int) := fun z => c (by have := Sum.inl.inj z; omega)
      have h2 : ∀ qs, pairOf (p :: qs) x = pairOf qs x := fun qs => by
        unfold pairOf
        rw [List.find?_cons, decide_eq_false c]
      rw [e, h2, valV_neg n1]
      exact DEach.val r
theorem DEach.in {kvs : List (Key × V)} {R : List Pr} (h : DEach K H kvs R) {p : Pr} (N : (R.map (·.n)).Nodup) (hp : p ∈ R) :
    ∃ a, valV kvs (Sum.inl (p.n : Int)) = some (.ref a) ∧ SqT K H a [.int p.l, .int p.r, .int p.h] := by
  rcases h.val (x := p.n) with ⟨h1, _⟩ | ⟨q, a, h1, h2, h3⟩
  · rw [pairOf_is N hp] at h1
    cases h1
  · rw [pairOf_is N hp] at h1
    cases h1
    exact ⟨a, h2, h3⟩
theorem DEach.no {kvs : List (Key × V)} {R : List Pr} (h : DEach K H kvs R) {x : Nat} (hx : x ∉ R.map (·.n)) : valV kvs (Sum.inl (x : Int)) = none := by
  rcases h.val (x := x) with ⟨_, h2⟩ | ⟨p, a, h1, _⟩
  · exact h2
  · obtain ⟨h3, h4⟩ := pairOf_some h1
    exact absurd (List.mem_map.mpr ⟨p, h3, h4⟩) hx
theorem DEach.snoc {kvs : List (Key × V)} {R : List Pr} (h : DEach K H kvs R) {p : Pr} {a : Addr} (hp : p.n ∉ R.map (·.n)) (ha : SqT K H a [.int p.l, .int p.r, .int p.h]) :
    DEach K H (putK kvs (Sum.inl (p.n : Int)) (.ref a)) (R ++ [p]) := by
  rw [putK_new _ (h.no hp)]
  exact papp h (.cons ⟨a, rfl, ha⟩ .nil)
/-- the pair of the number x gets another hue, in its place -/
theorem DEach.set {kvs : List (Key × V)} {R : List Pr} (h : DEach K H kvs R) {q : Pr} {a : Addr} (hx : q.n ∈ R.map (·.n)) (ha : SqT K H a [.int q.l, .int q.r, .int q.h]) :
    DEach K H (putK kvs (Sum.inl (q.n : Int)) (.ref a)) (R.map fun p => if p.n = q.n then q else p) := by
  have e : (kvs.any fun kv => decide (kv.1 = (Sum.inl (q.n : Int) : Key))) = true := by
    rw [valV_any]
    rcases h.val (x := q.n) with ⟨h1, _⟩ | ⟨_, _, _, h2, _⟩
    · obtain ⟨p, hp, ep⟩ := List.mem_map.mp hx
      have := List.find?_eq_none.mp h1 p hp
      simp [ep] at this
    · rw [h2]
      rfl
  unfold putK
  rw [if_pos e]
  clear e hx
  induction h with
  | nil => exact .nil
  | @cons kv p ps qs g t ih =>
    rw [List.map_cons, List.map_cons]
    obtain ⟨b, rfl, tb⟩ := g
    refine .cons ?_ ih
    by_cases c : p.n = q.n
    · rw [if_pos c, if_pos (by rw [c])]
      exact ⟨a, by rw [c], ha⟩
    · rw [if_neg c, if_neg (fun z => c (by have := Sum.inl.inj z; omega))]
      exact ⟨b, rfl, tb⟩
theorem DEach.drop {kvs : List (Key × V)} {R : List Pr} (h : DEach K H kvs R) (x : Nat) : DEach K H (dropK kvs (Sum.inl (x : Int))) (Mt.drop R x) := by
  unfold dropK Mt.drop
  induction h with
  | nil => exact .nil
  | @cons kv p ps qs g t ih =>
    rw [List.filter_cons, List.filter_cons]
    obtain ⟨b, rfl, tb⟩ := g
    by_cases c : p.n = x
    · rw [if_neg (by simp [c]), if_neg (by simp [c])]
      exact ih
    · have n1 : ¬ (Sum.inl (p.n : Int) : Key) = Sum.inl (x : Int) := fun z => c (by have := Sum.inl.inj z; omega)
      rw [if_pos (decide_eq_true n1), if_pos (decide_eq_true c)]
      exact .cons ⟨b, rfl, tb⟩ ih
theorem DEach.vals : ∀ {kvs : List (Key × V)} {R : List Pr}, DEach K H kvs R → ∃ as : List Addr, kvs.map (·.2) = as.map V.ref ∧ Each K H as (R.map row)
  | _, _, .nil => ⟨[], rfl, .nil⟩
  | _, _, .cons ⟨a, e, t⟩ r => by
    obtain ⟨as, h1, h2⟩ := DEach.vals r
    exact ⟨a :: as, by rw [List.map_cons, h1, e]; rfl, .cons t h2⟩
/-- a table by (side, end, hue): for each key the number and the far end -/
abbrev key3 (s e h : Nat) : List Key := [Sum.inl (s : Int), Sum.inl (e : Int), Sum.inl (h : Int)]
structure TabOf (K : PySem.W.Frag) (H : Hp) (tk : List (List Key × V)) (R : List Pr) : Prop where
  no : ∀ s e h, s < 2 → at_ R s e h = none → valV tk (key3 s e h) = none
  so : ∀ s e h p, s < 2 → at_ R s e h = some p → ∃ a, valV tk (key3 s e h) = some (.ref a) ∧ SqT K H a [.int p.n, .int (p.e (1 - s))]
  len : tk.length ≤ 2 * R.length
theorem Fx.tabOf (x : Fx W S H H') {tk : List (List Key × V)} {R : List Pr} (h : TabOf K H tk R) : TabOf K H' tk R :=
  ⟨h.no, fun s e g p hs a => let ⟨b, h1, h2⟩ := h.so s e g p hs a; ⟨b, h1, x.tup h2⟩, h.len⟩
theorem TabOf.nil : TabOf K H [] [] := ⟨fun _ _ _ _ _ => rfl, fun s e h p _ a => (by rw [at_nil] at a; cases a), Nat.le_refl _⟩
theorem key3_inj {s e h s' e' h' : Nat} (z : key3 s e h = key3 s' e' h') : s = s' ∧ e = e' ∧ h = h' := by
  have h1 := List.cons.inj z
  have h2 := List.cons.inj h1.2
  have h3 := List.cons.inj h2.2
  have a := Sum.inl.inj h1.1
  have b := Sum.inl.inj h2.1
  have c := Sum.inl.inj h3.1
  omega
/-- one more pair is told at both of its ends -/
theorem TabOf.snoc {tk : List (List Key × V)} {R : List Pr} {p : Pr} {a b : Addr} (h : TabOf K H tk R) (ha : SqT K H a [.int p.n, .int p.r]) (hb : SqT K H b [.int p.n, .int p.l]) :
    TabOf K H (putK (putK tk (key3 0 p.l p.h) (.ref a)) (key3 1 p.r p.h) (.ref b)) (R ++ [p]) := by
  have look : ∀ s e g, valV (putK (putK tk (key3 0 p.l p.h) (.ref a)) (key3 1 p.r p.h) (.ref b)) (key3 s e g) =
      if s = 1 ∧ e = p.r ∧ g = p.h then some (.ref b) else if s = 0 ∧ e = p.l ∧ g = p.h then some (.ref a) else valV tk (key3 s e g) := by
    intro s e g
    rw [valV_put, valV_put]
    by_cases c1 : s = 1 ∧ e = p.r ∧ g = p.h
    · rw [if_pos c1, if_pos (by rw [c1.1, c1.2.1, c1.2.2])]
    · rw [if_neg c1, if_neg (fun z => c1 (key3_inj z))]
      by_cases c0 : s = 0 ∧ e = p.l ∧ g = p.h
      · rw [if_pos c0, if_pos (by rw [c0.1, c0.2.1, c0.2.2])]
      · rw [if_neg c0, if_neg (fun z => c0 (key3_inj z))]
  refine ⟨fun s e g hs h1 => ?_, fun s e g q hs h1 => ?_, ?_⟩
  · rw [at_snoc] at h1
    rw [look]
    have nc : ¬ (p.e s = e ∧ p.h = g) := fun c => by rw [if_pos c] at h1; cases h1
    rw [if_neg nc] at h1
    rw [if_neg, if_neg]
    · exact h.no s e g hs h1
    · rintro ⟨rfl, rfl, rfl⟩
      exact nc ⟨rfl, rfl⟩
    · rintro ⟨rfl, rfl, rfl⟩
      exact nc ⟨rfl, rfl⟩
  · rw [at_snoc] at h1
    rw [look]
    match s, hs with
    | 0, _ =>
      rw [if_neg (by omega)]
      by_cases c : p.e 0 = e ∧ p.h = g
      · rw [if_pos c] at h1
        cases h1
        rw [if_pos ⟨rfl, c.1.symm, c.2.symm⟩]
        exact ⟨a, rfl, ha⟩
      · rw [if_neg c] at h1
        rw [if_neg (fun z => c ⟨z.2.1.symm, z.2.2.symm⟩)]
        exact h.so 0 e g q (by decide) h1
    | 1, _ =>
      by_cases c : p.e 1 = e ∧ p.h = g
      · rw [if_pos c] at h1
        cases h1
        rw [if_pos ⟨rfl, c.1.symm, c.2.symm⟩]
        exact ⟨b, rfl, hb⟩
      · rw [if_neg c] at h1
        rw [if_neg (fun z => c ⟨z.2.1.symm, z.2.2.symm⟩), if_neg (by omega)]
        exact h.so 1 e g q (by decide) h1
  · have := h.len
    have := length_putK (putK tk (key3 0 p.l p.h) (.ref a)) (key3 1 p.r p.h) (.ref b)
    have := length_putK tk (key3 0 p.l p.h) (.ref a)
    rw [List.length_append, List.length_singleton]
    omega
end
theorem take_one {α : Type} {l : List α} {i : Nat} {x : α} (h : l[i]? = some x) : l.take (i + 1) = l.take i ++ [x] := by
  rw [List.take_add_one, h]
  rfl
theorem small1000' {n : Nat} (h : n ≤ 2000) : n < sizeLine := Nat.lt_of_le_of_lt h (by decide)
theorem at_sd {r : List Int} {sd : Nat} (h : sd < r.length) : atI (r.map V.int) (sd : Int) = some (V.int (r.getD sd 0)) := by
  refine atI_nat ?_
  rw [List.getElem?_map, List.getD_eq_getElem?_getD, List.getElem?_eq_getElem h]
  rfl
theorem in_ints (z : Int) : ∀ l : List Int, inV (.int z) (l.map V.int) = decide (z ∈ l)
  | [] => rfl
  | y :: r => by
    have h := in_ints z r
    unfold inV at h ⊢
    rw [List.map_cons, List.any_cons, h, Bool.eq_iff_iff]
    simp only [Bool.or_eq_true, decide_eq_true_eq, List.mem_cons]
    have e : eqV (V.int y) (V.int z) = true ↔ z = y := by
      show (y == z) = true ↔ _
      rw [beq_iff_eq]
      exact eq_comm
    rw [e]
theorem flat_ints (l : List Int) : (l.map V.int).all flatV = true := by
  rw [List.all_map, List.all_eq_true]
  intro x _
  rfl

/-- a list of Nats, as values -/
abbrev vN (l : List Nat) : List V := l.map fun n : Nat => V.int (n : Int)
theorem vN_ints (l : List Nat) : vN l = (l.map fun n : Nat => (n : Int)).map V.int := by
  rw [List.map_map]
  rfl
theorem vN_get {l : List Nat} {i : Nat} {y : V} (h : (vN l)[i]? = some y) : ∃ n, l[i]? = some n ∧ y = .int (n : Int) := by
  rw [List.getElem?_map] at h
  obtain ⟨n, h1, h2⟩ := Option.map_eq_some_iff.mp h
  exact ⟨n, h1, h2.symm⟩
theorem in_vN (n : Nat) (l : List Nat) : inV (.int (n : Int)) (vN l) = decide (n ∈ l) := by
  rw [vN_ints, in_ints, Bool.eq_iff_iff, decide_eq_true_eq, decide_eq_true_eq]
  constructor
  · intro h
    obtain ⟨m, h1, h2⟩ := List.mem_map.mp h
    have : m = n := by omega
    rw [← this]
    exact h1
  · exact fun h => List.mem_map.mpr ⟨n, h, rfl⟩
theorem flat_vN (l : List Nat) : (vN l).all flatV = true := by
  rw [vN_ints]
  exact flat_ints _
end Own

set_option Elab.async false
set_option linter.all false
set_option maxRecDepth 100000
namespace Own
open PySem PySem.Spec PyProof.Rows L2
/-! isinstance of the caught error, whatever class it turns out to be of -/
def rIsEg (K : PySem.W.Frag) (cls : Value) (d : Option Addr) (a : Addr) : List V → Hp → VK → Prop := fun xs H Q => ∃ D, cls = .ref D ∧ d = none ∧ ExcC K D ∧ rIsE K D a xs H Q
theorem isEg (K : PySem.W.Frag) {X : Cx} {a : Addr} {cls : Value} {d : Option Addr} {oe : Obj} {pn : List (Addr × Obj)} (hz : Zc cls d oe) (hf : ∃ vs, oe.data = .fields vs) (h : X.K = K := by rfl) :
    CallR (X.suite a ((a, oe) :: pn)) (.builtin "isinstance") (rIsEg K cls d a) := by
  subst h
  intro pins s σ H xs us Q I r h
  obtain ⟨D, rfl, rfl, C, q⟩ := h
  exact call_isE C hz hf pins s σ H xs us Q I r q
/-! a tuple as the target of a comprehension -/
theorem pg_tupK (K : PySem.W.Frag) (n : Nat) {X : Cx} {es : List Expr} {k : Nat} {pos : Pos} {t : TGs} (hc : X.calm = true) (h : PGs X es t) (hK : X.K = K := by rfl)
    (hn : (assignEach es X.env).length = n := by rfl) (hst : (assignEach es X.env).findIdx? (·.1) = none := by rfl) : PG X (.Tuple es k pos) (gTup K n t) := by
  subst hK
  exact pg_tup hc h hn hst
end Own

set_option Elab.async false
set_option linter.all false
set_option maxRecDepth 100000
set_option maxHeartbeats 4000000
namespace My
open PySem PySem.Spec PyProof.Rows L2 Own
def topS (i : Nat) : Stmt := PySem.Challenge.pw_pairhues_k10_deeds_in_lines.main.body.getD i (.Pass ⟨0, 0, 0, 0⟩)
abbrev s_line_of : Stmt := topS 14
abbrev N_line_of : List Str := ["deed"]
theorem sc_line_of : FnScope N_line_of ["deed"] (defScope s_line_of) := ⟨rfl, rfl, rfl, by decide +kernel, rfl, by decide +kernel, by decide +kernel⟩
abbrev s_deed_of : Stmt := topS 15
abbrev N_deed_of : List Str := ["line", "word", "numbers", "text"]
theorem sc_deed_of : FnScope N_deed_of ["line"] (defScope s_deed_of) := ⟨rfl, rfl, rfl, by decide +kernel, rfl, by decide +kernel, by decide +kernel⟩
abbrev s_spaced : Stmt := topS 16
abbrev N_spaced : List Str := ["parts", "part"]
theorem sc_spaced : FnScope N_spaced ["parts"] (defScope s_spaced) := ⟨rfl, rfl, rfl, by decide +kernel, rfl, by decide +kernel, by decide +kernel⟩
abbrev s_many_behind : Stmt := topS 17
abbrev N_many_behind : List Str := ["word"]
theorem sc_many_behind : FnScope N_many_behind ["word"] (defScope s_many_behind) := ⟨rfl, rfl, rfl, by decide +kernel, rfl, by decide +kernel, by decide +kernel⟩
abbrev s_is_number : Stmt := topS 18
abbrev N_is_number : List Str := ["text", "sign"]
theorem sc_is_number : FnScope N_is_number ["text"] (defScope s_is_number) := ⟨rfl, rfl, rfl, by decide +kernel, rfl, by decide +kernel, by decide +kernel⟩
abbrev s_l_cell_at : Stmt := topS 20
abbrev N_l_cell_at : List Str := ["_law_script", "_law_k"]
theorem sc_l_cell_at : FnScope N_l_cell_at ["_law_script", "_law_k"] (defScope s_l_cell_at) := ⟨rfl, rfl, rfl, by decide +kernel, rfl, by decide +kernel, by decide +kernel⟩
abbrev s_l_mixed : Stmt := topS 21
abbrev N_l_mixed : List Str := ["_law_cell", "_law_k"]
theorem sc_l_mixed : FnScope N_l_mixed ["_law_cell", "_law_k"] (defScope s_l_mixed) := ⟨rfl, rfl, rfl, by decide +kernel, rfl, by decide +kernel, by decide +kernel⟩
abbrev s_l_whole : Stmt := topS 22
abbrev N_l_whole : List Str := ["_law_found"]
theorem sc_l_whole : FnScope N_l_whole ["_law_found"] (defScope s_l_whole) := ⟨rfl, rfl, rfl, by decide +kernel, rfl, by decide +kernel, by decide +kernel⟩
abbrev s_l_deed : Stmt := topS 23
abbrev N_l_deed : List Str := ["_law_script", "_law_some", "_law_k", "_law_cell"]
theorem sc_l_deed : FnScope N_l_deed ["_law_script"] (defScope s_l_deed) := ⟨rfl, rfl, rfl, by decide +kernel, rfl, by decide +kernel, by decide +kernel⟩
abbrev s_l_bent : Stmt := topS 24
abbrev N_l_bent : List Str := ["_law_text", "_law_cell", "_law_signs", "_law_at", "_law_sign", "_law_some"]
theorem sc_l_bent : FnScope N_l_bent ["_law_text", "_law_cell"] (defScope s_l_bent) := ⟨rfl, rfl, rfl, by decide +kernel, rfl, by decide +kernel, by decide +kernel⟩
abbrev s_l_number : Stmt := topS 25
abbrev N_l_number : List Str := ["_law_word", "_law_sign"]
theorem sc_l_number : FnScope N_l_number ["_law_word"] (defScope s_l_number) := ⟨rfl, rfl, rfl, by decide +kernel, rfl, by decide +kernel, by decide +kernel⟩
abbrev s_l_due : Stmt := topS 26
abbrev N_l_due : List Str := ["_law_text", "_law_words", "_law_numbers", "_law_word"]
theorem sc_l_due : FnScope N_l_due ["_law_text"] (defScope s_l_due) := ⟨rfl, rfl, rfl, by decide +kernel, rfl, by decide +kernel, by decide +kernel⟩
abbrev s_l_read : Stmt := topS 27
abbrev N_l_read : List Str := ["_law_line", "error", "_law_other"]
theorem sc_l_read : FnScope N_l_read ["_law_line"] (defScope s_l_read) := ⟨rfl, rfl, rfl, by decide +kernel, rfl, by decide +kernel, by decide +kernel⟩
abbrev s_l_right : Stmt := topS 28
abbrev N_l_right : List Str := ["_law_line", "_law_due_here", "_law_found", "_law_number_here"]
theorem sc_l_right : FnScope N_l_right ["_law_line", "_law_due_here"] (defScope s_l_right) := ⟨rfl, rfl, rfl, by decide +kernel, rfl, by decide +kernel, by decide +kernel⟩
abbrev s_law : Stmt := topS 29
abbrev N_law : List Str := ["_law_script", "_law_deed_here", "_law_text", "_law_number_here", "_law_found", "_law_odd", "_law_bent_here"]
theorem sc_law : FnScope N_law ["_law_script"] (defScope s_law) := ⟨rfl, rfl, rfl, by decide +kernel, rfl, by decide +kernel, by decide +kernel⟩
/-- a def, called by its name -/
structure Df (K : PySem.W.Frag) (mg : Str → Option Value) (x : Str) (st : Stmt) (ps : List Str) (f : Addr) (fd : FuncData) : Prop where
  F : Fun K x x st f fd
  g : mg x = some (.ref f)
  b : Binds K fd ps []
/-- a method -/
structure Dm (K : PySem.W.Frag) (C : Addr) (x qual : Str) (st : Stmt) (ps : List Str) (f : Addr) (fd : FuncData) : Prop where
  F : Fun K x qual st f fd
  m : Meth K C x f
  b : Binds K fd ps []
structure Txt (K : PySem.W.Frag) (mg : Str → Option Value) where
  E_PairError : Addr
  E_BadCount : Addr
  E_BadSide : Addr
  E_BadEnd : Addr
  E_TooMany : Addr
  E_NoPair : Addr
  E_BadHue : Addr
  E_NotFree : Addr
  E_BadLine : Addr
  f_line_of : Addr
  d_line_of : FuncData
  f_deed_of : Addr
  d_deed_of : FuncData
  f_spaced : Addr
  d_spaced : FuncData
  f_many_behind : Addr
  d_many_behind : FuncData
  f_is_number : Addr
  d_is_number : FuncData
  f_l_cell_at : Addr
  d_l_cell_at : FuncData
  f_l_mixed : Addr
  d_l_mixed : FuncData
  f_l_whole : Addr
  d_l_whole : FuncData
  f_l_deed : Addr
  d_l_deed : FuncData
  f_l_bent : Addr
  d_l_bent : FuncData
  f_l_number : Addr
  d_l_number : FuncData
  f_l_due : Addr
  d_l_due : FuncData
  f_l_read : Addr
  d_l_read : FuncData
  f_l_right : Addr
  d_l_right : FuncData
  f_law : Addr
  d_law : FuncData
  D_line_of : Df K mg "line_of" s_line_of ["deed"] f_line_of d_line_of
  D_deed_of : Df K mg "deed_of" s_deed_of ["line"] f_deed_of d_deed_of
  D_spaced : Df K mg "_spaced" s_spaced ["parts"] f_spaced d_spaced
  D_many_behind : Df K mg "_many_behind" s_many_behind ["word"] f_many_behind d_many_behind
  D_is_number : Df K mg "_is_number" s_is_number ["text"] f_is_number d_is_number
  D_l_cell_at : Df K mg "_law_cell_at" s_l_cell_at ["_law_script", "_law_k"] f_l_cell_at d_l_cell_at
  D_l_mixed : Df K mg "_law_mixed" s_l_mixed ["_law_cell", "_law_k"] f_l_mixed d_l_mixed
  D_l_whole : Df K mg "_law_whole" s_l_whole ["_law_found"] f_l_whole d_l_whole
  D_l_deed : Df K mg "_law_deed" s_l_deed ["_law_script"] f_l_deed d_l_deed
  D_l_bent : Df K mg "_law_bent" s_l_bent ["_law_text", "_law_cell"] f_l_bent d_l_bent
  D_l_number : Df K mg "_law_number" s_l_number ["_law_word"] f_l_number d_l_number
  D_l_due : Df K mg "_law_due" s_l_due ["_law_text"] f_l_due d_l_due
  D_l_read : Df K mg "_law_read" s_l_read ["_law_line"] f_l_read d_l_read
  D_l_right : Df K mg "_law_right" s_l_right ["_law_line", "_law_due_here"] f_l_right d_l_right
  D_law : Df K mg "law" s_law ["_law_script"] f_law d_law
  z_ValueError : mg "ValueError" = none
  z_all : mg "all" = none
  z_bool : mg "bool" = none
  z_int : mg "int" = none
  z_isinstance : mg "isinstance" = none
  z_len : mg "len" = none
  z_range : mg "range" = none
  z_str : mg "str" = none
  z_tuple : mg "tuple" = none
  z_type : mg "type" = none
  c_COME : ∃ t, mg "_COME" = some (.str "come" t)
  c_GO : ∃ t, mg "_GO" = some (.str "go" t)
  c_MOST_FIGURES : ∃ t, mg "_MOST_FIGURES" = some (.int 30 t)
  x_PairError : ExcO K mg "PairError" E_PairError
  x_BadCount : ExcO K mg "BadCount" E_BadCount
  x_BadSide : ExcO K mg "BadSide" E_BadSide
  x_BadEnd : ExcO K mg "BadEnd" E_BadEnd
  x_TooMany : ExcO K mg "TooMany" E_TooMany
  x_NoPair : ExcO K mg "NoPair" E_NoPair
  x_BadHue : ExcO K mg "BadHue" E_BadHue
  x_NotFree : ExcO K mg "NotFree" E_NotFree
  x_BadLine : ExcO K mg "BadLine" E_BadLine
  q_BadLine : ExcC K E_BadLine
  i_BadLine_BadCount : PySem.W.kitOne K (.ref E_BadLine) (.ref E_BadCount) = some false
  i_BadLine_BadEnd : PySem.W.kitOne K (.ref E_BadLine) (.ref E_BadEnd) = some false
  i_BadLine_BadHue : PySem.W.kitOne K (.ref E_BadLine) (.ref E_BadHue) = some false
  i_BadLine_BadSide : PySem.W.kitOne K (.ref E_BadLine) (.ref E_BadSide) = some false
  i_BadLine_NoPair : PySem.W.kitOne K (.ref E_BadLine) (.ref E_NoPair) = some false
  i_BadLine_NotFree : PySem.W.kitOne K (.ref E_BadLine) (.ref E_NotFree) = some false
  i_BadLine_TooMany : PySem.W.kitOne K (.ref E_BadLine) (.ref E_TooMany) = some false
  i_BadLine_BadLine : PySem.W.kitOne K (.ref E_BadLine) (.ref E_BadLine) = some true
  i_BadLine_ValueError : PySem.W.kitOne K (.ref E_BadLine) (.type "ValueError") = some true
  e_BadLine_PairError : PySem.W.exmOne K (.ref E_BadLine) (.ref E_PairError) = some true
end My

set_option Elab.async false
set_option linter.all false
set_option maxRecDepth 100000
namespace K08
open PySem PySem.Spec PyProof.Rows L2
/-- what the dict holds when the ends pre were met -/
structure Tally (kvs : List (Key × V)) (pre : List Int) : Prop where
  of : ∀ p ∈ kvs, ∃ k : Int, p = (Sum.inl k, V.int (pre.count k : Nat)) ∧ k ∈ pre
  all : ∀ k ∈ pre, ∃ p ∈ kvs, p.1 = Sum.inl k
  len : kvs.length ≤ pre.length
theorem Tally.nil : Tally [] [] := ⟨fun p h => absurd h (by simp), fun k h => absurd h (by simp), Nat.le_refl _⟩
theorem Tally.look {kvs : List (Key × V)} {pre : List Int} (t : Tally kvs pre) (k : Int) : (valV kvs (Sum.inl k)).getD (.int 0) = .int (pre.count k : Nat) := by
  unfold valV
  cases e : kvs.find? fun kv => decide (kv.1 = (Sum.inl k : Key)) with
  | none =>
    have n : k ∉ pre := fun h => by
      obtain ⟨p, hp, q⟩ := t.all k h
      have := List.find?_eq_none.mp e p hp
      rw [q] at this
      simp at this
    rw [List.count_eq_zero.mpr n]
    rfl
  | some p =>
    have h1 := List.mem_of_find?_eq_some e
    have h2 : p.1 = (Sum.inl k : Key) := by simpa using List.find?_some e
    obtain ⟨j, hj, _⟩ := t.of p h1
    rw [hj] at h2
    have ej : j = k := Sum.inl.inj h2
    rw [hj, ej]
    rfl
theorem Tally.put {kvs : List (Key × V)} {pre : List Int} (t : Tally kvs pre) (k : Int) : Tally (putK kvs (Sum.inl k) (.int ((pre.count k : Nat) + 1))) (pre ++ [k]) := by
  have ck : ((pre ++ [k]).count k : Nat) = pre.count k + 1 := by simp [List.count_append]
  have cj : ∀ j, j ≠ k → ((pre ++ [k]).count j : Nat) = pre.count j := fun j h => by
    rw [List.count_append, List.count_singleton]
    simp [Ne.symm h]
  refine ⟨fun p hp => ?_, fun j hj => ?_, ?_⟩
  · unfold putK at hp
    split at hp
    · obtain ⟨q, hq, e⟩ := List.mem_map.mp hp
      obtain ⟨j, hj, mj⟩ := t.of q hq
      by_cases z : q.1 = (Sum.inl k : Key)
      · rw [if_pos z] at e
        refine ⟨k, ?_, by simp⟩
        rw [← e, z, ck]
        rfl
      · rw [if_neg z] at e
        have nj : j ≠ k := fun y => z (by rw [hj, y])
        refine ⟨j, ?_, List.mem_append_left _ mj⟩
        rw [← e, hj, cj j nj]
    · rcases List.mem_append.mp hp with h | h
      · obtain ⟨j, hj, mj⟩ := t.of p h
        rename_i na
        have nj : j ≠ k := fun y => na (List.any_eq_true.mpr ⟨p, h, by rw [hj, y]; simp⟩)
        exact ⟨j, by rw [hj, cj j nj], List.mem_append_left _ mj⟩
      · refine ⟨k, ?_, by simp⟩
        rw [List.mem_singleton.mp h, ck]
        rfl
  · unfold putK
    split
    · rename_i ha
      rcases List.mem_append.mp hj with h | h
      · obtain ⟨p, hp, e⟩ := t.all j h
        refine ⟨if p.1 = (Sum.inl k : Key) then (p.1, V.int ((pre.count k : Nat) + 1)) else p, List.mem_map.mpr ⟨p, hp, rfl⟩, ?_⟩
        split <;> exact e
      · rw [List.mem_singleton.mp h]
        obtain ⟨p, hp, e⟩ := List.any_eq_true.mp ha
        have e' := of_decide_eq_true e
        exact ⟨_, List.mem_map.mpr ⟨p, hp, rfl⟩, by rw [if_pos e']; exact e'⟩
    · rcases List.mem_append.mp hj with h | h
      · obtain ⟨p, hp, e⟩ := t.all j h
        exact ⟨p, List.mem_append_left _ hp, e⟩
      · exact ⟨_, List.mem_append_right _ (List.mem_singleton.mpr rfl), by rw [List.mem_singleton.mp h]⟩
  · have := length_putK kvs (Sum.inl k) (.int ((pre.count k : Nat) + 1))
    have := t.len
    rw [List.length_append, List.length_singleton]
    omega
def vals (kvs : List (Key × V)) : List Int := kvs.map fun p => match p.2 with | .int z => z | _ => 0
theorem Tally.vals {kvs : List (Key × V)} {pre : List Int} (t : Tally kvs pre) : kvs.map (·.2) = (vals kvs).map V.int := by
  unfold K08.vals
  rw [List.map_map]
  refine List.map_congr_left fun p hp => ?_
  obtain ⟨k, hk, _⟩ := t.of p hp
  rw [hk]
  rfl
theorem Tally.most {kvs : List (Key × V)} {pre : List Int} (t : Tally kvs pre) {m : Int} (h : (K08.vals kvs = [] ∧ m = 0) ∨ (m ∈ K08.vals kvs ∧ ∀ j ∈ K08.vals kvs, j ≤ m)) : m = (K08.most pre : Nat) := by
  have back : ∀ k ∈ pre, ((pre.count k : Nat) : Int) ∈ K08.vals kvs := fun k hk => by
    obtain ⟨p, hp, e⟩ := t.all k hk
    obtain ⟨j, hj, _⟩ := t.of p hp
    have ej : j = k := by
      rw [hj] at e
      exact Sum.inl.inj e
    refine List.mem_map.mpr ⟨p, hp, ?_⟩
    rw [hj, ej]
  refine most_is (fun e => ?_) fun ne => ?_
  · rcases h with ⟨_, h⟩ | ⟨h, _⟩
    · exact h
    · exfalso
      have : kvs = [] := List.length_eq_zero_iff.mp (by have := t.len; rw [e] at this; simpa using this)
      rw [this] at h
      cases h
  · rcases h with ⟨h, _⟩ | ⟨h, g⟩
    · exfalso
      cases pre with
      | nil => exact ne rfl
      | cons k r =>
        have := back k List.mem_cons_self
        rw [h] at this
        cases this
    · refine ⟨?_, fun e he => g _ (back e he)⟩
      obtain ⟨p, hp, e⟩ := List.mem_map.mp h
      obtain ⟨k, hk, mk⟩ := t.of p hp
      rw [hk] at e
      exact ⟨k, mk, e.symm⟩
end K08

set_option Elab.async false
set_option linter.all false
set_option maxRecDepth 100000
set_option maxHeartbeats 4000000
namespace My
open PySem PySem.Spec PyProof.Rows L2 Own Mt
theorem vN_snoc (l : List Nat) (x : Nat) : vN (l ++ [x]) = vN l ++ [V.int (x : Nat)] := by
  unfold vN
  rw [List.map_append]
  rfl
section
variable {P : Program} {w : World} {K : PySem.W.Frag} {mg : Str → Option Value} {base : Heap} {W : Tbs}
/-! what the law reads from its draw -/
def spDraw (K : PySem.W.Frag) : Sp := fun vs H Q _ => ∃ (a : Addr) (ns : List Int) (k : Nat), vs = [.ref a, .int (k : Nat)] ∧ SqL K H a (ns.map V.int) ∧ Q (.int (ns.getD k 0)) H
theorem ok_l_cell_at (T : Txt K mg) : FnOk P w K mg base CX0 1 T.f_l_cell_at T.d_l_cell_at ["_law_script", "_law_k"] (spDraw K) := by
  refine T.D_l_cell_at.F.ok sc_l_cell_at (fun vs H Q E h => ?_) (fun cdv A outer s H vs Q E hr h => ?_)
  · obtain ⟨a, ns, k, rfl, _⟩ := h
    rfl
  · obtain ⟨a, ns, k, rfl, hS, q⟩ := h
    refine ⟨_, (pss_cons (ps_if (pt_cmpR op_lt (pv 1) (pe_callB (lenQ K) (by rfl) T.z_len PySem.boot_len (pa_cons (pv 0) pa_nil)) (nomark _)) 
      (pss_one (ps_ret (pe_ix (ixL K) (pv 0) (pv 1) (fun _ _ => rfl)))) pss_nil)
    (pss_one (ps_ret pe_int))), ?_⟩
    refine ⟨_, rfl, _, rfl, a, _, rfl, .inl hS, _, _, rfl, rfl, _, rfl, ite2 (fun h => ?_) (fun h => ?_)⟩
    · have lt : k < ns.length := by
        have := of_decide_eq_true h
        rw [List.length_map] at this
        omega
      refine ⟨_, rfl, _, rfl, a, _, _, _, rfl, rfl, hS, atI_nat (j := k) (by rw [List.getElem?_map, List.getElem?_eq_getElem lt]; rfl), ?_⟩
      rw [List.getD_eq_getElem?_getD, List.getElem?_eq_getElem lt] at q
      exact q
    · have ge : ns.length ≤ k := by
        by_cases lt : k < ns.length
        · exact absurd (decide_eq_true (by rw [List.length_map]; omega)) h
        · omega
      rw [List.getD_eq_getElem?_getD, List.getElem?_eq_none ge] at q
      exact q
def mixI (c k : Int) : Int := (c * 48271 + 7919 * k * k + 31 * k) % 2147483647 / 7
theorem mixI_nn (c k : Int) : 0 ≤ mixI c k := by
  unfold mixI
  have := Int.emod_nonneg (c * 48271 + 7919 * k * k + 31 * k) (show (2147483647 : Int) ≠ 0 by decide)
  omega
def spMix : Sp := fun vs H Q _ => ∃ (c k : Int), vs = [.int c, .int k] ∧ 0 ≤ k ∧ k ≤ 1000 ∧ Q (.int (mixI c k)) H
theorem ok_l_mixed (T : Txt K mg) : FnOk P w K mg base CX0 1 T.f_l_mixed T.d_l_mixed ["_law_cell", "_law_k"] spMix := by
  refine T.D_l_mixed.F.ok sc_l_mixed (fun vs H Q E h => ?_) (fun cdv A outer s H vs Q E hr h => ?_)
  · obtain ⟨c, k, rfl, _⟩ := h
    rfl
  · obtain ⟨c, k, rfl, h0, h1, q⟩ := h
    refine ⟨_, (pss_one (ps_ret (pe_op op_fdiv (pe_op op_mod (pe_op op_add (pe_op op_add (pe_op op_mul (pv 0) pe_int) (pe_op op_mul (pe_op op_mul pe_int (pv 1)) (pv 1))) (pe_op op_mul pe_int (pv 1))) pe_int) pe_int))), ?_⟩
    refine ⟨_, rfl, _, _, rfl, rfl, .inr ⟨by decide, by decide⟩, ?_⟩
    refine ⟨_, rfl, _, _, rfl, rfl, .inl ⟨by decide, by decide⟩, ?_⟩
    refine ⟨_, rfl, _, _, rfl, rfl, .inr ⟨by omega, by omega⟩, ?_⟩
    refine ⟨_, _, rfl, rfl, ?_⟩
    refine ⟨_, rfl, _, _, rfl, rfl, .inl ⟨by decide, by decide⟩, ?_⟩
    refine ⟨_, _, rfl, rfl, ?_⟩
    refine ⟨_, _, rfl, rfl, (by show (0 : Int) < 2147483647; decide), ?_⟩
    refine ⟨_, _, rfl, rfl, ⟨by decide, by decide⟩, ?_⟩
    exact q
end
end My

set_option Elab.async false
set_option linter.all false
set_option maxRecDepth 100000
set_option maxHeartbeats 4000000
namespace My
open PySem PySem.Spec PyProof.Rows L2 Own Mt
section
variable {P : Program} {w : World} {K : PySem.W.Frag} {mg : Str → Option Value} {base : Heap} {W : Tbs}
def spLWhole (K : PySem.W.Frag) : Sp := fun vs H Q _ => ∃ v : V, vs = [v] ∧ ((∃ i : Int, v = .int i ∧ Q (.bl true) H) ∨ (v = .non ∧ Q (.bl false) H))
theorem ok_l_whole (T : Txt K mg) : FnOk P w K mg base CX0 1 T.f_l_whole T.d_l_whole ["_law_found"] (spLWhole K) := by
  refine T.D_l_whole.F.ok sc_l_whole (fun vs H Q E h => ?_) (fun cdv A outer s H vs Q E hr h => ?_)
  · obtain ⟨v, rfl, _⟩ := h
    rfl
  · obtain ⟨v, rfl, h⟩ := h
    refine ⟨_, (pss_one (ps_ret (pe_and (pe_callB (isiO K) (by rfl) T.z_isinstance (by decide +kernel) (pa_cons (pv 0) (pa_cons (pe_bltn (v := .ty "int") (by rfl) T.z_int (by decide +kernel) rfl) pa_nil))) (pe_one (pe_not (pe_callB (isiO K) (by rfl) T.z_isinstance (by decide +kernel) (pa_cons (pv 0) (pa_cons (pe_bltn (v := .ty "bool") (by rfl) T.z_bool (by decide +kernel) rfl) pa_nil)))))))), ?_⟩
    rcases h with ⟨i, rfl, q⟩ | ⟨rfl, q⟩
    · refine ⟨_, rfl, _, _, _, _, true, rfl, ClsV.ty _, .base (.int i), kit_ty (by decide +kernel), ⟨_, rfl, iteT ?_⟩⟩
      refine ⟨_, rfl, _, _, _, _, false, rfl, ClsV.ty _, .base (.int i), kit_ty (by decide +kernel), ⟨_, rfl, ?_⟩⟩
      exact q
    · refine ⟨_, rfl, _, _, _, _, false, rfl, ClsV.ty _, .base .non, kit_ty (by decide +kernel), ⟨_, rfl, iteF ?_⟩⟩
      exact q
end
end My

set_option Elab.async false
set_option linter.all false
set_option maxRecDepth 100000
set_option maxHeartbeats 1000000
namespace Own
open PySem PySem.Spec PyProof.Rows L2
/-! a list unpacked: x, *rest = xs -/
/-- a list's iterator, walked on from its place k -/
theorem walks_from {prog : Program} {w : World} {A : Around} (hh : A.handled = none) (I ax : Addr) (hne : ax ≠ I) (items : Array Value) (k : Nat) (hk : k ≤ items.size) :
    Walks prog w A I [I, ax] [I] (items.size - k) (fun i v => items[k + i]? = some v) (fun i h => h.IsListIter I ax (k + i) ∧ h.IsList ax items) where
  sub := fun b hb => by simp at hb; simp [hb]
  frame := fun _ _ _ st hk => ⟨st.1.at fun o e => hk I (by simp) o e, st.2.at fun o e => hk ax (by simp) o e⟩
  item := fun i s Q E hi st hQ => by
    have lt : k + i < items.size := by omega
    refine wpAny_pyNext_list_item st.1 st.2 (x := items[k + i]) (by simp [lt]) fun h' hit' hs' => ?_
    exact hQ _ h' s.toks (by simp [lt]) ⟨hit', st.2.extBut hs'.extBut hne⟩ fun b o hb e => hs'.extBut b o (fun h => hb (by simp [h])) e
  done := fun s Q E st hQ => wpAny_pyNext_list_end hh st.1 st.2 (by simp; omega) fun h' he' => hQ h' s.toks fun b o hb e => he' b o (fun h => hb (by simp [h])) e
  self := fun _ _ _ _ st hQ => wpAny_pyIter_listiter st.1 hQ
section
variable {prog : Program} {w : World} {A : Around} {E : Value → Shared → Prop} {s : Shared}
theorem items_from {items : Array Value} {k : Nat} {acc : Array Value} (hk : k ≤ items.size) (h : ItemsOf (fun i v => items[k + i]? = some v) acc (items.size - k)) : acc.toList = items.toList.drop k := by
  obtain ⟨h1, h2⟩ := h
  refine List.ext_getElem? fun i => ?_
  rw [List.getElem?_drop, Array.getElem?_toList, Array.getElem?_toList]
  by_cases c : i < acc.size
  · have e := Array.getElem?_eq_getElem c
    rw [e, h2 i _ e]
  · rw [Array.getElem?_eq_none (by omega), Array.getElem?_eq_none (by omega)]
theorem unpack_star {t : Addr} {items : Array Value} {x : Value} {Q : List Value → Shared → Prop} (hh : A.handled = none) (ht : s.heap.IsList t items) (hx : items[0]? = some x) (hz : items.size ≤ sizeLine)
    (hQ : ∀ h' (r : Addr) tk, s.heap.get? r = none → (∀ b o, s.heap.get? b = some o → h'.get? b = some o) → h'.get? r = some { cls := .type "list", data := .seq (items.toList.drop 1).toArray } → Q [x, .ref r] { s with heap := h', toks := tk }) :
    wpAny (model prog w) A (unpackItems (.ref t) 2 (some 1)) Q E s := by
  have hlt : t ≠ s.heap.objs.size := by obtain ⟨o, ho, _⟩ := ht; exact Nat.ne_of_lt (Heap.lt_size ho)
  have lz : 1 ≤ items.size := by
    have := (Array.getElem?_eq_some_iff.mp hx).1
    omega
  unfold unpackItems
  refine wpAny_bind ?_
  unfold notIterableAtAll
  refine wpAny_bind (wpAny_specialOf ht.typeIs F.slot_list_iter.lookup ?_)
  refine wpAny_pure ?_
  simp only [Bool.false_eq_true, if_false]
  refine wpAny_bind (wpAny_holding (wpAny_pyIter_list ht ?_))
  have hit0 : (s.heap.push { cls := .type "list_iterator", data := .fields #[.ref t, .int 0 0] }).IsListIter s.heap.objs.size t 0 := ⟨_, Heap.get?_push_size _ rfl, rfl, rfl⟩
  have ht0 := ht.push { cls := .type "list_iterator", data := .fields #[.ref t, .int 0 0] }
  refine wpAny_bind (wpAny_holding ?_)
  show wpAny _ _ (pyNext (.ref s.heap.objs.size) >>= _) _ _ _
  refine wpAny_bind (wpAny_pyNext_list_item hit0 ht0 hx fun h1 hit1 hs1 => ?_)
  show wpAny _ _ (holding [x] (draw (.ref s.heap.objs.size) 0) >>= _) _ _ _
  refine wpAny_bind (wpAny_holding (wpAny_pure (wpAny_pure ?_)))
  have ht1 : h1.IsList t items := ht0.extBut hs1.extBut hlt
  have z1 : h1.objs.size = s.heap.objs.size + 1 := by rw [hs1.1, Heap.size_push]
  show wpAny _ _ (holding [x] (collect (.ref s.heap.objs.size)) >>= _) _ _ _
  refine wpAny_bind (wpAny_holding ?_)
  have W := (walks_from (prog := prog) (w := w) (A := A.in1) (by simp [hh]) s.heap.objs.size t hlt items 1 lz).toS
  refine wpAny_collect_iter (T := "list_iterator") (.inr (.inr (.inl rfl))) W (fun i s' st => ?_) ⟨hit1, ht1⟩ ?_ (by simp) (fun s' acc hm hacc => ?_) (by omega)
  · obtain ⟨o, e, c, _⟩ := st.1
    exact ⟨o, e, c⟩
  · intro b hb
    simp only [List.mem_cons, List.mem_singleton, List.not_mem_nil, or_false] at hb
    show b < h1.objs.size
    rw [z1]
    rcases hb with rfl | rfl
    · exact Nat.lt_succ_self _
    · obtain ⟨o, ho, _⟩ := ht
      exact Nat.lt_succ_of_lt (Heap.lt_size ho)
  · have ea := items_from lz hacc
    rw [ea]
    obtain ⟨h', g', d', tk', os'⟩ := s'
    obtain rfl : g' = s.gens := hm.gens
    obtain rfl : d' = s.drawn := hm.drawn
    obtain rfl : os' = s.os := hm.os
    have keep : ∀ b o, s.heap.get? b = some o → h'.get? b = some o := fun b o e => by
      have lt := Heap.lt_size e
      have nb : b ≠ s.heap.objs.size := Nat.ne_of_lt lt
      exact hm.heap b o (by simpa using nb) (hs1.extBut b o nb (Heap.get?_push_of_some _ e))
    show wpAny _ _ (newList ((items.toList.drop 1).take ((items.toList.drop 1).length - 0)) >>= _) _ _ _
    rw [Nat.sub_zero, List.take_length]
    refine wpAny_bind (wpAny_newList ?_ (by rw [List.length_drop, Array.length_toList]; omega))
    have ed : (items.toList.drop 1).drop (items.toList.drop 1).length = [] := List.drop_length
    rw [ed]
    refine wpAny_pure (hQ _ h'.objs.size tk' ?_ (fun b o e => Heap.get?_push_of_some _ (keep b o e)) (Heap.get?_push_size _ rfl))
    cases e : s.heap.get? h'.objs.size with
    | none => rfl
    | some o => exact absurd (Heap.lt_size (keep _ _ e)) (Nat.lt_irrefl _)
end
/-- x, *rest = a list that is not empty -/
def gStar (K : PySem.W.Frag) (g1 g2 : TG) : TG := fun v σ H Q => ∃ (a : Addr) (y : V) (ys : List V), v = .ref a ∧ SqL K H a (y :: ys) ∧ ∀ r, H r = none → g1 y σ (upd H r (.lst ys)) fun σ1 H1 => g2 (.ref r) σ1 H1 Q
theorem pg_star (K : PySem.W.Frag) {X : Cx} {e1 e2 : Expr} {p pos : Pos} {k : Nat} {g1 g2 : TG} (hc : X.calm = true) (h1 : PG X e1 g1) (h2 : PG X e2 g2) (hK : X.K = K := by rfl)
    (ha : assignEach [e1, .Starred e2 p] X.env = [(false, assign e1 X.env), (true, assign e2 X.env)] := by rfl) : PG X (.Tuple [e1, .Starred e2 p] k pos) (gStar K g1 g2) := by
  subst hK
  refine ⟨fun pins s σ H v u Q I r hw => ?_⟩
  obtain ⟨a, y, ys, rfl, hq, hw⟩ := hw
  cases r
  obtain ⟨its, rv, pl, hz⟩ := I.list hq
  cases rv with
  | @cons _ u _ us ry rys =>
    rw [assign_Tuple]
    refine wpAny_bind (wpAny_standAt ?_)
    unfold unpack
    rw [ha]
    have lz : us.length = ys.length := rys.length.symm
    refine wpAny_bind (wpAny_holding (unpack_star (x := u) (I.ok.hd hc) pl.isList rfl ?_ fun h' r tk hr hk ho => ?_))
    · rw [List.size_toArray, List.length_cons, lz]
      exact hz
    · have hn : H r = none := I.hok.gone hr
      have new : ObjOk X.prog X.w (upd H r (.lst ys)) h' r (.lst ys) := ⟨by rw [List.length_cons] at hz; omega, us, _, rys, ho⟩
      have J : Inv X pins σ (upd H r (.lst ys)) { s with heap := h', toks := tk } := I.laidN (t' := tk) hk hr hn new
      refine assignInOrder_cons (thn (h1.run pins _ σ _ y u _ J ry (hw r hn)) fun _ s1 ⟨σ1, H1, I1, q1⟩ => ?_)
      exact assignInOrder_cons (thn (h2.run pins s1 σ1 H1 (.ref r) (.ref r) Q I1 rfl q1) fun _ s2 ⟨σ2, H2, I2, q2⟩ => assignInOrder_nil ⟨σ2, H2, I2, q2⟩)
end Own

set_option Elab.async false
set_option linter.all false
set_option maxRecDepth 100000
set_option maxHeartbeats 2000000
namespace Own
open PySem PySem.Spec PyProof.Rows L2 StX
open Sem (wp)
/-! type(x) != T -/
theorem slot_tyNe : Slot "type" (cmpInfo .NotEq).2.1 "object.__ne__" :=
  .of (owner := "object") (n := "__ne__") (by rw [typeLookup_type, builtinLookup_eq_fast]; kernel_rfl) (by decide +kernel) (by decide +kernel) (by decide +kernel)
    (by first | exact .inl (by decide +kernel) | exact .inr (by decide +kernel)) (by rw [isSubtype_type]; kernel_rfl)
theorem slot_tyNeR : Slot "type" (cmpInfo .NotEq).2.2 "object.__ne__" :=
  .of (owner := "object") (n := "__ne__") (by rw [typeLookup_type, builtinLookup_eq_fast]; kernel_rfl) (by decide +kernel) (by decide +kernel) (by decide +kernel)
    (by first | exact .inl (by decide +kernel) | exact .inr (by decide +kernel)) (by rw [isSubtype_type]; kernel_rfl)
theorem slot_tyEq : Slot "type" "__eq__" "object.__eq__" := PySem.TypeEq.slot_type_eq
section
variable {prog : Program} {w : World} {A : Around} {E : Value → Shared → Prop} {s : Shared}
theorem tyNe_same {X : String} (hX : ∀ s' : Shared, s'.TypeIs (.type X) "type") {Q : Fin → Shared → Prop} (hq : Q (.done (.ret (.bool false))) s) :
    wpAny (model prog w) A (Builtin.«object.__ne__» ⟨[.type X, .type X], []⟩) Q E s := by
  have hc : wpAny (model prog w) A (call (.builtin "object.__eq__") [.type X, .type X]) (fun v s' => v = .bool true ∧ s' = s) E s :=
    call_gives slot_tyEq (hX s) F.entry_object_eq (F.args_object_eq_2 _ _) (PySem.TypeEq.object_eq_same rfl (by simp)) ⟨rfl, rfl⟩
  unfold Builtin.«object.__ne__»
  repeat (first
    | (refine wpAny_bind (m := callSpecialIfBound? (.type X) (Str.ofString "__eq__") [.type X]) (wpAny_callSpecialIfBound?_slot (hX s) slot_tyEq (wpAny_mono hc (fun r s' hr => by
        obtain ⟨rfl, rfl⟩ := hr
        repeat (first | exact hq | exact wpAny_pure hq | exact wpAny_truthy_bool hq | (refine wpAny_bind (m := truthy (.bool _)) (wpAny_truthy_bool ?_)) | wp_step)) fun _ _ e => e)))
    | wp_step)
theorem tyNe_other {X Y : String} (hX : ∀ s' : Shared, s'.TypeIs (.type X) "type") (hne : (Value.type X == Value.type Y) = false) {Q : Fin → Shared → Prop} (hq : Q (.done (.ret .notImplemented)) s) :
    wpAny (model prog w) A (Builtin.«object.__ne__» ⟨[.type X, .type Y], []⟩) Q E s := by
  have hc : wpAny (model prog w) A (call (.builtin "object.__eq__") [.type X, .type Y]) (fun v s' => v = .notImplemented ∧ s' = s) E s :=
    call_gives slot_tyEq (hX s) F.entry_object_eq (F.args_object_eq_2 _ _) (PySem.TypeEq.object_eq_other rfl hne) ⟨rfl, rfl⟩
  unfold Builtin.«object.__ne__»
  repeat (first
    | (refine wpAny_bind (m := callSpecialIfBound? (.type X) (Str.ofString "__eq__") [.type Y]) (wpAny_callSpecialIfBound?_slot (hX s) slot_tyEq (wpAny_mono hc (fun r s' hr => by
        obtain ⟨rfl, rfl⟩ := hr
        repeat (first | exact hq | exact wpAny_pure hq | wp_step)) fun _ _ e => e)))
    | wp_step)
theorem call_tyNe {X Y : String} (hX : ∀ s' : Shared, s'.TypeIs (.type X) "type") {Q : Value → Shared → Prop}
    (h : wpAny (model prog w) A.in1 (Builtin.«object.__ne__» ⟨[.type X, .type Y], []⟩) (fun f s' => ∃ v, f = .done (.ret v) ∧ Q v s') E s) :
    wpAny (model prog w) A (call (.builtin "object.__ne__") [.type X, .type Y]) Q E s := by
  refine wpAny_call (codeAny_call_builtin slot_tyNe.plain F.cmpEntry_ne (slot_tyNe.check _ _ _ _ _ _ _ _ (hX s) (F.cmpArgs_ne _ _) ?_))
  refine wpAny_mono h (fun f s' hf => ?_) fun _ _ e => e
  obtain ⟨v, rfl, q⟩ := hf
  exact q
theorem ne_decline {a b : Value} {T id : String} {k : Bool} {Q : Value → Shared → Prop} (ha : ∀ s' : Shared, s'.TypeIs a T) (hb : ∀ s' : Shared, s'.TypeIs b T)
    (h1 : Slot T (cmpInfo .NotEq).2.1 id) (h2 : Slot T (cmpInfo .NotEq).2.2 id) (hv : [a, b].any Value.onHeap = false) (hk : isSame a b = pure k)
    (hc : wpAny (model prog w) A (call (.builtin id) [a, b]) (fun v s₁ => v = .notImplemented ∧ wpAny (model prog w) A (call (.builtin id) [b, a]) (fun v s₂ => v = .notImplemented ∧ Q (.bool (!k)) s₂) E s₁) E s) :
    wpAny (model prog w) A (richCompare .NotEq a b) Q E s := by
  rcases hi : cmpInfo CmpOp.NotEq with ⟨sym, f, r⟩
  rw [hi] at h1 h2
  simp only [richCompare, hi, (ha s).oneThing_none]
  try with_reducible refine wpAny_holding ?_
  refine wpAny_bind (wpAny_cRoomFor_or (.inl hv) ?_)
  refine wpAny_bind (wpAny_typeOf (ha s) (wpAny_bind (wpAny_typeOf (hb s) ?_)))
  simp only [bne_self_eq_false, Bool.false_eq_true, if_false, pure_bind, Bool.not_false, if_true]
  refine wpAny_bind (m := tryCompare a _ b) (wpAny_tryCompare_declines (ha s) h1 (wpAny_mono hc (fun v s₁ h₁ => ⟨h₁.1, ?_⟩) fun _ _ x => x))
  refine wpAny_bind (m := tryCompare b _ a) (wpAny_tryCompare_declines (hb s₁) h2 (wpAny_mono h₁.2 (fun v s₂ h₂ => ⟨h₂.1, ?_⟩) fun _ _ x => x))
  refine wpAny_bind (wpAny_rule (wpAny_bind (wpAny_of_eq hk (wpAny_pure h₂.2))))
end
section
variable {X : Cx}
theorem op_neTy : OpR X (compareOp .NotEq) rNeTy := by
  intro pins s σ H x y v u Q I rx ry h
  obtain ⟨a, b, rfl, rfl, ha, hb, q⟩ := h
  cases (show v = Value.type a from rx)
  cases (show u = Value.type b from ry)
  by_cases e : a = b
  · subst e
    rw [decide_eq_true rfl] at q
    show wpAny _ _ (richCompare .NotEq _ _) _ _ _
    exact wpAny_richCompare_same (T := "type") (ty_meta ha s) (ty_meta ha s) slot_tyNe (call_tyNe (ty_meta ha) (tyNe_same (ty_meta ha) ⟨_, rfl, (fun e => by cases e), .bl false, H, I, rfl, q⟩))
  · rw [decide_eq_false e] at q
    have hne : (Value.type a == Value.type b) = false := by rw [beq_eq_false_iff_ne]; intro z; injection z with z; exact e z
    have hne' : (Value.type b == Value.type a) = false := by rw [beq_eq_false_iff_ne]; intro z; injection z with z; exact e z.symm
    show wpAny _ _ (richCompare .NotEq _ _) _ _ _
    exact ne_decline (T := "type") (k := false) (ty_meta ha) (ty_meta hb) slot_tyNe slot_tyNeR rfl (by rw [isSame_plain rfl, hne])
      (call_tyNe (ty_meta ha) (tyNe_other (ty_meta ha) hne ⟨_, rfl, rfl, call_tyNe (ty_meta hb) (tyNe_other (ty_meta hb) hne' ⟨_, rfl, rfl, .bl true, H, I, rfl, q⟩)⟩))
end
end Own

set_option Elab.async false
set_option linter.all false
set_option maxRecDepth 100000
set_option maxHeartbeats 1000000
namespace Own
open PySem PySem.Spec PyProof.Rows L2
/-! isinstance of the caught error and a tuple of classes -/
def rIsEgT (K : PySem.W.Frag) (cls : Value) (d : Option Addr) (a : Addr) : List V → Hp → VK → Prop := fun xs H Q => ∃ (D tp : Addr) (cs : List V) (us : List Value) (b : Bool), cls = .ref D ∧ d = none ∧ ExcC K D ∧ xs = [.ref a, .ref tp] ∧
  H tp = some (.tup cs) ∧ Paired ClsV cs us ∧ PySem.W.kitAny K (.ref D) us = some b ∧ Q (.bl b) H
theorem isEgT (K : PySem.W.Frag) {X : Cx} {a : Addr} {cls : Value} {d : Option Addr} {oe : Obj} {pn : List (Addr × Obj)} (hz : Zc cls d oe) (hf : ∃ vs, oe.data = .fields vs) (h : X.K = K := by rfl) :
    CallR (X.suite a ((a, oe) :: pn)) (.builtin "isinstance") (rIsEgT K cls d a) := by
  subst h
  intro pins s σ H xs us Q I r h
  obtain ⟨D, tp, cs, ws, b, rfl, rfl, C, rfl, hT, k, e, q⟩ := h
  obtain ⟨u1, u2, rfl, r1, r2⟩ := vals2 r
  cases (show u1 = Value.ref a from r1)
  cases (show u2 = Value.ref tp from r2)
  obtain ⟨hget, _⟩ := I.pin (a, oe) (List.mem_append.mpr (.inl List.mem_cons_self))
  obtain ⟨vs, hv⟩ := hf
  have J : PySem.W.InstAt s.heap a oe D none := by
    obtain ⟨oc, od, oda, osl⟩ := oe
    obtain ⟨h1, h2⟩ := hz
    dsimp only at h1 h2 hv
    subst h1 h2 hv
    exact ⟨hget, rfl, rfl, trivial⟩
  obtain ⟨_, its, rv, o, h1, h2, n, h3⟩ := (show ObjOk X.prog X.w H s.heap tp (.tup cs) from I.hok tp _ hT)
  have e3 := ClsV.all k rv
  subst e3
  obtain ⟨oc, od, dt, sl⟩ := o
  simp only at h2 h3
  subst h2 h3
  exact PySem.W.kia_tup (PySem.W.handS_kitx_exc C.hg C.hk C.hs C.hd C.ha C.hn C.ht C.hm) I.kIn J h1 e (fun z => nomatch z) fun tk => ⟨.bl b, H, I.tok tk, rfl, q⟩
/-- str(x), x an int or a text -/
theorem strV {X : Cx} : CallR X (.type "str") (fun xs H Q => (∃ i, xs = [.int i] ∧ i.natAbs.log2 < 1920 ∧ Q (.str (toString i)) H) ∨ ∃ a, xs = [.str a] ∧ Q (.str a) H) := by
  intro pins s σ H xs us Q I r h
  rcases h with h | h
  · exact call_str_int pins s σ H xs us Q I r h
  · exact SkE.call_str_str pins s σ H xs us Q I r h
def rJoin (K : PySem.W.Frag) : V → List V → Hp → VK → Prop := fun x xs H Q => ∃ a p, ∃ ys : List Str, x = .str a ∧ xs = [.ref p] ∧ (SqL K H p (ys.map V.str) ∨ SqT K H p (ys.map V.str)) ∧
  (ys.map (·.length)).sum + ys.length * a.length ≤ 16777216 ∧ Q (.str (Txt.join a ys)) H
theorem joinK (K : PySem.W.Frag) {X : Cx} {e : Expr} {to te : TE} (p : PE X e (tM1 (rJoin X.K) to te)) (h : X.K = K := by rfl) : PE X e (tM1 (rJoin K) to te) := by
  subst h
  exact p
def rTupOf (K : PySem.W.Frag) : List V → Hp → VK → Prop := fun xs H Q => ∃ p ys, xs = [.ref p] ∧ ((SqL K H p ys ∧ ∀ l, H l = none → Q (.ref l) (upd H l (.tup ys))) ∨ (SqT K H p ys ∧ Q (.ref p) H))
theorem tupOf (K : PySem.W.Frag) {X : Cx} (h : X.K = K := by rfl) : CallR X (.type "tuple") (rTupOf K) := by
  subst h
  exact call_tuple_of
/-! numbers as texts -/
open TL
def dig (c : Nat) : Bool := decide (48 ≤ c) && decide (c ≤ 57)
theorem digits_tl : tl (Str.ofString "0123456789") = [48, 49, 50, 51, 52, 53, 54, 55, 56, 57] := by
  rw [tl_ofString]
  rfl
theorem in_digits (c : Nat) : decide (c ∈ (Str.ofString "0123456789").cps.toList) = dig c := by
  rw [show (Str.ofString "0123456789").cps.toList = [48, 49, 50, 51, 52, 53, 54, 55, 56, 57] from digits_tl]
  unfold dig
  rw [Bool.eq_iff_iff, decide_eq_true_eq, Bool.and_eq_true, decide_eq_true_eq, decide_eq_true_eq]
  simp only [List.mem_cons, List.not_mem_nil, or_false]
  omega
def z0 : Str := Str.ofString "0"
theorem z0_is : z0 = ⟨#[48]⟩ := ext_tl (by
  show tl (Str.ofString "0") = [48]
  rw [tl_ofString]
  rfl)
theorem starts0 (x : Str) : Txt.startswith x z0 = decide ((tl x)[0]? = some 48) := by
  have h := StrLaws.subAt_one x 48 0
  rw [← z0_is] at h
  unfold Txt.startswith
  rw [Bool.eq_iff_iff, Bool.and_eq_true, decide_eq_true_eq, decide_eq_true_eq]
  exact h
/-- a number as the notation has it -/
def okN (x : Str) : Bool := decide (1 ≤ x.length) && decide (x.length ≤ 30) && !(Txt.startswith x z0 && !decide (x = z0)) && (tl x).all dig
def numV (x : Str) : Int := (intText? x).getD 0
theorem dig_all {l : List Nat} (h : l.all dig = true) : NumText.AllDigits l := fun c hc => by
  have := List.all_eq_true.mp h c hc
  unfold dig at this
  rw [Bool.and_eq_true, decide_eq_true_eq, decide_eq_true_eq] at this
  exact this
theorem all_dig {l : List Nat} (h : NumText.AllDigits l) : l.all dig = true := List.all_eq_true.mpr fun c hc => by
  have := h c hc
  unfold dig
  rw [Bool.and_eq_true, decide_eq_true_eq, decide_eq_true_eq]
  exact this
theorem digs_num {x : Str} (h0 : 1 ≤ x.length) (h1 : x.length ≤ 30) (h : (tl x).all dig = true) : intText? x = some (numV x) := by
  have e := intText_digits (x := x) (dig_all h) (by
    intro z
    rw [len_tl] at h0
    rw [show tl x = [] from z] at h0
    exact absurd h0 (by decide)) (by omega)
  unfold numV
  rw [e]
  rfl
theorem okN_num {x : Str} (h : okN x = true) : intText? x = some (numV x) ∧ x.length ≤ 30 := by
  unfold okN at h
  rw [Bool.and_eq_true, Bool.and_eq_true, Bool.and_eq_true, decide_eq_true_eq, decide_eq_true_eq] at h
  exact ⟨digs_num h.1.1.1 h.1.1.2 h.2, h.1.1.2⟩
def num (n : Nat) : Str := Str.ofString (toString ((n : Nat) : Int))
theorem num_tl (n : Nat) : tl (num n) = numL n := tl_num n
theorem numL_head {n : Nat} (h : (numL n)[0]? = some 48) : n = 0 := by
  induction n using Nat.strongRecOn with
  | _ n ih =>
    by_cases c : n < 10
    · rw [numL_lt c] at h
      have := Option.some.inj h
      omega
    · rw [numL_step (by omega)] at h
      have ne := numL_ne (n / 10)
      have l : 0 < (numL (n / 10)).length := List.length_pos_iff.mpr ne
      rw [List.getElem?_append_left l] at h
      have := ih (n / 10) (by omega) h
      omega
theorem num0 : num 0 = z0 := ext_tl (by
  rw [num_tl, numL_lt (by decide), z0_is])
theorem num_len {n : Nat} (h : n < 10 ^ 30) : (num n).length ≤ 30 := by
  rw [len_tl, num_tl]
  exact numL_len (by decide) h
theorem num_ok {n : Nat} (h : n < 10 ^ 30) : okN (num n) = true := by
  have l1 : 1 ≤ (num n).length := by
    rw [len_tl, num_tl]
    exact List.length_pos_iff.mpr (numL_ne n)
  unfold okN
  rw [decide_eq_true l1, decide_eq_true (num_len h), num_tl, all_dig (numL_digits n), starts0, num_tl]
  cases c : decide ((numL n)[0]? = some 48) with
  | false => rfl
  | true =>
    have := numL_head (of_decide_eq_true c)
    subst this
    rw [num0, decide_eq_true rfl]
    rfl
theorem num_val {n : Nat} (h : n < 10 ^ 30) : numV (num n) = (n : Int) := by
  unfold numV num
  rw [int_num (by have := num_len h; rw [len_tl, num_tl] at this; omega)]
  rfl
/-! a line of the notation -/
def wCome : Str := Str.ofString "come"
def wGo : Str := Str.ofString "go"
def sp1 : Str := Str.ofString " "
theorem sp1_tl : tl sp1 = [32] := by
  show tl (Str.ofString " ") = [32]
  rw [tl_ofString]
  rfl
def many (w : Str) : V := if w = wCome then .int 2 else if w = wGo then .int 1 else .non
def parseW : List Str → Option (Str × List Int)
  | [] => none
  | w :: r => if (decide (V.int (r.length : Nat) = many w) && r.all okN) = true then some (w, r.map numV) else none
def parse (x : Str) : Option (Str × List Int) := parseW (Txt.split x sp1)
theorem split_some (x : Str) : ∃ w r, Txt.split x sp1 = w :: r := by
  have h := split_spl x sp1 (by rw [sp1_tl]; exact List.cons_ne_nil _ _) (kind_ok (by
    show sp1.cps.all (· < 256) = true
    rw [← Array.all_toList, show sp1.cps.toList = [32] from sp1_tl]
    rfl))
  cases e : Txt.split x sp1 with
  | cons w r => exact ⟨w, r, rfl⟩
  | nil =>
    rw [e] at h
    have : ∀ (S : List Nat) (l : List Nat) (k : Nat) (acc : List Nat), spl S k acc l ≠ [] := by
      intro S l
      induction l with
      | nil =>
        intro k acc
        rw [spl_nil]
        exact List.cons_ne_nil _ _
      | cons c r ih =>
        intro k acc
        cases k with
        | zero =>
          cases hp : pre S (c :: r) with
          | true =>
            rw [spl_hit hp]
            exact List.cons_ne_nil _ _
          | false =>
            rw [spl_miss hp]
            exact ih _ _
        | succ k =>
          rw [spl_pass]
          intro z
          rw [← spl_pass] at z
          exact absurd z (by
            show spl S k acc r ≠ []
            exact ih _ _)
    exact absurd h.symm (this _ _ _ _)
theorem parse_join {w : Str} {ns : List Nat} (hw : 32 ∉ tl w) (hm : many w = .int (ns.length : Nat)) (h : ∀ n ∈ ns, n < 10 ^ 30) : parse (Txt.join sp1 (w :: ns.map num)) = some (w, ns.map fun n : Nat => (n : Int)) := by
  unfold parse
  rw [split_join (y := sp1) (s := 32) (S := []) sp1_tl (by
    rw [← Array.all_toList, show sp1.cps.toList = [32] from sp1_tl]
    rfl) (List.cons_ne_nil _ _) (fun p hp => by
      rcases List.mem_cons.mp hp with rfl | hp
      · exact hw
      · obtain ⟨n, _, rfl⟩ := List.mem_map.mp hp
        rw [num_tl]
        exact numL_free (.inl (by decide)))]
  show (if (decide (V.int (((ns.map num).length : Nat) : Int) = many w) && (ns.map num).all okN) = true then some (w, (ns.map num).map numV) else none) = _
  rw [List.length_map, hm, decide_eq_true rfl, Bool.true_and, if_pos (List.all_eq_true.mpr fun x hx => by
    obtain ⟨n, hn, rfl⟩ := List.mem_map.mp hx
    exact num_ok (h n hn)), List.map_map]
  congr 2
  refine List.map_congr_left fun n hn => ?_
  exact num_val (h n hn)
end Own

set_option Elab.async false
set_option linter.all false
set_option maxRecDepth 100000
set_option maxHeartbeats 4000000
namespace My
open PySem PySem.Spec PyProof.Rows L2 Own TL
section
variable {P : Program} {w : World} {K : PySem.W.Frag} {mg : Str → Option Value} {base : Heap} {W : Tbs}
def spNumber (W : Tbs) : Sp := fun vs H Q _ => ∃ x : Str, vs = [.str x] ∧ x.length ≤ 1000 ∧ ∀ H', Ext W H H' → Q (.bl (okN x)) H'
theorem ok_is_number (T : Txt K mg) : FnOk P w K mg base CX0 1 T.f_is_number T.d_is_number ["text"] (spNumber W) := by
  refine T.D_is_number.F.ok sc_is_number (fun vs H Q E h => ?_) (fun cdv A outer s H vs Q E hr h => ?_)
  · obtain ⟨x, rfl, _⟩ := h
    rfl
  · obtain ⟨x, rfl, few, q⟩ := h
    refine ⟨_, (pss_cons (ps_if (pt_not (pt_chain op_le op_le pe_int (pe_callB call_len_str (by rfl) T.z_len PySem.boot_len (pa_cons (pv 0) pa_nil)) (pe_gi rfl T.c_MOST_FIGURES))) 
      (pss_one (ps_ret pe_bl)) pss_nil)
    (pss_cons (ps_if (PW.pt (pw_and (pt_val (pe_m1 PySem.F.slot_str_startswith PySem.F.type_str_startswith mt_startswith (pv 0) pe_str)) (pw_and1 (pt_cmpR op_ne (pv 0) pe_str (nomark _))))) 
      (pss_one (ps_ret pe_bl)) pss_nil)
    (pss_one (ps_ret (pe_callB (allL K rfl) (by rfl) T.z_all (by decide +kernel) (pa_cons (pe_lc rfl sc_is_number.nd (own := [("sign", 1)]) (pi_str (pv 0)) (blkOk_by (N := N_is_number) (sc := defScope s_is_number) (by decide +kernel)) (fun _ _ _ _ _ => (pg_name (i := 1) sc_is_number.nd rfl (.inl rfl))) (fun _ _ _ _ _ => pts_nil) (fun _ _ _ _ _ => (pe_cmpR op_in_sign (pv 1) pe_str (by rfl)))) pa_nil)))))), ?_⟩
    have sz : x.length ≤ sizeLine := Nat.le_trans few (by decide)
    refine ⟨_, rfl, x, rfl, sz, _, _, rfl, rfl, _, rfl, ?_⟩
    by_cases h1 : 1 ≤ x.length
    case neg =>
      rw [decide_eq_false (show ¬ (1 : Int) ≤ ((x.length : Nat) : Int) by omega)]
      refine iteF ⟨_, rfl, iteT ?_⟩
      have := q H .refl
      unfold okN at this
      rw [decide_eq_false h1] at this
      exact this
    rw [decide_eq_true (show (1 : Int) ≤ ((x.length : Nat) : Int) by omega)]
    refine iteT ⟨_, _, rfl, rfl, _, rfl, ?_⟩
    by_cases h2 : x.length ≤ 30
    case neg =>
      rw [decide_eq_false (show ¬ ((x.length : Nat) : Int) ≤ 30 by omega)]
      refine iteT ?_
      have := q H .refl
      unfold okN at this
      rw [decide_eq_true h1, decide_eq_false h2] at this
      exact this
    rw [decide_eq_true (show ((x.length : Nat) : Int) ≤ 30 by omega)]
    refine iteF ?_
    refine ⟨_, rfl, ⟨_, rfl⟩, _, _, rfl, rfl, _, rfl, ?_⟩
    have ez : Str.ofString "0" = z0 := rfl
    rw [ez]
    have fin : okN x = (!(Txt.startswith x z0 && !decide (x = z0)) && (TL.tl x).all dig) := by
      unfold okN
      rw [decide_eq_true h1, decide_eq_true h2]
      rfl
    refine (Decidable.em (Txt.startswith x z0 = true)).elim (fun c1 => ?t1) (fun c1 => ?t2)
    case' t1 =>
      rw [c1]
      refine iteT ⟨_, rfl, rfl, _, rfl, ?_⟩
      refine (Decidable.em (x = z0)).elim (fun c2 => ?t3) (fun c2 => ?t4)
    case' t3 =>
      rw [decide_eq_true (show V.str x = V.str z0 by rw [c2])]
      refine iteF ?_
      have fin2 : okN x = (TL.tl x).all dig := by
        rw [fin, c1, decide_eq_true c2]
        rfl
    case t4 =>
      rw [decide_eq_false (show ¬ V.str x = V.str z0 from fun z => c2 (V.str.inj z))]
      refine iteT ?_
      have := q H .refl
      rw [fin, c1, decide_eq_false c2] at this
      exact this
    case' t2 =>
      have c1 := Bool.eq_false_iff.mpr c1
      rw [c1]
      refine iteF (iteF ?_)
      have fin2 : okN x = (TL.tl x).all dig := by
        rw [fin, c1]
        rfl
    all_goals
      refine ⟨_, rfl, x, rfl, fun D nD => lc_it (walk_str (z := x)) (fun j G => Ext W H G ∧ G D = some (.lst ((((TL.tl x).take j).map dig).map V.bl))) ⟨.new nD, upd_same⟩ (fun _ _ _ _ => trivial) ?_ ?_⟩
      · rintro j y G0 G1 hj ⟨xe, hD⟩ ⟨rfl, c, hc, rfl⟩
        refine ⟨rfl, yesT ?_⟩
        have ht : (TL.tl x)[j]? = some c := by
          show x.cps.toList[j]? = some c
          rw [Array.getElem?_toList]
          exact hc
        refine ⟨_, rfl, c, _, rfl, rfl, _, hD, ?_, xe.put (.inl nD) hD, ?_⟩
        · rw [List.length_map, List.length_map, List.length_take]
          refine small1000 ?_
          have := TL.len_tl x
          omega
        · rw [upd_same, take_one ht, in_digits, List.map_append, List.map_append]
          rfl
      · rintro G ⟨xe, hD⟩
        rw [show (TL.tl x).take x.cps.size = TL.tl x from List.take_of_length_le (by rw [Array.length_toList]; exact Nat.le_refl _)] at hD
        refine ⟨D, _, rfl, SqL.of hD, ?_⟩
        have e : ((TL.tl x).map dig).all id = (TL.tl x).all dig := by
          rw [List.all_map]
          rfl
        rw [e, ← fin2]
        exact q _ xe
def spMany : Sp := fun vs H Q _ => ∃ x : Str, vs = [.str x] ∧ Q (many x) H
theorem ok_many_behind (T : Txt K mg) : FnOk P w K mg base CX0 1 T.f_many_behind T.d_many_behind ["word"] spMany := by
  refine T.D_many_behind.F.ok sc_many_behind (fun vs H Q E h => ?_) (fun cdv A outer s H vs Q E hr h => ?_)
  · obtain ⟨x, rfl, _⟩ := h
    rfl
  · obtain ⟨x, rfl, q⟩ := h
    refine ⟨_, (pss_cons (ps_if (pt_cmpR op_eq (pv 0) (pe_gs rfl T.c_COME) (nomark _)) 
      (pss_one (ps_ret pe_int)) pss_nil)
    (pss_cons (ps_if (pt_cmpR op_eq (pv 0) (pe_gs rfl T.c_GO) (nomark _)) 
      (pss_one (ps_ret pe_int)) pss_nil)
    (pss_one (ps_ret pe_non)))), ?_⟩
    unfold many at q
    refine ⟨_, rfl, rfl, _, rfl, ?_⟩
    by_cases c1 : x = wCome
    · rw [if_pos c1] at q
      rw [decide_eq_true (show V.str x = V.str (Str.ofString "come") by rw [c1]; rfl)]
      exact iteT q
    · rw [if_neg c1] at q
      rw [decide_eq_false (show ¬ V.str x = V.str (Str.ofString "come") from fun z => c1 (V.str.inj z))]
      refine iteF ?_
      refine ⟨_, rfl, rfl, _, rfl, ?_⟩
      by_cases c2 : x = wGo
      · rw [if_pos c2] at q
        rw [decide_eq_true (show V.str x = V.str (Str.ofString "go") by rw [c2]; rfl)]
        exact iteT q
      · rw [if_neg c2] at q
        rw [decide_eq_false (show ¬ V.str x = V.str (Str.ofString "go") from fun z => c2 (V.str.inj z))]
        exact iteF q
end
end My

set_option Elab.async false
set_option linter.all false
set_option maxRecDepth 100000
set_option maxHeartbeats 4000000
namespace My
open PySem PySem.Spec PyProof.Rows L2 Own TL
theorem log_few {n : Nat} (h : n < 10 ^ 30) : n.log2 < 1920 := by
  by_cases z : n = 0
  · rw [z]
    decide
  · exact (Nat.log2_lt z).mpr (Nat.lt_trans h (by decide +kernel))
theorem sum_le {l : List Nat} {m : Nat} (h : ∀ x ∈ l, x ≤ m) : l.sum ≤ l.length * m := by
  induction l with
  | nil => exact Nat.zero_le _
  | cons a l ih =>
    rw [List.sum_cons, List.length_cons, Nat.succ_mul]
    have := h a List.mem_cons_self
    have := ih fun x hx => h x (List.mem_cons_of_mem _ hx)
    omega
/-- a word and numbers as a value's items, and as texts -/
def itemsV (w : Str) (ns : List Nat) : List V := .str w :: vN ns
def itemsS (w : Str) (ns : List Nat) : List Str := w :: ns.map num
theorem items_at {w : Str} {ns : List Nat} {j : Nat} {y : V} (h : (itemsV w ns)[j]? = some y) : (y = .str w ∧ (itemsS w ns)[j]? = some w) ∨ ∃ n ∈ ns, y = .int (n : Nat) ∧ (itemsS w ns)[j]? = some (num n) := by
  cases j with
  | zero =>
    cases h
    exact .inl ⟨rfl, rfl⟩
  | succ j =>
    obtain ⟨n, hn, rfl⟩ := vN_get (show (vN ns)[j]? = some y from h)
    refine .inr ⟨n, List.mem_of_getElem? hn, rfl, ?_⟩
    show (ns.map num)[j]? = some (num n)
    rw [List.getElem?_map, hn]
    rfl
section
variable {P : Program} {w : World} {K : PySem.W.Frag} {mg : Str → Option Value} {base : Heap} {W : Tbs}
def spSpaced (K : PySem.W.Frag) (W : Tbs) : Sp := fun vs H Q _ => ∃ (a : Addr) (wd : Str) (ns : List Nat), vs = [.ref a] ∧ SqT K H a (itemsV wd ns) ∧ wd.length ≤ 30 ∧ ns.length ≤ 100 ∧ (∀ n ∈ ns, n < 10 ^ 30) ∧
  ∀ H', Ext W H H' → Q (.str (Txt.join sp1 (itemsS wd ns))) H'
theorem ok_spaced (T : Txt K mg) : FnOk P w K mg base CX0 1 T.f_spaced T.d_spaced ["parts"] (spSpaced K W) := by
  refine T.D_spaced.F.ok sc_spaced (fun vs H Q E h => ?_) (fun cdv A outer s H vs Q E hr h => ?_)
  · obtain ⟨a, wd, ns, rfl, _⟩ := h
    rfl
  · obtain ⟨a, wd, ns, rfl, hS, lw, few, big, q⟩ := h
    refine ⟨_, (pss_one (ps_ret (joinK K (pe_join pe_str (pe_lc rfl sc_spaced.nd (own := [("part", 1)]) (pi_tup (pv 0)) (blkOk_by (N := N_spaced) (sc := defScope s_spaced) (by decide +kernel)) (fun _ _ _ _ _ => (pg_name (i := 1) sc_spaced.nd rfl (.inl rfl))) (fun _ _ _ _ _ => pts_nil) (fun _ _ _ _ _ => (pe_callTy strV (by rfl) T.z_str (by decide +kernel) (pa_cons (pv 1) pa_nil)))))))), ?_⟩
    have ll : (itemsS wd ns).length = ns.length + 1 := by
      show (ns.map num).length + 1 = _
      rw [List.length_map]
    refine ⟨⟨_, rfl⟩, _, rfl, a, rfl, ⟨_, hS⟩, fun D nD => lc_tup (K := K) (a := a) (xs := itemsV wd ns) (fun j G => Ext W H G ∧ G D = some (.lst (((itemsS wd ns).take j).map V.str))) ⟨.new nD, upd_same⟩ (fun j G _ ⟨x, _⟩ => x.tup hS) ?_ ?_⟩
    · rintro j y G hj ⟨x, hD⟩
      refine ⟨rfl, yesT ?_⟩
      have lj : ((itemsS wd ns).take j).length < 200 := by
        rw [List.length_take]
        omega
      rcases items_at hj with ⟨rfl, ht⟩ | ⟨n, hn, rfl, ht⟩
      · refine ⟨_, rfl, .inr ⟨_, rfl, _, hD, ?_, x.put (.inl nD) hD, ?_⟩⟩
        · rw [List.length_map]
          exact small1000 (by omega)
        · rw [upd_same, take_one ht, List.map_append]
          rfl
      · refine ⟨_, rfl, .inl ⟨_, rfl, log_few (big n hn), _, hD, ?_, x.put (.inl nD) hD, ?_⟩⟩
        · rw [List.length_map]
          exact small1000 (by omega)
        · rw [upd_same, take_one ht, List.map_append]
          rfl
    · rintro G ⟨x, hD⟩
      have lv : (itemsV wd ns).length = ns.length + 1 := by
        show (vN ns).length + 1 = _
        unfold vN
        rw [List.length_map]
      rw [lv, ← ll, List.take_length] at hD
      refine ⟨_, D, itemsS wd ns, rfl, rfl, .inl (SqL.of hD), ?_, q _ x⟩
      have h1 : ((itemsS wd ns).map (·.length)).sum ≤ ((itemsS wd ns).map (·.length)).length * 30 := sum_le fun z hz => by
        obtain ⟨y, hy, rfl⟩ := List.mem_map.mp hz
        rcases List.mem_cons.mp hy with e | e
        · rw [e]
          exact lw
        · obtain ⟨n, hn, rfl⟩ := List.mem_map.mp e
          exact num_len (big n hn)
      rw [List.length_map, ll] at h1
      have h2 : (Str.ofString " ").length = 1 := by
        rw [len_tl]
        show (tl sp1).length = 1
        rw [sp1_tl]
        rfl
      rw [ll, h2]
      omega
def spLineOf (K : PySem.W.Frag) (W : Tbs) : Sp := spSpaced K W
theorem ok_line_of (T : Txt K mg) : FnOk P w K mg base CX0 2 T.f_line_of T.d_line_of ["deed"] (spLineOf K W) := by
  have ok_spaced : FnOk P w K mg base CX0 1 T.f_spaced T.d_spaced ["parts"] (spSpaced K W) := ok_spaced T
  refine T.D_line_of.F.ok sc_line_of (fun vs H Q E h => ?_) (fun cdv A outer s H vs Q E hr h => ?_)
  · obtain ⟨a, wd, ns, rfl, _⟩ := h
    rfl
  · obtain ⟨a, wd, ns, rfl, hS, lw, few, big, q⟩ := h
    refine ⟨_, (pss_one (ps_ret (pe_call ok_spaced (hr.mono (by decide)) rfl T.D_spaced.g T.D_spaced.F.kp T.D_spaced.b .nil pass0 (pa_cons (pv 0) pa_nil)))), ?_⟩
    exact ⟨_, rfl, a, wd, ns, rfl, hS, lw, few, big, q⟩
end
end My

set_option Elab.async false
set_option linter.all false
set_option maxRecDepth 100000
set_option maxHeartbeats 4000000
namespace My
open PySem PySem.Spec PyProof.Rows L2 Own TL
theorem spl_few : ∀ (l acc : List Nat), (spl [32] 0 acc l).length ≤ l.length + 1 ∧ ∀ p ∈ spl [32] 0 acc l, p.length ≤ acc.length + l.length
  | [], acc => by
    rw [spl_nil]
    exact ⟨Nat.le_refl _, fun p hp => by rw [List.mem_singleton.mp hp]; exact Nat.le_refl _⟩
  | c :: r, acc => by
    cases hp : pre [32] (c :: r) with
    | true =>
      obtain ⟨h1, h2⟩ := spl_few r []
      rw [spl_hit hp]
      refine ⟨Nat.succ_le_succ h1, fun p hm => ?_⟩
      rcases List.mem_cons.mp hm with e | e
      · rw [e]
        omega
      · have := h2 p e
        rw [List.length_nil] at this
        rw [List.length_cons]
        omega
    | false =>
      obtain ⟨h1, h2⟩ := spl_few r (acc ++ [c])
      rw [spl_miss hp]
      refine ⟨by rw [List.length_cons]; omega, fun p hm => ?_⟩
      have := h2 p hm
      rw [List.length_append, List.length_singleton] at this
      rw [List.length_cons]
      omega
theorem split_few (x : Str) : (Txt.split x sp1).length ≤ x.length + 1 ∧ ∀ p ∈ Txt.split x sp1, p.length ≤ x.length := by
  have h := split_spl x sp1 (by rw [sp1_tl]; exact List.cons_ne_nil _ _) (kind_ok (by
    show sp1.cps.all (· < 256) = true
    rw [← Array.all_toList, show sp1.cps.toList = [32] from sp1_tl]
    rfl))
  rw [sp1_tl] at h
  obtain ⟨h1, h2⟩ := spl_few (tl x) []
  rw [← h, List.length_map, ← len_tl] at h1
  refine ⟨h1, fun p hp => ?_⟩
  have := h2 (tl p) (by rw [← h]; exact List.mem_map.mpr ⟨p, hp, rfl⟩)
  rw [List.length_nil, Nat.zero_add, ← len_tl, ← len_tl] at this
  exact this
theorem many_scal (n : Nat) (x : Str) : scal (.int (n : Nat)) (many x) = true := by
  unfold many
  split
  · rfl
  · split <;> rfl
theorem sp1_len : (Str.ofString " ").length = 1 := by
  rw [len_tl]
  show (tl sp1).length = 1
  rw [sp1_tl]
  rfl
section
variable {P : Program} {w : World} {K : PySem.W.Frag} {mg : Str → Option Value} {base : Heap} {W : Tbs}
def spDeedOf (K : PySem.W.Frag) (W : Tbs) (EB : Addr) : Sp := fun vs H Q E => ∃ (v : V) (t : String), vs = [v] ∧ TyB K H v t ∧ (∀ x, v = .str x → x.length ≤ 900) ∧
  (∀ x wd ns, v = .str x → parse x = some (wd, ns) → ∀ p H', H p = none → Ext W H H' → H' p = some (.tup (.str wd :: ns.map V.int)) → Q (.ref p) H') ∧
  ((∀ x, v = .str x → parse x = none) → ∀ H', Ext W H H' → E (.ref EB) none H')
theorem ok_deed_of (T : Txt K mg) : FnOk P w K mg base (L2.CX P w) 2 T.f_deed_of T.d_deed_of ["line"] (spDeedOf K W T.E_BadLine) := by
  have ok_is_number : FnOk P w K mg base CX0 1 T.f_is_number T.d_is_number ["text"] (spNumber W) := ok_is_number T
  have ok_many_behind : FnOk P w K mg base CX0 1 T.f_many_behind T.d_many_behind ["word"] spMany := ok_many_behind T
  refine T.D_deed_of.F.okX sc_deed_of (fun vs H Q E h => ?_) (fun cdv A outer s H vs Q E hr h => ?_)
  · obtain ⟨v, t, rfl, _⟩ := h
    rfl
  · obtain ⟨v, t, rfl, ht, hx, q, qe⟩ := h
    refine ⟨_, (pss_cons (ps_if (pt_cmpR op_neTy (pe_callTy (typ1 K) (by rfl) T.z_type (by decide +kernel) (pa_cons (pv 0) pa_nil)) (pe_bltn (v := .ty "str") (by rfl) T.z_str (by decide +kernel) rfl) (nomark _)) 
      (pss_one (ps_raise rfl (takes_of rfl rfl rfl rfl) (pmk_own PySem.F.excBase_ValueError T.x_BadLine.x T.x_BadLine.g T.x_BadLine.k (raises_own T.x_BadLine.b T.x_BadLine.t) rfl))) pss_nil)
    (pss_cons (ps_asg (pe_split (pv 0) pe_str) (pg_star K rfl (pg_name (i := 1) sc_deed_of.nd rfl (.inl rfl)) (pg_name (i := 2) sc_deed_of.nd rfl (.inl rfl))))
    (pss_cons (ps_if (PW.pt (pw_or (pt_cmpR op_ne (pe_callB (lenQ K) (by rfl) T.z_len PySem.boot_len (pa_cons (pv 2) pa_nil)) (pe_call ok_many_behind (hr.mono (by decide)) rfl T.D_many_behind.g T.D_many_behind.F.kp T.D_many_behind.b .nil pass0 (pa_cons (pv 1) pa_nil)) (nomark _)) (pw_or1 (pt_not (pt_val (pe_callB (allL K rfl) (by rfl) T.z_all (by decide +kernel) (pa_cons (pe_lc rfl sc_deed_of.nd (own := [("text", 3)]) (pi_list (pv 2)) (blkOk_by (N := N_deed_of) (sc := defScope s_deed_of) (by decide +kernel)) (fun _ _ _ _ _ => (pg_name (i := 3) sc_deed_of.nd rfl (.inl rfl))) (fun _ _ _ _ _ => pts_nil) (fun _ _ _ _ _ => (pe_call ok_is_number (hr.mono (by decide)) rfl T.D_is_number.g T.D_is_number.F.kp T.D_is_number.b .nil pass0 (pa_cons (pv 3) pa_nil)))) pa_nil))))))) 
      (pss_one (ps_raise rfl (takes_of rfl rfl rfl rfl) (pmk_own PySem.F.excBase_ValueError T.x_BadLine.x T.x_BadLine.g T.x_BadLine.k (raises_own T.x_BadLine.b T.x_BadLine.t) rfl))) pss_nil)
    (pss_one (ps_ret (pe_op (catT K) (pe_tup (pa_cons (pv 1) pa_nil)) (pe_callTy (tupOf K) (by rfl) T.z_tuple (by decide +kernel) (pa_cons (pe_lc rfl sc_deed_of.nd (own := [("text", 3)]) (pi_list (pv 2)) (blkOk_by (N := N_deed_of) (sc := defScope s_deed_of) (by decide +kernel)) (fun _ _ _ _ _ => (pg_name (i := 3) sc_deed_of.nd rfl (.inl rfl))) (fun _ _ _ _ _ => pts_nil) (fun _ _ _ _ _ => (pe_callTy call_int_str (by rfl) T.z_int (by decide +kernel) (pa_cons (pv 3) pa_nil)))) pa_nil)))))))), ?_⟩
    refine ⟨_, rfl, v, t, rfl, ht, ?_⟩
    refine ⟨t, "str", rfl, rfl, Own.TyB.name ht, by decide, _, rfl, ?_⟩
    by_cases et : t = "str"
    case neg =>
      rw [decide_eq_false et]
      refine iteT (qe (fun x e => ?_) H .refl)
      subst e
      cases ht
      exact absurd rfl et
    cases ht with
    | str x =>
      rw [decide_eq_true et]
      refine iteF ?_
      have few := hx x rfl
      have hp : parse x = parseW (Txt.split x sp1) := rfl
      obtain ⟨w1, r, ew⟩ := split_some x
      obtain ⟨f1, f2⟩ := split_few x
      rw [ew] at f1 f2 hp
      have lr : r.length ≤ 900 := by
        rw [List.length_cons] at f1
        omega
      refine ⟨_, rfl, ⟨_, rfl⟩, x, sp1, rfl, rfl, ?_, Nat.le_trans (Nat.add_le_add_right few 2) (by decide), fun p np => ?_⟩
      · rw [show sp1.length = 1 from sp1_len]
        rfl
      rw [ew]
      refine newO W (H := H) (p := p) np fun H1 x1 hp1 => ?_
      refine ⟨p, .str w1, r.map V.str, rfl, SqL.of hp1, fun u nu => ?_⟩
      refine newO W (H := H1) (p := u) nu fun H2 x2 hu => ?_
      have x02 := x1.trans x2
      refine ⟨_, rfl, u, _, rfl, .inl (SqL.of hu), _, rfl, w1, rfl, many_scal _ _, _, rfl, ?_⟩
      rw [List.length_map]
      by_cases cm : V.int ((r.length : Nat) : Int) = many w1
      case neg =>
        rw [decide_eq_false cm]
        refine iteT (iteT (qe (fun x' e => ?_) H2 x02))
        cases V.str.inj e
        rw [hp]
        show (if (decide (V.int (r.length : Nat) = many w1) && r.all okN) = true then _ else none) = none
        rw [decide_eq_false cm]
        rfl
      rw [decide_eq_true cm]
      refine iteF ?_
      have rl : ∀ y ∈ r, y.length ≤ 1000 := fun y hy => by
        have := f2 y (List.mem_cons_of_mem _ hy)
        omega
      refine ⟨_, rfl, u, rfl, ⟨_, SqL.of hu⟩, fun D nD => lc_list (K := K) (a := u) (xs := r.map V.str) (fun j G => Ext W H2 G ∧ G D = some (.lst (((r.take j).map okN).map V.bl))) ⟨.new nD, upd_same⟩ (fun j G _ ⟨x, _⟩ => SqL.of (x.lst hu)) ?_ ?_⟩
      · rintro j y G hj ⟨x, hD⟩
        rw [List.getElem?_map] at hj
        obtain ⟨z, hz, rfl⟩ := Option.map_eq_some_iff.mp hj
        refine ⟨rfl, yesT ?_⟩
        refine ⟨_, rfl, z, rfl, rl z (List.mem_of_getElem? hz), fun G2 y2 => ?_⟩
        have hD2 := y2.lst hD
        refine ⟨_, hD2, ?_, (x.trans y2).put (.inl nD) hD2, ?_⟩
        · rw [List.length_map, List.length_map, List.length_take]
          exact small1000 (by omega)
        · rw [upd_same, take_one hz, List.map_append, List.map_append]
          rfl
      rintro G ⟨x3, hD⟩
      rw [List.length_map, List.take_length] at hD
      refine ⟨D, _, rfl, SqL.of hD, _, rfl, ?_⟩
      have ea : (r.map okN).all id = r.all okN := by
        rw [List.all_map]
        rfl
      rw [ea]
      cases ca : r.all okN with
      | false =>
        refine iteT (qe (fun x' e => ?_) G (x02.trans x3))
        cases V.str.inj e
        rw [hp]
        show (if (decide (V.int (r.length : Nat) = many w1) && r.all okN) = true then _ else none) = none
        rw [ca, Bool.and_false]
        rfl
      | true =>
        refine iteF ?_
        have hu3 := x3.lst hu
        have x03 := x02.trans x3
        have hparse : parse x = some (w1, r.map numV) := by
          rw [hp]
          show (if (decide (V.int (r.length : Nat) = many w1) && r.all okN) = true then some (w1, r.map numV) else none) = _
          rw [ca, decide_eq_true cm]
          rfl
        refine ⟨_, rfl, by show 1 ≤ sizeLine; decide, fun t1 nt1 => ?_⟩
        refine newO W (H := G) (p := t1) nt1 fun G1 y1 ht1 => ?_
        refine ⟨_, rfl, u, rfl, ⟨_, SqL.of (y1.lst hu3)⟩, fun D2 nD2 => lc_list (K := K) (a := u) (xs := r.map V.str) (fun j G => Ext W G1 G ∧ G D2 = some (.lst (((r.take j).map numV).map V.int))) ⟨.new nD2, upd_same⟩ (fun j G _ ⟨x, _⟩ => SqL.of (x.lst (y1.lst hu3))) ?_ ?_⟩
        · rintro j y G hj ⟨x, hD2⟩
          rw [List.getElem?_map] at hj
          obtain ⟨z, hz, rfl⟩ := Option.map_eq_some_iff.mp hj
          obtain ⟨k1, k2⟩ := okN_num (List.all_eq_true.mp ca z (List.mem_of_getElem? hz))
          refine ⟨rfl, yesT ?_⟩
          refine ⟨_, rfl, z, _, rfl, k1, by omega, _, hD2, ?_, x.put (.inl nD2) hD2, ?_⟩
          · rw [List.length_map, List.length_map, List.length_take]
            exact small1000 (by omega)
          · rw [upd_same, take_one hz, List.map_append, List.map_append]
            rfl
        rintro G2 ⟨y2, hD2⟩
        rw [List.length_map, List.take_length] at hD2
        refine ⟨D2, _, rfl, .inl ⟨SqL.of hD2, fun t2 nt2 => ?_⟩⟩
        refine newO W (H := G2) (p := t2) nt2 fun G3 y3 ht2 => ?_
        have rne : (r.map numV).map V.int ≠ [] := by
          intro z
          have z := List.map_eq_nil_iff.mp (List.map_eq_nil_iff.mp z)
          rw [z] at cm
          unfold many at cm
          split at cm
          · have := V.int.inj cm
            cases this
          · split at cm
            · have := V.int.inj cm
              cases this
            · cases cm
        refine ⟨t1, t2, _, _, rfl, rfl, (y2.trans y3).tup (.inl (.inl ht1)), .inl (.inl ht2), List.cons_ne_nil _ _, ?_, fun z => absurd z rne, fun _ t3 nt3 => ?_⟩
        · rw [List.length_map, List.length_map]
          show 1 + r.length ≤ sizeLine
          exact Nat.le_of_lt (small1000 (by omega))
        refine newO W (H := G3) (p := t3) nt3 fun G4 y4 ht3 => ?_
        have yy := y1.trans (y2.trans (y3.trans y4))
        exact q x w1 (r.map numV) rfl hparse t3 G4 (x03.f _ ((y1.trans (y2.trans y3)).f _ nt3)) (x03.trans yy) ht3
    | _ => exact absurd et (by decide)
end
end My

set_option Elab.async false
set_option linter.all false
set_option maxRecDepth 100000
namespace Own
open PySem PySem.Spec PyProof.Rows L2
/-! data: ints, None, texts, and lists and tuples of them -/
def okD (k : Nat) (d : PyData) : Prop := d.canLay0 = true ∧ d.depth ≤ k
theorem okD.of {k j : Nat} {d : PyData} (h : okD k d) (l : k ≤ j) : okD j d := ⟨h.1, Nat.le_trans h.2 l⟩
theorem okD_int (i : Int) : okD 1 (.int i) := ⟨rfl, by simp [PyData.depth]⟩
theorem okD_non : okD 1 .none := ⟨rfl, by simp [PyData.depth]⟩
theorem okD_all {k : Nat} : ∀ {ds : List PyData}, (∀ d ∈ ds, okD k d) → PyData.canLayAll0 ds = true ∧ PyData.depthAll ds ≤ k
  | [], _ => ⟨rfl, Nat.zero_le _⟩
  | d :: ds, h => by
    obtain ⟨h1, h2⟩ := okD_all (k := k) (ds := ds) fun x hx => h x (List.mem_cons_of_mem _ hx)
    obtain ⟨g1, g2⟩ := h d List.mem_cons_self
    simp only [PyData.canLayAll0, PyData.depthAll, h1, g1, Bool.and_self, true_and]
    omega
theorem okD.list {k : Nat} {ds : List PyData} (h : ∀ d ∈ ds, okD k d) : okD (k + 1) (.list ds) := by
  obtain ⟨h1, h2⟩ := okD_all h
  refine ⟨h1, ?_⟩
  simp only [PyData.depth]
  omega
theorem okD.tuple {k : Nat} {ds : List PyData} (h : ∀ d ∈ ds, okD k d) : okD (k + 1) (.tuple ds) := by
  obtain ⟨h1, h2⟩ := okD_all h
  refine ⟨h1, ?_⟩
  simp only [PyData.depth]
  omega
theorem okD.shaped {k : Nat} {d : PyData} (h : okD k d) (l : k ≤ 64 := by decide) : SeqAt.shaped d = true := by
  unfold SeqAt.shaped
  rw [h.1, Bool.true_and]
  exact decide_eq_true (Nat.le_trans h.2 l)
mutual
theorem eqv_same : ∀ d : PyData, d.canLay0 = true → PyData.eqv d d = true
  | .none, _ => by simp [PyData.eqv]
  | .bool b, _ => by simp [PyData.eqv]
  | .int i, _ => by simp [PyData.eqv]
  | .str x, _ => by simp [PyData.eqv]
  | .list xs, h => by
    rw [PyData.eqv]
    exact eqvAll_same xs h
  | .tuple xs, h => by
    rw [PyData.eqv]
    exact eqvAll_same xs h
  | .dict _, h => by cases h
theorem eqvAll_same : ∀ ds : List PyData, PyData.canLayAll0 ds = true → PyData.eqvAll ds ds = true
  | [], _ => by simp [PyData.eqvAll]
  | d :: ds, h => by
    rw [PyData.canLayAll0, Bool.and_eq_true] at h
    rw [PyData.eqvAll, eqv_same d h.1, eqvAll_same ds h.2]
    rfl
end
/-- lists of ints as data -/
def intsD (ns : List Int) : PyData := .list (ns.map PyData.int)
theorem intsD_ok (ns : List Int) : okD 2 (intsD ns) := okD.list fun d hd => by
  obtain ⟨i, _, rfl⟩ := List.mem_map.mp hd
  exact okD_int i
theorem eqv_intsD (a b : List Int) : PyData.eqv (intsD a) (intsD b) = decide (a = b) := PySem.W.ked_eqvAll a b
def natsD (ns : List Nat) : PyData := intsD (ns.map fun n : Nat => (n : Int))
theorem natsD_ok (ns : List Nat) : okD 2 (natsD ns) := intsD_ok _
theorem casts_inj {a b : List Nat} (h : (a.map fun n : Nat => (n : Int)) = b.map fun n : Nat => (n : Int)) : a = b := by
  induction a generalizing b with
  | nil => cases b with
    | nil => rfl
    | cons y b => cases h
  | cons x a ih => cases b with
    | nil => cases h
    | cons y b =>
      rw [List.map_cons, List.map_cons] at h
      have h1 := (List.cons.inj h).1
      rw [ih (List.cons.inj h).2, show x = y by omega]
theorem eqv_natsD (a b : List Nat) : PyData.eqv (natsD a) (natsD b) = decide (a = b) := by
  unfold natsD
  rw [eqv_intsD, Bool.eq_iff_iff, decide_eq_true_eq, decide_eq_true_eq]
  exact ⟨casts_inj, fun h => by rw [h]⟩
/-! rows of ints as data -/
def rowD (r : List Int) : PyData := .tuple (r.map PyData.int)
theorem rowD_ok (r : List Int) : okD 2 (rowD r) := okD.tuple fun d hd => by
  obtain ⟨i, _, rfl⟩ := List.mem_map.mp hd
  exact okD_int i
def rowsD (ts : List (List Int)) : PyData := .list (ts.map rowD)
theorem rowsD_ok (ts : List (List Int)) : okD 3 (rowsD ts) := okD.list fun d hd => by
  obtain ⟨i, _, rfl⟩ := List.mem_map.mp hd
  exact rowD_ok i
theorem eqv_rowD (t u : List Int) : PyData.eqv (rowD t) (rowD u) = decide (t = u) := PySem.W.ked_eqvAll t u
theorem eqvAll_rows : ∀ ts us : List (List Int), PyData.eqvAll (ts.map rowD) (us.map rowD) = decide (ts = us)
  | [], [] => by simp [PyData.eqvAll]
  | [], _ :: _ => by simp [PyData.eqvAll]
  | _ :: _, [] => by simp [PyData.eqvAll]
  | t :: ts, u :: us => by
    have h := eqvAll_rows ts us
    simp only [List.map_cons, PyData.eqvAll]
    rw [eqv_rowD, h, Bool.eq_iff_iff]
    simp
theorem eqv_rows (ts us : List (List Int)) : PyData.eqv (rowsD ts) (rowsD us) = decide (ts = us) := eqvAll_rows ts us
section
variable {K : PySem.W.Frag} {H : Hp}
theorem dp_ints : ∀ r : List Int, DpAll K H (r.map V.int) (r.map PyData.int)
  | [] => .nil
  | x :: r => .cons (.int x) (dp_ints r)
theorem dp_nats {a : Addr} {ns : List Nat} (h : SqL K H a (vN ns)) : Dp K H (.ref a) (natsD ns) := by
  rw [vN_ints] at h
  exact .lst h (dp_ints _)
theorem dp_each : ∀ {as : List Addr} {ts : List (List Int)}, Each K H as ts → DpAll K H (as.map V.ref) (ts.map rowD)
  | _, _, .nil => .nil
  | _, _, .cons h t => .cons (.tup h (dp_ints _)) (dp_each t)
theorem dp_rows {a : Addr} {ts : List (List Int)} (h : Rows K H a ts) : Dp K H (.ref a) (rowsD ts) := by
  obtain ⟨as, h1, h2⟩ := h
  exact .lst h1 (dp_each h2)
end
end Own

set_option Elab.async false
set_option linter.all false
set_option maxRecDepth 100000
set_option maxHeartbeats 4000000
namespace My
open PySem PySem.Spec PyProof.Rows L2 Own TL
def signV (c : Nat) : V := .str ⟨#[c]⟩
def signsD (l : List Nat) : PyData := .list (l.map fun c => PyData.str ⟨#[c]⟩)
/-- signs that a text may have -/
def okS (l : List Nat) : Prop := ∀ c ∈ l, c < 1114112
theorem okD_str {x : Str} (h : okS (tl x)) : okD 1 (.str x) := by
  refine ⟨?_, by simp [PyData.depth]⟩
  rw [show (PyData.str x).canLay0 = PyData.strOk x by simp [PyData.canLay0]]
  unfold PyData.strOk
  rw [← Array.all_toList, List.all_eq_true]
  exact fun c hc => decide_eq_true (h c hc)
theorem signsD_ok {l : List Nat} (h : okS l) : okD 2 (signsD l) := okD.list fun d hd => by
  obtain ⟨c, hc, rfl⟩ := List.mem_map.mp hd
  refine okD_str fun e he => ?_
  have he : e ∈ [c] := he
  rw [List.mem_singleton.mp he]
  exact h c hc
theorem eqv_signs (l : List Nat) : PyData.eqv (signsD l) (signsD []) = decide (l = []) := by
  unfold signsD
  rw [PyData.eqv]
  cases l with
  | nil => simp [PyData.eqvAll]
  | cons c l => simp [PyData.eqvAll]
theorem dp_signs {K : PySem.W.Frag} {H : Hp} {a : Addr} {l : List Nat} (h : SqL K H a (l.map signV)) : Dp K H (.ref a) (signsD l) := by
  refine .lst h ?_
  clear h
  induction l with
  | nil => exact .nil
  | cons c l ih => exact .cons (.str _) ih
theorem empty_len : (Str.ofString "").length = 0 := rfl
theorem len_empty {x : Str} (h : ¬ x = Str.ofString "") : 1 ≤ x.length := by
  by_cases c : x.length = 0
  · have e : tl x = [] := List.length_eq_zero_iff.mp (by rw [← len_tl]; exact c)
    exact absurd (ext_tl (by
      rw [e, tl_ofString]
      rfl)) h
  · omega
def numO (x : Str) : V := if okN x = true then .int (numV x) else .non
section
variable {P : Program} {w : World} {K : PySem.W.Frag} {mg : Str → Option Value} {base : Heap} {W : Tbs}
def spLNum (W : Tbs) : Sp := fun vs H Q _ => ∃ x : Str, vs = [.str x] ∧ x.length ≤ 1000 ∧ okS (tl x) ∧ ∀ H', Ext W H H' → Q (numO x) H'
theorem ok_l_number (T : Txt K mg) : FnOk P w K mg base CX0 1 T.f_l_number T.d_l_number ["_law_word"] (spLNum W) := by
  refine T.D_l_number.F.ok sc_l_number (fun vs H Q E h => ?_) (fun cdv A outer s H vs Q E hr h => ?_)
  · obtain ⟨x, rfl, _⟩ := h
    rfl
  · obtain ⟨x, rfl, few, oks, q⟩ := h
    refine ⟨_, (pss_cons (ps_if (PW.pt (pw_or (pt_cmpR op_eq (pv 0) pe_str (nomark _)) (pw_or (pt_cmpR op_gt (pe_callB call_len_str (by rfl) T.z_len PySem.boot_len (pa_cons (pv 0) pa_nil)) pe_int (nomark _)) (pw_or1 (pt_cmpR (neD K hr.units) (pe_lc rfl sc_l_number.nd (own := [("_law_sign", 1)]) (pi_str (pv 0)) (blkOk_by (N := N_l_number) (sc := defScope s_l_number) (by decide +kernel)) (fun _ _ _ _ _ => (pg_name (i := 1) sc_l_number.nd rfl (.inl rfl))) (fun _ _ _ _ _ => (pts_one (pt_cmpR op_notIn_sign (pv 1) pe_str (by rfl)))) (fun _ _ _ _ _ => (pv 1))) (pe_lst pa_nil) (nomark _)))))) 
      (pss_one (ps_ret pe_non)) pss_nil)
    (pss_one (ps_ret (pe_ifExp (PW.pt (pw_or (pt_cmpR op_ne (pe_item_str (pv 0) pe_int (fun _ _ => rfl)) pe_str (nomark _)) (pw_or1 (pt_cmpR op_eq (pv 0) pe_str (nomark _))))) (pe_callTy call_int_str (by rfl) T.z_int (by decide +kernel) (pa_cons (pv 0) pa_nil)) pe_non)))), ?_⟩
    have sz : x.length ≤ sizeLine := Nat.le_trans few (by decide)
    have no : okN x = false → ∀ H', Ext W H H' → Q .non H' := fun e H' xe => by
      have := q H' xe
      unfold numO at this
      rw [e, if_neg Bool.false_ne_true] at this
      exact this
    refine ⟨_, rfl, rfl, _, rfl, ?_⟩
    by_cases c0 : x = Str.ofString ""
    case pos =>
      rw [decide_eq_true (show V.str x = V.str (Str.ofString "") by rw [c0])]
      refine iteT (iteT (no ?_ H .refl))
      unfold okN
      rw [c0, empty_len]
      rfl
    rw [decide_eq_false (show ¬ V.str x = V.str (Str.ofString "") from fun z => c0 (V.str.inj z))]
    refine iteF ?_
    have l1 := len_empty c0
    refine ⟨_, rfl, x, rfl, sz, _, _, rfl, rfl, _, rfl, ?_⟩
    by_cases c30 : x.length ≤ 30
    case neg =>
      rw [decide_eq_true (show (30 : Int) < ((x.length : Nat) : Int) by omega)]
      refine iteT (iteT (no ?_ H .refl))
      unfold okN
      rw [decide_eq_false c30, Bool.and_false]
      rfl
    rw [decide_eq_false (show ¬ (30 : Int) < ((x.length : Nat) : Int) by omega)]
    refine iteF ?_
    refine ⟨_, rfl, x, rfl, fun D nD => lc_it (walk_str (z := x)) (fun j G => Ext W H G ∧ G D = some (.lst ((((tl x).take j).filter fun c => !dig c).map signV))) ⟨.new nD, upd_same⟩ (fun _ _ _ _ => trivial) ?_ ?_⟩
    · rintro j y G0 G1 hj ⟨xe, hD⟩ ⟨rfl, c, hc, rfl⟩
      have ht : (tl x)[j]? = some c := by
        show x.cps.toList[j]? = some c
        rw [Array.getElem?_toList]
        exact hc
      refine ⟨rfl, ?_⟩
      refine ⟨_, rfl, c, _, rfl, rfl, _, rfl, ?_⟩
      rw [in_digits]
      have et : ((tl x).take (j + 1)).filter (fun c => !dig c) = ((tl x).take j).filter (fun c => !dig c) ++ (if (!dig c) = true then [c] else []) := by
        rw [take_one ht, List.filter_append, List.filter_cons]
        rfl
      rw [et]
      cases cd : dig c with
      | true =>
        refine iteF ⟨xe, ?_⟩
        rw [if_neg (by decide), List.append_nil]
        exact hD
      | false =>
        refine iteT ?_
        refine ⟨_, rfl, _, hD, ?_, xe.put (.inl nD) hD, ?_⟩
        · rw [List.length_map]
          have := List.length_filter_le (fun c => !dig c) ((tl x).take j)
          rw [List.length_take] at this
          have := len_tl x
          exact small1000 (by omega)
        · rw [upd_same, if_pos (by decide), List.map_append]
          rfl
    rintro G ⟨x1, hD⟩
    rw [show (tl x).take x.cps.size = tl x from List.take_of_length_le (by rw [Array.length_toList]; exact Nat.le_refl _)] at hD
    refine ⟨by show 0 ≤ sizeLine; decide, fun em nem => ?_⟩
    refine newO W (H := G) (p := em) nem fun G2 x2 hem => ?_
    refine ⟨signsD _, signsD [], dp_signs (SqL.of (x2.lst hD)), dp_signs (SqL.of hem), (signsD_ok fun c hc => oks c (List.mem_filter.mp hc).1).shaped, (signsD_ok fun c hc => absurd hc (by simp)).shaped, _, rfl, ?_⟩
    rw [eqv_signs]
    have x02 := x1.trans x2
    have eall : decide ((tl x).filter (fun c => !dig c) = []) = (tl x).all dig := by
      rw [Bool.eq_iff_iff, decide_eq_true_eq, List.filter_eq_nil_iff, List.all_eq_true]
      constructor
      · intro h c hc
        have := h c hc
        cases e : dig c with
        | true => rfl
        | false => rw [e] at this; exact absurd rfl this
      · intro h c hc
        rw [h c hc]
        decide
    rw [eall]
    cases ca : (tl x).all dig with
    | false =>
      refine iteT (no ?_ G2 x02)
      unfold okN
      rw [ca, Bool.and_false]
    | true =>
      refine iteF ?_
      have fin : okN x = !(decide ((tl x)[0]? = some 48) && !decide (x = z0)) := by
        unfold okN
        rw [decide_eq_true l1, decide_eq_true c30, ca, starts0, Bool.and_true]
        rfl
      have l0 : 0 < (tl x).length := by rw [← len_tl]; omega
      obtain ⟨c, hc⟩ : ∃ c, (tl x)[0]? = some c := ⟨_, List.getElem?_eq_getElem l0⟩
      have hc' : x.cps[0]? = some c := by
        rw [← Array.getElem?_toList]
        exact hc
      have yes : okN x = true → Q (.int (numV x)) G2 := fun e => by
        have := q G2 x02
        unfold numO at this
        rw [if_pos e] at this
        exact this
      have hn := digs_num l1 c30 ca
      have ez : Str.ofString "0" = z0 := rfl
      refine ⟨_, rfl, x, 0, c, rfl, rfl, by decide, by decide, by omega, hc', rfl, _, rfl, ?_⟩
      rw [ez, z0_is]
      by_cases c48 : c = 48
      case neg =>
        rw [decide_eq_false (show ¬ V.str ⟨#[c]⟩ = V.str ⟨#[48]⟩ from fun z => c48 (by
          have := congrArg (fun s : Str => s.cps.toList) (V.str.inj z)
          exact (List.cons.inj this).1))]
        refine iteT ?_
        refine ⟨_, rfl, x, _, rfl, hn, by omega, yes ?_⟩
        rw [fin, hc, decide_eq_false (show ¬ some c = some 48 from fun z => c48 (Option.some.inj z))]
        rfl
      subst c48
      rw [decide_eq_true rfl]
      refine iteF ?_
      refine ⟨_, rfl, rfl, _, rfl, ?_⟩
      rw [← z0_is]
      by_cases cz : x = z0
      · rw [decide_eq_true (show V.str x = V.str z0 by rw [cz])]
        refine iteT ?_
        refine ⟨_, rfl, x, _, rfl, hn, by omega, yes ?_⟩
        rw [fin, decide_eq_true cz, Bool.not_true, Bool.and_false]
        rfl
      · rw [decide_eq_false (show ¬ V.str x = V.str z0 from fun z => cz (V.str.inj z))]
        refine iteF (no ?_ G2 x02)
        rw [fin, hc, decide_eq_true rfl, decide_eq_false cz]
        rfl
end
end My

set_option Elab.async false
set_option linter.all false
set_option maxRecDepth 100000
set_option maxHeartbeats 4000000
namespace My
open PySem PySem.Spec PyProof.Rows L2 Own TL
theorem spl_signs : ∀ (l acc p : List Nat), p ∈ spl [32] 0 acc l → ∀ c ∈ p, c ∈ acc ∨ c ∈ l
  | [], acc, p, hp, c, hc => by
    rw [spl_nil] at hp
    rw [List.mem_singleton.mp hp] at hc
    exact .inl hc
  | d :: r, acc, p, hm, c, hc => by
    cases hp : pre [32] (d :: r) with
    | true =>
      rw [spl_hit hp] at hm
      rcases List.mem_cons.mp hm with e | e
      · rw [e] at hc
        exact .inl hc
      · rcases spl_signs r [] p e c hc with z | z
        · exact absurd z (by simp)
        · exact .inr (List.mem_cons_of_mem _ z)
    | false =>
      rw [spl_miss hp] at hm
      rcases spl_signs r (acc ++ [d]) p hm c hc with z | z
      · rcases List.mem_append.mp z with z | z
        · exact .inl z
        · exact .inr (by rw [List.mem_singleton.mp z]; exact List.mem_cons_self)
      · exact .inr (List.mem_cons_of_mem _ z)
theorem split_okS {x : Str} (h : okS (tl x)) {p : Str} (hp : p ∈ Txt.split x sp1) : okS (tl p) := fun c hc => by
  have e := split_spl x sp1 (by rw [sp1_tl]; exact List.cons_ne_nil _ _) (kind_ok (by
    show sp1.cps.all (· < 256) = true
    rw [← Array.all_toList, show sp1.cps.toList = [32] from sp1_tl]
    rfl))
  rw [sp1_tl] at e
  rcases spl_signs (tl x) [] (tl p) (by rw [← e]; exact List.mem_map.mpr ⟨p, hp, rfl⟩) c hc with z | z
  · exact absurd z (by simp)
  · exact h c z
theorem numO_flat (r : List Str) : (r.map numO).all flatV = true := by
  rw [List.all_map, List.all_eq_true]
  intro x _
  show flatV (numO x) = true
  unfold numO
  split <;> rfl
theorem numO_in (r : List Str) : inV .non (r.map numO) = !(r.all okN) := by
  unfold inV
  rw [List.any_map]
  induction r with
  | nil => rfl
  | cons x r ih =>
    rw [List.any_cons, List.all_cons, ih, Bool.not_and]
    congr 1
    show eqV (numO x) .non = !(okN x)
    unfold numO
    cases okN x <;> rfl
theorem numO_all {r : List Str} (h : r.all okN = true) : r.map numO = (r.map numV).map V.int := by
  rw [List.map_map]
  refine List.map_congr_left fun x hx => ?_
  show numO x = V.int (numV x)
  unfold numO
  rw [if_pos (List.all_eq_true.mp h x hx)]
def dueK : List (Key × V) := [(Sum.inr (Str.ofString "come"), .int 3), (Sum.inr (Str.ofString "go"), .int 2)]
theorem dueK_merge : mergeK [] dueK = dueK := by decide +kernel
theorem word_ways (x : Str) : (∃ k : Nat, many x = .int (k : Nat) ∧ valV dueK (Sum.inr x) = some (.int ((k : Nat) + 1)) ∧ inV (.str x) [V.str (Str.ofString "come"), .str (Str.ofString "go")] = true) ∨
    (many x = .non ∧ inV (.str x) [V.str (Str.ofString "come"), .str (Str.ofString "go")] = false) := by
  have ne : ¬ (Str.ofString "go" = Str.ofString "come") := by decide +kernel
  have ev : ∀ a b : Str, eqV (.str a) (.str b) = decide (a = b) := fun a b => by
    show (a == b) = decide (a = b)
    rw [Bool.eq_iff_iff, beq_iff_eq, decide_eq_true_eq]
  by_cases c1 : x = wCome
  · refine .inl ⟨2, by unfold many; rw [if_pos c1]; rfl, ?_, ?_⟩
    · rw [c1]
      decide +kernel
    · unfold inV
      rw [List.any_cons, ev, decide_eq_true (show Str.ofString "come" = x from c1.symm)]
      rfl
  · by_cases c2 : x = wGo
    · refine .inl ⟨1, by unfold many; rw [if_neg c1, if_pos c2]; rfl, ?_, ?_⟩
      · rw [c2]
        decide +kernel
      · unfold inV
        rw [List.any_cons, List.any_cons, ev, ev, decide_eq_true (show Str.ofString "go" = x from c2.symm), Bool.true_or, Bool.or_true]
    · refine .inr ⟨by unfold many; rw [if_neg c1, if_neg c2], ?_⟩
      unfold inV
      rw [List.any_cons, List.any_cons, ev, ev, decide_eq_false (show ¬ Str.ofString "come" = x from fun z => c1 z.symm), decide_eq_false (show ¬ Str.ofString "go" = x from fun z => c2 z.symm)]
      rfl
section
variable {P : Program} {w : World} {K : PySem.W.Frag} {mg : Str → Option Value} {base : Heap} {W : Tbs}
def spDue (W : Tbs) : Sp := fun vs H Q _ => ∃ x : Str, vs = [.str x] ∧ x.length ≤ 900 ∧ okS (tl x) ∧ (parse x = none → ∀ H', Ext W H H' → Q .non H') ∧
  (∀ wd ns, parse x = some (wd, ns) → ∀ p H', H p = none → Ext W H H' → H' p = some (.tup (.str wd :: ns.map V.int)) → Q (.ref p) H')
theorem ok_l_due (T : Txt K mg) : FnOk P w K mg base CX0 2 T.f_l_due T.d_l_due ["_law_text"] (spDue W) := by
  have ok_l_number : FnOk P w K mg base CX0 1 T.f_l_number T.d_l_number ["_law_word"] (spLNum W) := ok_l_number T
  refine T.D_l_due.F.ok sc_l_due (fun vs H Q E h => ?_) (fun cdv A outer s H vs Q E hr h => ?_)
  · obtain ⟨x, rfl, _⟩ := h
    rfl
  · obtain ⟨x, rfl, few, oks, qn, q⟩ := h
    refine ⟨_, (pss_cons (ps_set (i := 1) sc_l_due.nd rfl (.inl rfl) (pe_split (pv 0) pe_str))
    (pss_cons (ps_if (PW.pt (pw_or (pt_cmpR (ninS K) (pe_ix (ixL K) (pv 1) pe_int (fun _ _ => rfl)) (pe_tup (pa_cons pe_str (pa_cons pe_str pa_nil))) (by rfl)) (pw_or1 (pt_cmpR op_ne (pe_callB (lenQ K) (by rfl) T.z_len PySem.boot_len (pa_cons (pv 1) pa_nil)) (pe_dget (hu_of hr) (pe_disp (pps_cons pe_str pe_int (pps_cons pe_str pe_int pps_nil)) (by rfl) (by rfl) (fun z => by cases z) (by decide)) (pe_ix (ixL K) (pv 1) pe_int (fun _ _ => rfl)) (fun _ _ => rfl)) (nomark _))))) 
      (pss_one (ps_ret pe_non)) pss_nil)
    (pss_cons (ps_setLc (i := 2) rfl sc_l_due.nd rfl rfl (sw_true rfl rfl rfl (by decide +kernel)) (own := [("_law_word", 3)]) (pi_list (pe_slice (slL K) (pv 1) (po_some pe_int) po_none)) (blkOk_by (N := N_l_due) (sc := defScope s_l_due) (by decide +kernel)) (fun _ _ _ _ _ => (pg_name (i := 3) sc_l_due.nd rfl (.inl rfl))) (fun _ _ _ _ _ => pts_nil) (fun _ _ _ _ _ => (pe_call ok_l_number (hr.mono (by decide)) rfl T.D_l_number.g T.D_l_number.F.kp T.D_l_number.b .nil pass0 (pa_cons (pv 3) pa_nil))))
    (pss_one (ps_ret (pe_ifExp (pt_cmpR (inS K) pe_non (pv 2) (by rfl)) pe_non (pe_callTy (tupOf K) (by rfl) T.z_tuple (by decide +kernel) (pa_cons (pe_op op_cat (pe_slice (slL K) (pv 1) po_none (po_some pe_int)) (pv 2)) pa_nil)))))))), ?_⟩
    have hp : parse x = parseW (Txt.split x sp1) := rfl
    obtain ⟨w1, r, ew⟩ := split_some x
    obtain ⟨f1, f2⟩ := split_few x
    have f3 : ∀ p ∈ Txt.split x sp1, okS (tl p) := fun p hp => split_okS oks hp
    rw [ew] at f1 f2 f3 hp
    have lr : r.length ≤ 900 := by
      rw [List.length_cons] at f1
      omega
    have hpw : parse x = if (decide (V.int (r.length : Nat) = many w1) && r.all okN) = true then some (w1, r.map numV) else none := hp
    refine ⟨_, rfl, ⟨_, rfl⟩, x, sp1, rfl, rfl, ?_, Nat.le_trans (Nat.add_le_add_right few 2) (by decide), fun p np => ?_⟩
    · rw [show sp1.length = 1 from sp1_len]
      rfl
    rw [ew]
    refine newO W (H := H) (p := p) np fun H1 x1 hp1 => ?_
    refine ⟨_, rfl, p, _, _, _, rfl, rfl, SqL.of hp1, atI_nat (j := 0) rfl, by show 2 ≤ sizeLine; decide, fun tp ntp => ?_⟩
    refine newO W (H := H1) (p := tp) ntp fun H2 x2 htp => ?_
    have x02 := x1.trans x2
    refine ⟨tp, _, rfl, .inr (SqT.of htp), rfl, rfl, _, rfl, ?_⟩
    rw [if_pos rfl]
    rcases word_ways w1 with ⟨k, em, ed, ei⟩ | ⟨em, ei⟩
    case inr =>
      rw [ei]
      refine iteT (iteT (qn ?_ H2 x02))
      rw [hpw, em]
      rfl
    rw [ei]
    refine iteF ?_
    have hp2 := x2.lst hp1
    refine ⟨_, rfl, p, _, rfl, .inl (SqL.of hp2), fun dp ndp => ⟨upd_same, dueK, rfl, by decide, ?_⟩⟩
    rw [dueK_merge]
    have x3 : Ext W H2 (upd (upd H2 dp (.dK [])) dp (.dK dueK)) := (Fx.new (W := W) (S := []) ndp).put (.inl ndp) upd_same
    have hdp : (upd (upd H2 dp (.dK [])) dp (.dK dueK)) dp = some (.dK dueK) := upd_same
    revert x3 hdp
    generalize upd (upd H2 dp (.dK [])) dp (.dK dueK) = H3
    intro x3 hdp
    have x03 := x02.trans x3
    have hp3 := x3.lst hp2
    have hg : DGet H3 dp (.str w1) (some (.int ((k : Nat) + 1))) := by
      have := DGet.k (k := Sum.inr w1) hdp
      rw [ed] at this
      exact this
    refine ⟨_, rfl, p, _, _, _, rfl, rfl, SqL.of hp3, atI_nat (j := 0) rfl, dp, _, rfl, hg, rfl, _, rfl, ?_⟩
    rw [List.length_map]
    have hlen : (w1 :: r).length = r.length + 1 := rfl
    rw [hlen]
    by_cases cm : r.length = k
    case neg =>
      rw [decide_eq_false (show ¬ V.int (((r.length + 1 : Nat)) : Int) = V.int ((k : Nat) + 1) from fun z => cm (by have := V.int.inj z; omega))]
      refine iteT (qn ?_ H3 x03)
      rw [hpw, em, decide_eq_false (show ¬ V.int ((r.length : Nat) : Int) = V.int ((k : Nat) : Int) from fun z => cm (by have := V.int.inj z; omega))]
      rfl
    rw [decide_eq_true (show V.int (((r.length + 1 : Nat)) : Int) = V.int ((k : Nat) + 1) by rw [cm]; rfl)]
    refine iteF ?_
    have hpw : parse x = if r.all okN = true then some (w1, r.map numV) else none := by
      rw [hpw, em, decide_eq_true (show V.int ((r.length : Nat) : Int) = V.int ((k : Nat) : Int) by rw [cm]), Bool.true_and]
    have rl : ∀ y ∈ r, y.length ≤ 1000 := fun y hy => by
      have := f2 y (List.mem_cons_of_mem _ hy)
      omega
    refine ⟨_, rfl, 1, rfl, p, _, rfl, SqL.of hp3, fun sl nsl => ?_⟩
    rw [show cutV ((w1 :: r).map V.str) (some 1) none = r.map V.str from cut_i ((w1 :: r).map V.str) 1]
    refine newO W (H := H3) (p := sl) nsl fun H4 x4 hsl => ?_
    refine ⟨sl, rfl, ⟨_, SqL.of hsl⟩, fun D nD => lc_list (K := K) (a := sl) (xs := r.map V.str) (fun j G => Ext W H4 G ∧ G D = some (.lst ((r.take j).map numO))) ⟨.new nD, upd_same⟩ (fun j G _ ⟨x, _⟩ => SqL.of (x.lst hsl)) ?_ ?_⟩
    · rintro j y G hj ⟨xe, hD⟩
      rw [List.getElem?_map] at hj
      obtain ⟨y', hy, rfl⟩ := Option.map_eq_some_iff.mp hj
      have hm := List.mem_of_getElem? hy
      refine ⟨rfl, yesT ?_⟩
      refine ⟨_, rfl, y', rfl, rl y' hm, f3 y' (List.mem_cons_of_mem _ hm), fun G2 y2 => ?_⟩
      have hD2 := y2.lst hD
      refine ⟨_, hD2, ?_, (xe.trans y2).put (.inl nD) hD2, ?_⟩
      · rw [List.length_map, List.length_take]
        exact small1000 (by omega)
      · rw [upd_same, take_one hy, List.map_append]
        rfl
    rintro H5 ⟨x5, hD⟩
    rw [List.length_map, List.take_length] at hD
    have x05 := x03.trans (x4.trans x5)
    have hp5 := (x4.trans x5).lst hp3
    refine ⟨_, rfl, D, _, rfl, .inl (SqL.of hD), rfl, numO_flat r, _, rfl, ?_⟩
    rw [if_neg Bool.false_ne_true, numO_in]
    cases ca : r.all okN with
    | false =>
      refine iteT (qn ?_ H5 x05)
      rw [hpw, ca]
      rfl
    | true =>
      refine iteF ?_
      rw [numO_all ca] at hD
      refine ⟨_, rfl, 1, rfl, p, _, rfl, SqL.of hp5, fun s1 ns1 => ?_⟩
      rw [show cutV ((w1 :: r).map V.str) none (some 1) = [V.str w1] from cut_j ((w1 :: r).map V.str) 1]
      refine newO W (H := H5) (p := s1) ns1 fun H6 x6 hs1 => ?_
      refine ⟨_, rfl, s1, D, _, _, rfl, rfl, hs1, x6.lst hD, ?_, fun s2 ns2 => ?_⟩
      · rw [List.length_map, List.length_map]
        show 1 + r.length ≤ sizeLine
        exact Nat.le_of_lt (small1000 (by omega))
      refine newO W (H := H6) (p := s2) ns2 fun H7 x7 hs2 => ?_
      refine ⟨s2, _, rfl, .inl ⟨SqL.of hs2, fun t nt => ?_⟩⟩
      refine newO W (H := H7) (p := t) nt fun H8 x8 ht => ?_
      have x07 := x05.trans (x6.trans x7)
      exact q w1 (r.map numV) (by rw [hpw, ca]; rfl) t H8 (x07.f _ nt) (x07.trans x8) ht
end
end My

set_option Elab.async false
set_option linter.all false
set_option maxRecDepth 100000
set_option maxHeartbeats 4000000
namespace My
open PySem PySem.Spec PyProof.Rows L2 Own TL
theorem parse_word {x wd : Str} {ns : List Int} (h : parse x = some (wd, ns)) : (wd = wCome ∧ ns.length = 2) ∨ (wd = wGo ∧ ns.length = 1) := by
  unfold parse at h
  obtain ⟨w1, r, ew⟩ := split_some x
  rw [ew] at h
  have h : (if (decide (V.int (r.length : Nat) = many w1) && r.all okN) = true then some (w1, r.map numV) else none) = some (wd, ns) := h
  split at h
  case isFalse => cases h
  case isTrue c =>
    have e := Option.some.inj h
    have e1 : w1 = wd := congrArg Prod.fst e
    have e2 : r.map numV = ns := congrArg Prod.snd e
    subst e1 e2
    rw [Bool.and_eq_true, decide_eq_true_eq] at c
    have c1 := c.1
    rw [List.length_map]
    unfold many at c1
    by_cases k1 : w1 = wCome
    · rw [if_pos k1] at c1
      have := V.int.inj c1
      exact .inl ⟨k1, by omega⟩
    · rw [if_neg k1] at c1
      by_cases k2 : w1 = wGo
      · rw [if_pos k2] at c1
        have := V.int.inj c1
        exact .inr ⟨k2, by omega⟩
      · rw [if_neg k2] at c1
        cases c1
theorem okS_come : okS (tl wCome) := by
  rw [show tl wCome = [99, 111, 109, 101] by
    show tl (Str.ofString "come") = _
    rw [tl_ofString]
    rfl]
  unfold okS
  decide
theorem okS_go : okS (tl wGo) := by
  rw [show tl wGo = [103, 111] by
    show tl (Str.ofString "go") = _
    rw [tl_ofString]
    rfl]
  unfold okS
  decide
/-- a deed as data -/
def deedD (wd : Str) (ns : List Int) : PyData := .tuple (.str wd :: ns.map PyData.int)
theorem deedD_ok {wd : Str} (h : okS (tl wd)) (ns : List Int) : okD 2 (deedD wd ns) := okD.tuple fun d hd => by
  rcases List.mem_cons.mp hd with e | e
  · rw [e]
    exact okD_str h
  · obtain ⟨i, _, rfl⟩ := List.mem_map.mp e
    exact okD_int i
theorem dp_deed {K : PySem.W.Frag} {H : Hp} {t : Addr} {wd : Str} {ns : List Int} (h : SqT K H t (.str wd :: ns.map V.int)) : Dp K H (.ref t) (deedD wd ns) := .tup h (.cons (.str _) (dp_ints _))
theorem okD_bool (b : Bool) : okD 1 (.bool b) := ⟨rfl, by simp [PyData.depth]⟩
def boolsD (bs : List Bool) : PyData := .list (bs.map PyData.bool)
theorem boolsD_ok (bs : List Bool) : okD 2 (boolsD bs) := okD.list fun d hd => by
  obtain ⟨b, _, rfl⟩ := List.mem_map.mp hd
  exact okD_bool b
theorem dp_bools {K : PySem.W.Frag} {H : Hp} {a : Addr} {bs : List Bool} (h : SqL K H a (bs.map V.bl)) : Dp K H (.ref a) (boolsD bs) := by
  refine .lst h ?_
  clear h
  induction bs with
  | nil => exact .nil
  | cons b bs ih => exact .cons (.bl b) ih
theorem all_true (k : Nat) : (List.replicate k true).all id = true := by
  rw [List.all_eq_true]
  intro b hb
  rw [(List.mem_replicate.mp hb).2]
  rfl
section
variable {P : Program} {w : World} {K : PySem.W.Frag} {mg : Str → Option Value} {base : Heap} {W : Tbs}
def spRead (K : PySem.W.Frag) (W : Tbs) : Sp := fun vs H Q _ => ∃ (v : V) (t : String), vs = [v] ∧ TyB K H v t ∧ (∀ x, v = .str x → x.length ≤ 900) ∧
  (∀ x wd ns, v = .str x → parse x = some (wd, ns) → ∀ p H', H p = none → Ext W H H' → H' p = some (.tup (.str wd :: ns.map V.int)) → Q (.ref p) H') ∧
  ((∀ x, v = .str x → parse x = none) → ∀ l H', H l = none → Ext W H H' → H' l = some (.lst ([false, true, true].map V.bl)) → Q (.ref l) H')
theorem ok_l_read (T : Txt K mg) : FnOk P w K mg base CX0 3 T.f_l_read T.d_l_read ["_law_line"] (spRead K W) := by
  have ok_deed_of : FnOk P w K mg base (L2.CX P w) 2 T.f_deed_of T.d_deed_of ["line"] (spDeedOf K W T.E_BadLine) := ok_deed_of T
  refine T.D_l_read.F.ok sc_l_read (fun vs H Q E h => ?_) (fun cdv A outer s H vs Q E hr h => ?_)
  · obtain ⟨v, t, rfl, _⟩ := h
    rfl
  · obtain ⟨v, t, rfl, ht, hx, q, qb⟩ := h
    refine ⟨_, (pss_one (ps_try_as (i := 1) rfl rfl sc_l_read.nd rfl rfl ⟨rfl, by decide, .inl T.x_PairError.g⟩ takes0 (fun W pn xe tk _ => 
      (pss_one (ps_ret (pe_callS ok_deed_of (hr.mono (by decide)) rfl T.D_deed_of.g T.D_deed_of.F.kp T.D_deed_of.b (fun σ => passAt tk σ) (pa_cons (pv 0) pa_nil))))) (fun a oe cls d pn hz hf => 
      (pss_cons (ps_set (i := 2) sc_l_read.nd rfl (.inl rfl) (pe_callB (isEgT K hz hf) (by rfl) T.z_isinstance (by decide +kernel) (pa_cons (pv 1) (pa_cons (pe_tup (pa_cons (pe_glob (v := .ref T.E_BadCount) rfl T.x_BadCount.g rfl) (pa_cons (pe_glob (v := .ref T.E_BadEnd) rfl T.x_BadEnd.g rfl) (pa_cons (pe_glob (v := .ref T.E_BadHue) rfl T.x_BadHue.g rfl) (pa_cons (pe_glob (v := .ref T.E_BadSide) rfl T.x_BadSide.g rfl) (pa_cons (pe_glob (v := .ref T.E_NoPair) rfl T.x_NoPair.g rfl) (pa_cons (pe_glob (v := .ref T.E_NotFree) rfl T.x_NotFree.g rfl) (pa_cons (pe_glob (v := .ref T.E_TooMany) rfl T.x_TooMany.g rfl) pa_nil)))))))) pa_nil))))
      (pss_one (ps_ret (pe_lst (pa_cons (pv 2) (pa_cons (pe_callB (isEg K hz hf) (by rfl) T.z_isinstance (by decide +kernel) (pa_cons (pv 1) (pa_cons (pe_glob (v := .ref T.E_BadLine) rfl T.x_BadLine.g rfl) pa_nil))) (pa_cons (pe_callB (isEg K hz hf) (by rfl) T.z_isinstance (by decide +kernel) (pa_cons (pv 1) (pa_cons (pe_bltn (v := .ty "ValueError") (by rfl) T.z_ValueError (by decide +kernel) rfl) pa_nil))) pa_nil)))))))))), ?_⟩
    refine ⟨_, rfl, v, t, rfl, ht, hx, q, fun hn H1 x1 => ?_⟩
    refine ⟨true, T.e_BadLine_PairError, fun _ u nu => ?_, fun z => by cases z⟩
    refine ⟨_, rfl, by show 7 ≤ sizeLine; decide, fun tp ntp => ?_⟩
    refine newO W (H := H1) (p := tp) ntp fun H2 x2 htp => ?_
    refine ⟨_, tp, _, [.ref T.E_BadCount, .ref T.E_BadEnd, .ref T.E_BadHue, .ref T.E_BadSide, .ref T.E_NoPair, .ref T.E_NotFree, .ref T.E_TooMany], false, rfl, rfl, T.q_BadLine, rfl, htp, ?_, ?_, ?_⟩
    · exact .cons (.own _) (.cons (.own _) (.cons (.own _) (.cons (.own _) (.cons (.own _) (.cons (.own _) (.cons (.own _) .nil))))))
    · simp only [PySem.W.kitAny, T.i_BadLine_BadCount, T.i_BadLine_BadEnd, T.i_BadLine_BadHue, T.i_BadLine_BadSide, T.i_BadLine_NoPair, T.i_BadLine_NotFree, T.i_BadLine_TooMany]
    refine ⟨_, rfl, _, rfl, _, rfl, rfl, T.q_BadLine, _, _, _, rfl, fun u h => h, T.i_BadLine_BadLine, _, rfl, _, rfl, rfl, T.q_BadLine, _, _, _, rfl, fun u h => h, T.i_BadLine_ValueError, by show 3 ≤ sizeLine; decide, fun l nl => ?_⟩
    refine newO W (H := H2) (p := l) nl fun H3 x3 hl => ?_
    have x02 := x1.trans x2
    exact qb hn l H3 (x02.f _ nl) (x02.trans x3) hl
def spRight (K : PySem.W.Frag) (W : Tbs) : Sp := fun vs H Q _ => ∃ (v d : V) (t : String), vs = [v, d] ∧ TyB K H v t ∧ (∀ x, v = .str x → x.length ≤ 900) ∧
  (((∀ x, v = .str x → parse x = none) ∧ d = .non) ∨ ∃ (x wd : Str) (ns : List Int) (t2 : Addr), v = .str x ∧ parse x = some (wd, ns) ∧ d = .ref t2 ∧ SqT K H t2 (.str wd :: ns.map V.int)) ∧
  ∀ H', Ext W H H' → Q (.bl true) H'
theorem ok_l_right (T : Txt K mg) : FnOk P w K mg base CX0 4 T.f_l_right T.d_l_right ["_law_line", "_law_due_here"] (spRight K W) := by
  have ok_l_read : FnOk P w K mg base CX0 3 T.f_l_read T.d_l_read ["_law_line"] (spRead K W) := ok_l_read T
  have ok_l_whole : FnOk P w K mg base CX0 1 T.f_l_whole T.d_l_whole ["_law_found"] (spLWhole K) := ok_l_whole T
  refine T.D_l_right.F.ok sc_l_right (fun vs H Q E h => ?_) (fun cdv A outer s H vs Q E hr h => ?_)
  · obtain ⟨v, d, t, rfl, _⟩ := h
    rfl
  · obtain ⟨v, d, t, rfl, ht, hx, hd, q⟩ := h
    refine ⟨_, (pss_cons (ps_set (i := 2) sc_l_right.nd rfl (.inl rfl) (pe_call ok_l_read (hr.mono (by decide)) rfl T.D_l_read.g T.D_l_read.F.kp T.D_l_read.b .nil pass0 (pa_cons (pv 0) pa_nil)))
    (pss_cons (ps_if (pt_cmpR op_isN (pv 1) pe_non (nomark _)) 
      (pss_one (ps_ret (pe_cmpR (eqD K hr.units) (pv 2) (pe_lst (pa_cons pe_bl (pa_cons pe_bl (pa_cons pe_bl pa_nil)))) (nomark _)))) pss_nil)
    (pss_one (ps_ret (pe_and (pe_callB (isiO K) (by rfl) T.z_isinstance (by decide +kernel) (pa_cons (pv 2) (pa_cons (pe_bltn (v := .ty "tuple") (by rfl) T.z_tuple (by decide +kernel) rfl) pa_nil))) (pe_and (pe_cmpR (eqD K hr.units) (pv 2) (pv 1) (nomark _)) (pe_one (pe_callB (allL K rfl) (by rfl) T.z_all (by decide +kernel) (pa_cons (pe_lc rfl sc_l_right.nd (own := [("_law_number_here", 3)]) (pi_tup (pe_slice (slT K) (pv 2) (po_some pe_int) po_none)) (blkOk_by (N := N_l_right) (sc := defScope s_l_right) (by decide +kernel)) (fun _ _ _ _ _ => (pg_name (i := 3) sc_l_right.nd rfl (.inl rfl))) (fun _ _ _ _ _ => pts_nil) (fun _ _ _ _ _ => (pe_call ok_l_whole (hr.mono (by decide)) rfl T.D_l_whole.g T.D_l_whole.F.kp T.D_l_whole.b .nil pass0 (pa_cons (pv 3) pa_nil)))) pa_nil))))))))), ?_⟩
    refine ⟨_, rfl, v, t, rfl, ht, hx, fun x wd ns ev hp p H1 np x1 hp1 => ?ok, fun hn l H1 nl x1 hl => ?no⟩
    case no =>
      rcases hd with ⟨_, rfl⟩ | ⟨x, wd, ns, t2, ev, hp, rfl, hq⟩
      · refine ⟨_, rfl, rfl, _, rfl, iteT ?_⟩
        refine ⟨_, rfl, by show 3 ≤ sizeLine; decide, fun l2 nl2 => ?_⟩
        refine newO W (H := H1) (p := l2) nl2 fun H2 x2 hl2 => ?_
        refine ⟨boolsD [false, true, true], boolsD [false, true, true], dp_bools (SqL.of (x2.lst hl)), dp_bools (SqL.of hl2), (boolsD_ok _).shaped, (boolsD_ok _).shaped, ?_⟩
        rw [eqv_same _ (boolsD_ok _).1]
        exact q _ (x1.trans x2)
      · rw [hn x ev] at hp
        cases hp
    case ok =>
      rcases hd with ⟨hn, rfl⟩ | ⟨x', wd', ns', t2, ev', hp', rfl, hq⟩
      · rw [hn x ev] at hp
        cases hp
      · rw [ev'] at ev
        cases V.str.inj ev
        rw [hp'] at hp
        have e := Option.some.inj hp
        obtain rfl : wd' = wd := congrArg Prod.fst e
        obtain rfl : ns' = ns := congrArg Prod.snd e
        have ow : okS (tl wd') := by
          rcases parse_word hp' with ⟨e, _⟩ | ⟨e, _⟩
          · rw [e]
            exact okS_come
          · rw [e]
            exact okS_go
        have lns : ns'.length ≤ 2 := by
          rcases parse_word hp' with ⟨_, e⟩ | ⟨_, e⟩ <;> omega
        refine ⟨_, rfl, rfl, _, rfl, iteF ?_⟩
        refine ⟨_, rfl, _, _, _, _, true, rfl, ClsV.ty _, .base (.tup hp1), kit_ty (by decide +kernel), ⟨_, rfl, iteT ?_⟩⟩
        refine ⟨_, rfl, _, rfl, deedD wd' ns', deedD wd' ns', dp_deed (SqT.of hp1), dp_deed (x1.tup hq), (deedD_ok ow _).shaped, (deedD_ok ow _).shaped, ?_⟩
        rw [eqv_same _ (deedD_ok ow _).1]
        refine ⟨_, rfl, iteT ?_⟩
        refine ⟨_, rfl, 1, rfl, p, _, rfl, SqT.of hp1, fun z => ?_, fun s1 ns1 => ?_⟩
        · have z1 := z.1
          rw [show (some (1 : Int)) = some ((1 : Nat) : Int) from rfl, HT.sIx_nat, List.length_cons] at z1
          omega
        rw [show cutV (V.str wd' :: ns'.map V.int) (some 1) none = ns'.map V.int from cut_i (V.str wd' :: ns'.map V.int) 1]
        refine newO W (H := H1) (p := s1) ns1 fun H2 x2 hs1 => ?_
        refine ⟨s1, rfl, ⟨_, SqT.of hs1⟩, fun D nD => lc_tup (K := K) (a := s1) (xs := ns'.map V.int) (fun j G => Ext W H2 G ∧ G D = some (.lst ((List.replicate j true).map V.bl))) ⟨.new nD, upd_same⟩ (fun j G _ ⟨x, _⟩ => x.tup (SqT.of hs1)) ?_ ?_⟩
        · rintro j y G hj ⟨xe, hD⟩
          have lt := (List.getElem?_eq_some_iff.mp hj).1
          rw [List.length_map] at lt
          rw [List.getElem?_map] at hj
          obtain ⟨i, hi, rfl⟩ := Option.map_eq_some_iff.mp hj
          refine ⟨rfl, yesT ?_⟩
          refine ⟨_, rfl, _, rfl, .inl ⟨_, rfl, _, hD, ?_, xe.put (.inl nD) hD, ?_⟩⟩
          · rw [List.length_map, List.length_replicate]
            exact small1000 (by omega)
          · rw [upd_same, List.replicate_succ', List.map_append]
            rfl
        rintro G ⟨x3, hD⟩
        refine ⟨D, _, rfl, SqL.of hD, ?_⟩
        rw [all_true]
        exact q _ (x1.trans (x2.trans x3))
end
end My

set_option Elab.async false
set_option linter.all false
namespace Mt
open K08 (count most ends)
/-! all pairs of one hue, and what is left without them -/
theorem hue_in {R : List Pr} (N : (R.map (·.n)).Nodup) {p : Pr} (hp : p ∈ R) {h : Nat} : p.n ∈ ofHue R h ↔ p.h = h := by
  rw [mem_ofHue]
  exact ⟨fun ⟨q, hq, e1, e2⟩ => by rw [← n_inj N hq hp e1]; exact e2, fun e => ⟨p, hp, rfl, e⟩⟩
theorem hue_some {R : List Pr} (G : Good R) {h : Nat} (hh : h < cnt R) : ofHue R h ≠ [] := by
  rcases cnt_at R with ⟨z, _⟩ | ⟨s, e, hs, _, z⟩
  · omega
  · obtain ⟨p, hp, _, e2⟩ := G.full hs z hh
    exact List.ne_nil_of_mem ((hue_in G.N hp).mpr e2)
def endOf (R : List Pr) (s x : Nat) : Nat := match pairOf R x with
  | some p => p.e s
  | none => 0
theorem endOf_is {R : List Pr} (N : (R.map (·.n)).Nodup) {p : Pr} (hp : p ∈ R) (s : Nat) : endOf R s p.n = p.e s := by
  unfold endOf
  rw [pairOf_is N hp]
theorem hue_ends {R : List Pr} (G : Good R) {s : Nat} (hs : s < 2) (h : Nat) : ((ofHue R h).map (endOf R s)).Nodup := by
  rw [List.nodup_iff_pairwise_ne, List.pairwise_map]
  refine List.Pairwise.imp_of_mem (fun ha hb hn z => hn ?_) (List.nodup_iff_pairwise_ne.mp (ofHue_nodup G.N h))
  obtain ⟨p, hp, e1, e2⟩ := mem_ofHue.mp ha
  obtain ⟨q, hq, f1, f2⟩ := mem_ofHue.mp hb
  rw [← e1, ← f1, endOf_is G.N hp, endOf_is G.N hq] at z
  rw [← e1, ← f1, G.P p hp q hq s hs z (e2.trans f2.symm)]
theorem hue_full {R : List Pr} (G : Good R) {s e h : Nat} (hs : s < 2) (hd : deg R s e = cnt R) (hh : h < cnt R) : e ∈ (ofHue R h).map (endOf R s) := by
  obtain ⟨p, hp, e1, e2⟩ := G.full hs hd hh
  exact List.mem_map.mpr ⟨p.n, (hue_in G.N hp).mpr e2, by rw [endOf_is G.N hp, e1]⟩
def noHue (R : List Pr) (h : Nat) : List Pr := R.filter fun p => decide (p.h ≠ h)
def atHue (R : List Pr) (s e h : Nat) : List Pr := R.filter fun p => decide (p.e s = e) && decide (p.h = h)
theorem noHue_deg (R : List Pr) (s e h : Nat) : deg R s e = deg (noHue R h) s e + (atHue R s e h).length := by
  rw [deg_filter, deg_filter]
  unfold noHue atHue
  induction R with
  | nil => rfl
  | cons p R ih =>
    rw [List.filter_cons, List.filter_cons, List.filter_cons]
    by_cases c1 : p.e s = e <;> by_cases c2 : p.h = h <;> simp [c1, c2, List.filter_cons] at ih ⊢ <;> omega
theorem nodup_of_n {R : List Pr} (N : (R.map (·.n)).Nodup) : R.Nodup := by
  rw [List.nodup_iff_pairwise_ne, List.pairwise_map] at N
  exact List.nodup_iff_pairwise_ne.mpr (N.imp fun h z => h (by rw [z]))
theorem atHue_le {R : List Pr} (G : Good R) {s : Nat} (hs : s < 2) (e h : Nat) : (atHue R s e h).length ≤ 1 := by
  have nd : (atHue R s e h).Nodup := List.filter_sublist.nodup (nodup_of_n G.N)
  have one : ∀ p ∈ atHue R s e h, ∀ q ∈ atHue R s e h, p = q := fun p hp q hq => by
    obtain ⟨a1, a2⟩ := List.mem_filter.mp hp
    obtain ⟨b1, b2⟩ := List.mem_filter.mp hq
    simp only [Bool.and_eq_true, decide_eq_true_eq] at a2 b2
    exact G.P p a1 q b1 s hs (a2.1.trans b2.1.symm) (a2.2.trans b2.2.symm)
  match hl : atHue R s e h with
  | [] => simp
  | [_] => simp
  | p :: q :: r =>
    rw [hl] at nd one
    have := one p List.mem_cons_self q (List.mem_cons_of_mem _ List.mem_cons_self)
    rw [this] at nd
    simp at nd
theorem noHue_cnt {R : List Pr} (G : Good R) {h : Nat} (hh : h < cnt R) : cnt (noHue R h) + 1 = cnt R := by
  have hi : cnt (noHue R h) + 1 ≤ cnt R := by
    rcases cnt_at (noHue R h) with ⟨z, _⟩ | ⟨s, e, hs, _, z⟩
    · omega
    · have a := noHue_deg R s e h
      have b := deg_le R (s := s) (e := e) hs
      by_cases c : deg R s e = cnt R
      · obtain ⟨p, hp, e1, e2⟩ := G.full hs c hh
        have : 0 < (atHue R s e h).length := List.length_pos_iff.mpr (List.ne_nil_of_mem (List.mem_filter.mpr ⟨hp, by simp [e1, e2]⟩))
        omega
      · omega
  have lo : cnt R ≤ cnt (noHue R h) + 1 := by
    rcases cnt_at R with ⟨z, _⟩ | ⟨s, e, hs, _, z⟩
    · omega
    · have a := noHue_deg R s e h
      have b := atHue_le G hs e h
      have c := deg_le (noHue R h) (s := s) (e := e) hs
      omega
  omega
/-- without these numbers -/
def noN (E : List (Nat × Nat × Nat)) (xs : List Nat) : List (Nat × Nat × Nat) := E.filter fun t => decide (t.1 ∉ xs)
theorem noN_nil (E : List (Nat × Nat × Nat)) : noN E [] = E := by
  unfold noN
  exact List.filter_eq_self.mpr fun t _ => by simp
theorem noN_snoc (E : List (Nat × Nat × Nat)) (xs : List Nat) (x : Nat) : noN E (xs ++ [x]) = (noN E xs).filter fun t => decide (t.1 ≠ x) := by
  unfold noN
  rw [List.filter_filter]
  refine List.filter_congr fun t _ => ?_
  rw [Bool.eq_iff_iff]
  simp
  constructor
  · exact fun h => ⟨h.2, h.1⟩
  · exact fun h => ⟨h.2, h.1⟩
theorem noN_hue {R : List Pr} (N : (R.map (·.n)).Nodup) {h : Nat} {xs : List Nat} (e : ∀ x, x ∈ xs ↔ x ∈ ofHue R h) : noN (R.map nlr) xs = (noHue R h).map nlr := by
  unfold noN noHue
  rw [List.filter_map]
  congr 1
  refine List.filter_congr fun p hp => ?_
  show decide (p.n ∉ xs) = decide (p.h ≠ h)
  rw [Bool.eq_iff_iff, decide_eq_true_eq, decide_eq_true_eq, e, hue_in N hp]
theorem drop_nlr (R : List Pr) (x : Nat) : (drop R x).map nlr = (R.map nlr).filter fun t => decide (t.1 ≠ x) := by
  unfold drop
  rw [List.filter_map]
  rfl
theorem go_nlr {R : List Pr} (G : Good R) {E : List (Nat × Nat × Nat)} {xs : List Nat} {x : Nat} (h : (R.map nlr).Perm (noN E xs)) (hx : x ∈ R.map (·.n)) : ((go R x).2.map nlr).Perm (noN E (xs ++ [x])) := by
  refine (go_ok G hx).2.trans ?_
  rw [drop_nlr, noN_snoc]
  exact h.filter _
theorem in_noN {R : List Pr} {E : List (Nat × Nat × Nat)} {xs : List Nat} (h : (R.map nlr).Perm (noN E xs)) {x : Nat} (h1 : x ∈ E.map (·.1)) (h2 : x ∉ xs) : x ∈ R.map (·.n) := by
  rw [map_n]
  obtain ⟨t, ht, e⟩ := List.mem_map.mp h1
  refine List.mem_map.mpr ⟨t, h.mem_iff.mpr (List.mem_filter.mpr ⟨ht, decide_eq_true ?_⟩), e⟩
  rw [e]
  exact h2
theorem nil_of_cnt {R : List Pr} (h : cnt R = 0) : R = [] := by
  rcases cnt_at R with ⟨_, z⟩ | ⟨s, e, hs, ⟨p, hp, e1⟩, z⟩
  · exact z
  · exfalso
    rw [h] at z
    have : 0 < deg R s e := by
      unfold deg
      exact List.count_pos_iff.mpr (List.mem_map.mpr ⟨p, hp, e1⟩)
    omega
end Mt

set_option Elab.async false
set_option linter.all false
set_option maxRecDepth 100000
namespace Own
open PySem PySem.Spec PyProof.Rows L2 Mt
/-! a dict of ends by the numbers of pairs -/
section
variable {K : PySem.W.Frag} {H H' : Hp} {W : Tbs} {S : List Addr}
abbrev T3 := Nat × Nat × Nat
def endsV (t : T3) : List V := [.int (t.2.1 : Nat), .int (t.2.2 : Nat)]
def endsI (t : T3) : List Int := [(t.2.1 : Int), (t.2.2 : Int)]
def EEnt (K : PySem.W.Frag) (H : Hp) (kv : Key × V) (t : T3) : Prop := ∃ a : Addr, kv = (Sum.inl (t.1 : Int), .ref a) ∧ SqT K H a (endsV t)
abbrev EEach (K : PySem.W.Frag) (H : Hp) : List (Key × V) → List T3 → Prop := Paired (EEnt K H)
theorem Fx.eeach (x : Fx W S H H') {kvs : List (Key × V)} {E : List T3} (h : EEach K H kvs E) : EEach K H' kvs E :=
  Paired.mapP h fun _ _ ⟨a, e, t⟩ => ⟨a, e, x.tup t⟩
theorem EEach.len {kvs : List (Key × V)} {E : List T3} (h : EEach K H kvs E) : kvs.length = E.length := Paired.length h
theorem EEach.keys : ∀ {kvs : List (Key × V)} {E : List T3}, EEach K H kvs E → kvs.map (·.1) = E.map (fun t => (Sum.inl (t.1 : Int) : Key))
  | _, _, .nil => rfl
  | _, _, .cons ⟨a, e, _⟩ t => by
    rw [List.map_cons, List.map_cons, EEach.keys t, e]
theorem EEach.keyN {kvs : List (Key × V)} {E : List T3} (h : EEach K H kvs E) : kvs.map (·.1) = ((E.map (·.1)).map fun n : Nat => (n : Int)).map Sum.inl := by
  rw [h.keys, List.map_map, List.map_map]
  rfl
theorem EEach.vals : ∀ {kvs : List (Key × V)} {E : List T3}, EEach K H kvs E → ∃ as : List Addr, kvs.map (·.2) = as.map V.ref ∧ Each K H as (E.map endsI)
  | _, _, .nil => ⟨[], rfl, .nil⟩
  | _, _, .cons ⟨a, e, t⟩ r => by
    obtain ⟨as, h1, h2⟩ := EEach.vals r
    exact ⟨a :: as, by rw [List.map_cons, h1, e]; rfl, .cons t h2⟩
theorem EEach.val : ∀ {kvs : List (Key × V)} {E : List T3} {x : Nat}, EEach K H kvs E → (x ∉ E.map (·.1) ∧ valV kvs (Sum.inl (x : Int)) = none) ∨
    ∃ t a, t ∈ E ∧ t.1 = x ∧ valV kvs (Sum.inl (x : Int)) = some (.ref a) ∧ SqT K H a (endsV t)
  | _, _, x, .nil => .inl ⟨by simp, rfl⟩
  | _, _, x, .cons (b := p) ⟨a, e, t⟩ r => by
    by_cases c : p.1 = x
    · refine .inr ⟨p, a, List.mem_cons_self, c, ?_, t⟩
      rw [e]
      exact valV_pos (by rw [c])
    · have n1 : ¬ (Sum.inl (p.1 : Int) : Key) = Sum.inl (x : Int) := fun z => c (by have := Sum.inl.inj z; omega)
      rw [e, valV_neg n1]
      rcases EEach.val (x := x) r with ⟨h1, h2⟩ | ⟨t, b, h1, h2, h3, h4⟩
      · refine .inl ⟨?_, h2⟩
        rw [List.map_cons, List.mem_cons, not_or]
        exact ⟨fun z => c z.symm, h1⟩
      · exact .inr ⟨t, b, List.mem_cons_of_mem _ h1, h2, h3, h4⟩
theorem EEach.no {kvs : List (Key × V)} {E : List T3} (h : EEach K H kvs E) {x : Nat} (hx : x ∉ E.map (·.1)) : valV kvs (Sum.inl (x : Int)) = none := by
  rcases h.val (x := x) with ⟨_, h2⟩ | ⟨t, a, h1, h2, _⟩
  · exact h2
  · exact absurd (List.mem_map.mpr ⟨t, h1, h2⟩) hx
theorem t3_inj {E : List T3} (N : (E.map (·.1)).Nodup) {p q : T3} (hp : p ∈ E) (hq : q ∈ E) (e : p.1 = q.1) : p = q := by
  induction E with
  | nil => cases hp
  | cons a r ih =>
    have N' : (a.1 :: r.map (·.1)).Nodup := N
    obtain ⟨h1, h2⟩ := List.nodup_cons.mp N'
    rcases List.mem_cons.mp hp with z | z
    · rcases List.mem_cons.mp hq with y | y
      · rw [z, y]
      · exact absurd (List.mem_map.mpr ⟨q, y, by rw [← e, z]⟩) h1
    · rcases List.mem_cons.mp hq with y | y
      · exact absurd (List.mem_map.mpr ⟨p, z, by rw [e, y]⟩) h1
      · exact ih h2 z y
theorem EEach.in {kvs : List (Key × V)} {E : List T3} (h : EEach K H kvs E) (N : (E.map (·.1)).Nodup) {t : T3} (ht : t ∈ E) : ∃ a, valV kvs (Sum.inl (t.1 : Int)) = some (.ref a) ∧ SqT K H a (endsV t) := by
  rcases h.val (x := t.1) with ⟨h1, _⟩ | ⟨q, a, h1, h2, h3, h4⟩
  · exact absurd (List.mem_map.mpr ⟨t, ht, rfl⟩) h1
  · rw [t3_inj N h1 ht h2] at h4
    exact ⟨a, h3, h4⟩
theorem EEach.snoc {kvs : List (Key × V)} {E : List T3} (h : EEach K H kvs E) {t : T3} {a : Addr} (hp : t.1 ∉ E.map (·.1)) (ha : SqT K H a (endsV t)) :
    EEach K H (putK kvs (Sum.inl (t.1 : Int)) (.ref a)) (E ++ [t]) := by
  rw [putK_new _ (h.no hp)]
  exact papp h (.cons ⟨a, rfl, ha⟩ .nil)
theorem EEach.drop {kvs : List (Key × V)} {E : List T3} (h : EEach K H kvs E) (x : Nat) : EEach K H (dropK kvs (Sum.inl (x : Int))) (E.filter fun t => decide (t.1 ≠ x)) := by
  unfold dropK
  induction h with
  | nil => exact .nil
  | @cons kv p ps qs g t ih =>
    rw [List.filter_cons, List.filter_cons]
    obtain ⟨b, rfl, tb⟩ := g
    by_cases c : p.1 = x
    · rw [if_neg (by simp [c]), if_neg (by simp [c])]
      exact ih
    · have n1 : ¬ (Sum.inl (p.1 : Int) : Key) = Sum.inl (x : Int) := fun z => c (by have := Sum.inl.inj z; omega)
      rw [if_pos (decide_eq_true n1), if_pos (decide_eq_true c)]
      exact .cons ⟨b, rfl, tb⟩ ih
theorem mergeK_app : ∀ (more kvs : List (Key × V)), ((kvs ++ more).map (·.1)).Nodup → mergeK kvs more = kvs ++ more
  | [], kvs, _ => by rw [List.append_nil]; rfl
  | p :: more, kvs, N => by
    have e : mergeK kvs (p :: more) = mergeK (putK kvs p.1 p.2) more := rfl
    have n : valV kvs p.1 = none := by
      unfold valV
      rw [List.find?_eq_none.mpr fun q hq => ?_]
      · rfl
      · intro z
        have z := of_decide_eq_true z
        rw [List.map_append, List.nodup_append] at N
        exact N.2.2 _ (List.mem_map.mpr ⟨q, hq, rfl⟩) _ (List.mem_map.mpr ⟨p, List.mem_cons_self, rfl⟩) z
    rw [e, putK_new _ n, mergeK_app more _ (by rw [List.append_assoc]; exact N), List.append_assoc]
    rfl
theorem EEach.merge {kvs : List (Key × V)} {E : List T3} (h : EEach K H kvs E) (N : (E.map (·.1)).Nodup) : mergeK [] kvs = kvs := by
  refine mergeK_app kvs [] ?_
  rw [List.nil_append, h.keys]
  have e : (E.map fun t => (Sum.inl (t.1 : Int) : Key)) = (E.map (·.1)).map (fun n : Nat => (Sum.inl (n : Int) : Key)) := by
    rw [List.map_map]
    rfl
  rw [e, List.nodup_iff_pairwise_ne, List.pairwise_map]
  exact (List.nodup_iff_pairwise_ne.mp N).imp fun h z => h (by have := Sum.inl.inj z; omega)
theorem endsI_len (E : List T3) : ∀ r ∈ E.map endsI, 2 ≤ r.length := by
  intro r hr
  obtain ⟨t, _, rfl⟩ := List.mem_map.mp hr
  exact Nat.le_refl 2
end
/-- a dict at f holds these ends -/
structure DEnds (K : PySem.W.Frag) (H : Hp) (f : Addr) (E : List T3) : Prop where
  ex : ∃ kvs, H f = some (.dK kvs) ∧ EEach K H kvs E
theorem DEnds.ext {K : PySem.W.Frag} {H H' : Hp} {W : Tbs} {S : List Addr} {f : Addr} {E : List T3} (h : DEnds K H f E) (x : Fx W S H H') (n : f ∉ S := by simp) : DEnds K H' f E :=
  let ⟨kvs, h1, h2⟩ := h.ex
  ⟨kvs, x.dk h1 n, x.eeach h2⟩
end Own

set_option Elab.async false
set_option linter.all false
set_option maxRecDepth 100000
set_option maxHeartbeats 4000000
namespace My
open PySem PySem.Spec PyProof.Rows L2 Own TL
/-- a deed that the law draws -/
def isDeed (wd : Str) (ns : List Nat) : Prop := ((wd = wCome ∧ ns.length = 2) ∨ (wd = wGo ∧ ns.length = 1)) ∧ ∀ n ∈ ns, n < 10 ^ 30
theorem cut_mem {z : Str} {lo hi : Option Int} {c : Nat} (h : c ∈ tl (cutS z lo hi)) : c ∈ tl z := by
  unfold cutS at h
  exact List.mem_of_mem_drop (List.mem_of_mem_take h)
theorem cut_okS {z : Str} {lo hi : Option Int} (h : okS (tl z)) : okS (tl (cutS z lo hi)) := fun c hc => h c (cut_mem hc)
theorem app_okS {x y : Str} (h : okS (tl x)) (g : okS (tl y)) : okS (tl (x ++ y)) := fun c hc => by
  rw [tl_append] at hc
  rcases List.mem_append.mp hc with z | z
  · exact h c z
  · exact g c z
theorem one_okS {c : Nat} (h : c < 1114112) : okS (tl (⟨#[c]⟩ : Str)) := fun d hd => by
  have hd : d ∈ [c] := hd
  rw [List.mem_singleton.mp hd]
  exact h
theorem mod_nat (x : Int) {m : Int} (hm : 0 < m) : ∃ k : Nat, x % m = (k : Nat) ∧ (k : Int) < m := by
  have h0 := Int.emod_nonneg x (show m ≠ 0 by omega)
  have h1 := Int.emod_lt_of_pos x hm
  exact ⟨(x % m).toNat, by omega, by omega⟩
section
variable {P : Program} {w : World} {K : PySem.W.Frag} {mg : Str → Option Value} {base : Heap} {W : Tbs}
def spDeed10 (K : PySem.W.Frag) (W : Tbs) : Sp := fun vs H Q _ => ∃ (a : Addr) (ns : List Int), vs = [.ref a] ∧ SqL K H a (ns.map V.int) ∧
  ∀ (t : Addr) (wd : Str) (ms : List Nat) (H' : Hp), isDeed wd ms → Ext W H H' → SqT K H' t (itemsV wd ms) → Q (.ref t) H'
theorem ok_l_deed (T : Txt K mg) : FnOk P w K mg base CX0 2 T.f_l_deed T.d_l_deed ["_law_script"] (spDeed10 K W) := by
  have ok_l_cell_at : FnOk P w K mg base CX0 1 T.f_l_cell_at T.d_l_cell_at ["_law_script", "_law_k"] (spDraw K) := ok_l_cell_at T
  refine T.D_l_deed.F.ok sc_l_deed (fun vs H Q E h => ?_) (fun cdv A outer s H vs Q E hr h => ?_)
  · obtain ⟨a, ns, rfl, _⟩ := h
    rfl
  · obtain ⟨a, ns, rfl, hS, q⟩ := h
    refine ⟨_, (pss_cons (ps_set (i := 1) sc_l_deed.nd rfl (.inl rfl) (pe_lst pa_nil))
    (pss_cons (ps_for PassesOwn.never rfl (pi_range1 rfl T.z_range (pa_cons pe_int pa_nil)) (pg_name (i := 2) sc_l_deed.nd rfl (.inl rfl)) 
      (pss_cons (ps_set (i := 3) sc_l_deed.nd rfl (.inl rfl) (pe_call ok_l_cell_at (hr.mono (by decide)) rfl T.D_l_cell_at.g T.D_l_cell_at.F.kp T.D_l_cell_at.b .nil pass0 (pa_cons (pv 0) (pa_cons (pe_op op_add pe_int (pv 2)) pa_nil))))
      (pss_one (ps_expr (bmC K (pe_bm PySem.F.plainAttrs_list PySem.F.slot_list_append PySem.F.type_list_append mt_append (pv 1) (pa_cons (pe_ix (ixL K) (pe_lst (pa_cons (pe_op op_mod (pe_op op_fdiv (pv 3) pe_int) pe_int) (pa_cons (pe_op op_mod (pe_op op_fdiv (pv 3) pe_int) (pe_op op_pow pe_int pe_int)) (pa_cons (pe_op op_mod (pe_op op_fdiv (pv 3) pe_int) pe_int) pa_nil)))) (pe_op op_mod (pv 3) pe_int) (fun _ _ => rfl)) pa_nil)))))))
    (pss_one (ps_ret (pe_ix (ixL K) (pe_lst (pa_cons (pe_tup (pa_cons pe_str (pa_cons (pe_ix (ixL K) (pv 1) pe_int (fun _ _ => rfl)) (pa_cons (pe_ix (ixL K) (pv 1) pe_int (fun _ _ => rfl)) pa_nil)))) (pa_cons (pe_tup (pa_cons pe_str (pa_cons (pe_ix (ixL K) (pv 1) pe_int (fun _ _ => rfl)) pa_nil))) pa_nil))) (pe_op op_mod (pe_call ok_l_cell_at (hr.mono (by decide)) rfl T.D_l_cell_at.g T.D_l_cell_at.F.kp T.D_l_cell_at.b .nil pass0 (pa_cons (pv 0) (pa_cons pe_int pa_nil))) pe_int) (fun _ _ => rfl)))))), ?_⟩
    refine ⟨by show 0 ≤ sizeLine; decide, fun F nF => ?_⟩
    refine newO W (H := H) (p := F) nF fun H1 x1 hF => ?_
    refine ⟨_, rfl, by decide, by decide, for_range (lo := 0) (n := 2) (fun i σ G => ∃ (v2 v3 : Option V) (fs : List Nat), σ = [some (.ref a), some (.ref F), v2, v3] ∧ Ext W H G ∧ G F = some (.lst (vN fs)) ∧ fs.length = i ∧ ∀ n ∈ fs, n < 10 ^ 30)
      ⟨none, none, [], rfl, x1, hF, rfl, fun n hn => absurd hn (by simp)⟩ ?_ ?_⟩
    · rintro i σ G hi ⟨v2, v3, fs, rfl, x, hG, lf, hb⟩
      have ez : ((0 : Int) + (i : Nat)) = (i : Nat) := by omega
      rw [ez]
      refine ⟨_, rfl, _, rfl, _, _, rfl, rfl, ?_⟩
      have e1i : (1 : Int) + (i : Nat) = ((1 + i : Nat) : Int) := by omega
      refine ⟨a, ns, 1 + i, by
        show [V.ref a, V.int ((1 : Int) + (i : Nat))] = _
        rw [e1i], x.seq hS, ?_⟩
      generalize ns.getD (1 + i) 0 = c
      obtain ⟨k1, e1, b1⟩ := mod_nat (c / 3) (m := 12) (by decide)
      obtain ⟨k2, e2, b2⟩ := mod_nat (c / 3) (m := 10 ^ 30) (by decide)
      obtain ⟨k3, e3, b3⟩ := mod_nat (c / 3) (m := 1000) (by decide)
      obtain ⟨k4, e4, b4⟩ := mod_nat c (m := 3) (by decide)
      refine ⟨_, rfl, .inl ⟨rfl, _, SqL.of hG⟩, ?_⟩
      refine ⟨_, rfl, _, _, rfl, rfl, ⟨by decide, by decide⟩, _, _, rfl, rfl, (by show (0 : Int) < 12; decide), ?_⟩
      dsimp only
      rw [e1]
      refine ⟨_, rfl, _, _, rfl, rfl, ⟨by decide, by decide⟩, _, _, rfl, rfl, ⟨by decide, by decide, by decide⟩, _, _, rfl, rfl, (by show (0 : Int) < 10 ^ (30 : Int).toNat; decide), ?_⟩
      dsimp only
      rw [show (10 : Int) ^ (30 : Int).toNat = 10 ^ 30 from rfl, e2]
      refine ⟨_, rfl, _, _, rfl, rfl, ⟨by decide, by decide⟩, _, _, rfl, rfl, (by show (0 : Int) < 1000; decide), ?_⟩
      dsimp only
      rw [e3]
      refine ⟨by show 3 ≤ sizeLine; decide, fun p np => ?_⟩
      refine newO W (H := G) (p := p) np fun G1 y1 hp => ?_
      refine ⟨_, rfl, _, _, rfl, rfl, (by show (0 : Int) < 3; decide), ?_⟩
      dsimp only
      rw [e4]
      obtain ⟨n, hn, bn⟩ : ∃ n : Nat, ([V.int (k1 : Nat), .int (k2 : Nat), .int (k3 : Nat)] : List V)[k4]? = some (V.int (n : Nat)) ∧ n < 10 ^ 30 := by
        match k4, b4 with
        | 0, _ => exact ⟨k1, rfl, by omega⟩
        | 1, _ => exact ⟨k2, rfl, by omega⟩
        | 2, _ => exact ⟨k3, rfl, by omega⟩
        | n + 3, h => exact absurd h (by omega)
      have hG1 := y1.lst hG
      refine ⟨p, _, _, _, rfl, rfl, SqL.of hp, atI_nat hn, F, _, _, rfl, rfl, hG1, by rw [List.length_map]; exact small1000 (by omega), ?_⟩
      refine ⟨_, _, fs ++ [n], rfl, (x.trans y1).put (.inl nF) hG1, by rw [upd_same, vN_snoc], by rw [List.length_append, List.length_singleton]; omega, fun m hm => ?_⟩
      rcases List.mem_append.mp hm with z | z
      · exact hb m z
      · rw [List.mem_singleton.mp z]
        exact bn
    · rintro σ G ⟨v2, v3, fs, rfl, x, hG, lf, hb⟩
      match fs, lf, hb, hG with
      | [f0, f1], _, hb, hG =>
        have S2 : 2 ≤ sizeLine := by decide
        refine ⟨_, rfl, F, _, _, _, rfl, rfl, SqL.of hG, atI_nat (j := 0) rfl, _, rfl, F, _, _, _, rfl, rfl, SqL.of hG, atI_nat (j := 1) rfl, by show 3 ≤ sizeLine; decide, fun t1 nt1 => ?_⟩
        refine newO W (H := G) (p := t1) nt1 fun G1 y1 ht1 => ?_
        refine ⟨_, rfl, F, _, _, _, rfl, rfl, SqL.of (y1.lst hG), atI_nat (j := 0) rfl, S2, fun t2 nt2 => ?_⟩
        refine newO W (H := G1) (p := t2) nt2 fun G2 y2 ht2 => ?_
        refine ⟨S2, fun p np => ?_⟩
        refine newO W (H := G2) (p := p) np fun G3 y3 hp => ?_
        have x3 := x.trans (y1.trans (y2.trans y3))
        refine ⟨_, rfl, a, ns, 0, rfl, x3.seq hS, ?_⟩
        generalize ns.getD 0 0 = c
        obtain ⟨k, ek, bk⟩ := mod_nat c (m := 2) (by decide)
        refine ⟨_, _, rfl, rfl, (by show (0 : Int) < 2; decide), ?_⟩
        dsimp only
        rw [ek]
        match k, bk with
        | 0, _ => exact ⟨p, _, _, _, rfl, rfl, SqL.of hp, atI_nat (j := 0) rfl, q t1 wCome [f0, f1] G3 ⟨.inl ⟨rfl, rfl⟩, hb⟩ x3 (.inl (.inl ((y2.trans y3).tp ht1)))⟩
        | 1, _ => exact ⟨p, _, _, _, rfl, rfl, SqL.of hp, atI_nat (j := 1) rfl, q t2 wGo [f0] G3 ⟨.inr ⟨rfl, rfl⟩, fun n hn => hb n (by rw [List.mem_singleton.mp hn]; exact List.mem_cons_self)⟩ x3 (.inl (.inl (y3.tp ht2)))⟩
        | n + 2, h => exact absurd h (by omega)
end
end My

set_option Elab.async false
set_option linter.all false
set_option maxRecDepth 100000
set_option maxHeartbeats 4000000
namespace My
open PySem PySem.Spec PyProof.Rows L2 Own TL
def sgnS : Str := Str.ofString " !\"#$&'()*+,-./0123456789:;<=>?@ABCDEFGHIJKLMNOPQRSTUVWXYZ[\\]^_`abcdefghijklmnopqrstuvwxyz{|}~\n\t"
def numS : Str := Str.ofString " 0123456789"
theorem sgn_len : sgnS.length = 96 := by decide +kernel
theorem num_slen : numS.length = 11 := by decide +kernel
theorem okS_of {x : Str} (h : x.cps.all (· < 128) = true) : okS (tl x) := fun c hc => by
  rw [← Array.all_toList, List.all_eq_true] at h
  have := of_decide_eq_true (h c hc)
  omega
theorem item_at {z : Str} (h : okS (tl z)) {i : Nat} (l : i < z.length) : ∃ c, z.cps[i]? = some c ∧ c < 1114112 := by
  have l2 : i < (tl z).length := by rw [← len_tl]; exact l
  have e := List.getElem?_eq_getElem l2
  refine ⟨(tl z)[i], ?_, h _ (List.getElem_mem l2)⟩
  rw [← Array.getElem?_toList]
  exact e
def someS : List Str := ["", " ", "come", "go", "come 1", "go 1 2", "come 1 2 3", "go -1", "Go 1", "come  1 2", "go 01", "go 1 "].map Str.ofString
theorem some_ok : ∀ y ∈ someS, y.length ≤ 300 ∧ y.cps.all (· < 128) = true := by decide +kernel
section
variable {P : Program} {w : World} {K : PySem.W.Frag} {mg : Str → Option Value} {base : Heap} {W : Tbs}
def spBent (W : Tbs) : Sp := fun vs H Q _ => ∃ (x : Str) (c : Int), vs = [.str x, .int c] ∧ x.length ≤ 100 ∧ okS (tl x) ∧ ∀ (y : Str) H', y.length ≤ 300 → okS (tl y) → Ext W H H' → Q (.str y) H'
theorem ok_l_bent (T : Txt K mg) : FnOk P w K mg base CX0 1 T.f_l_bent T.d_l_bent ["_law_text", "_law_cell"] (spBent W) := by
  refine T.D_l_bent.F.ok sc_l_bent (fun vs H Q E h => ?_) (fun cdv A outer s H vs Q E hr h => ?_)
  · obtain ⟨x, c, rfl, _⟩ := h
    rfl
  · obtain ⟨x, c, rfl, few, oks, q⟩ := h
    refine ⟨_, (pss_cons (ps_set (i := 2) sc_l_bent.nd rfl (.inl rfl) pe_str)
    (pss_cons (ps_set (i := 3) sc_l_bent.nd rfl (.inl rfl) (pe_op op_mod (pe_op op_fdiv (pv 1) pe_int) (pe_op op_add (pe_callB call_len_str (by rfl) T.z_len PySem.boot_len (pa_cons (pv 0) pa_nil)) pe_int)))
    (pss_cons (ps_set (i := 4) sc_l_bent.nd rfl (.inl rfl) (pe_item_str (pv 2) (pe_op op_mod (pe_op op_fdiv (pv 1) pe_int) (pe_callB call_len_str (by rfl) T.z_len PySem.boot_len (pa_cons (pv 2) pa_nil))) (fun _ _ => rfl)))
    (pss_cons (ps_if (pt_cmpR op_eq (pe_op op_mod (pe_op op_fdiv (pv 1) pe_int) pe_int) pe_int (nomark _)) 
      (pss_one (ps_set (i := 4) sc_l_bent.nd rfl (.inl rfl) (pe_item_str pe_str (pe_op op_mod (pe_op op_fdiv (pv 1) pe_int) pe_int) (fun _ _ => rfl)))) pss_nil)
    (pss_cons (ps_if (pt_cmpR op_eq (pe_op op_mod (pv 1) pe_int) pe_int (nomark _)) 
      (pss_one (ps_ret (pe_op op_add_str (pe_op op_add_str (pe_slice sl_str (pv 0) po_none (po_some (pv 3))) (pv 4)) (pe_slice sl_str (pv 0) (po_some (pv 3)) po_none)))) pss_nil)
    (pss_cons (ps_if (pt_cmpR op_eq (pe_op op_mod (pv 1) pe_int) pe_int (nomark _)) 
      (pss_one (ps_ret (pe_op op_add_str (pe_slice sl_str (pv 0) po_none (po_some (pv 3))) (pe_slice sl_str (pv 0) (po_some (pe_op op_add (pv 3) pe_int)) po_none)))) pss_nil)
    (pss_cons (ps_if (pt_cmpR op_eq (pe_op op_mod (pv 1) pe_int) pe_int (nomark _)) 
      (pss_one (ps_ret (pe_op op_add_str (pe_op op_add_str (pe_slice sl_str (pv 0) po_none (po_some (pv 3))) (pv 4)) (pe_slice sl_str (pv 0) (po_some (pe_op op_add (pv 3) pe_int)) po_none)))) pss_nil)
    (pss_cons (ps_set (i := 5) sc_l_bent.nd rfl (.inl rfl) (pe_lst (pa_cons pe_str (pa_cons pe_str (pa_cons pe_str (pa_cons pe_str (pa_cons pe_str (pa_cons pe_str (pa_cons pe_str (pa_cons pe_str (pa_cons pe_str (pa_cons pe_str (pa_cons pe_str (pa_cons pe_str pa_nil))))))))))))))
    (pss_one (ps_ret (pe_ix (ixL K) (pv 5) (pe_op op_mod (pe_op op_fdiv (pv 1) pe_int) pe_int) (fun _ _ => rfl)))))))))))), ?_⟩
    have sz : x.length ≤ sizeLine := Nat.le_trans few (by decide)
    refine ⟨_, rfl, _, _, rfl, rfl, ⟨by decide, by decide⟩, _, rfl, x, rfl, sz, _, _, rfl, rfl, _, _, rfl, rfl, (by show (0 : Int) < ((x.length : Nat) : Int) + 1; omega), ?_⟩
    dsimp only
    obtain ⟨at_, ea, ba⟩ := mod_nat (c / 4) (m := ((x.length : Nat) : Int) + 1) (by omega)
    rw [ea]
    obtain ⟨k1, e1, b1⟩ := mod_nat (c / 400) (m := 96) (by decide)
    obtain ⟨k2, e2, b2⟩ := mod_nat (c / 400) (m := 11) (by decide)
    have os : okS (tl sgnS) := okS_of (by decide +kernel)
    have on : okS (tl numS) := okS_of (by decide +kernel)
    obtain ⟨s1, hs1, ls1⟩ := item_at os (i := k1) (by rw [sgn_len]; omega)
    obtain ⟨s2, hs2, ls2⟩ := item_at on (i := k2) (by rw [num_slen]; omega)
    refine ⟨_, rfl, _, rfl, _, _, rfl, rfl, ⟨by decide, by decide⟩, _, rfl, sgnS, rfl, by rw [sgn_len]; decide, _, _, rfl, rfl, (by show (0 : Int) < ((sgnS.length : Nat) : Int); rw [sgn_len]; decide), ?_⟩
    dsimp only
    rw [sgn_len, show ((96 : Nat) : Int) = 96 from rfl, e1]
    refine ⟨sgnS, _, s1, rfl, rfl, by omega, by omega, by rw [sgn_len]; omega, hs1, ?_⟩
    refine ⟨_, rfl, _, _, rfl, rfl, ⟨by decide, by decide⟩, _, _, rfl, rfl, (by show (0 : Int) < 3; decide), rfl, _, rfl, ?_⟩
    dsimp only
    refine (Decidable.em (V.int (c / 7 % 3) = V.int 1)).elim (fun cm => ?t1) (fun cm => ?t2)
    case' t1 =>
      rw [decide_eq_true cm]
      refine iteT ?_
      refine ⟨_, rfl, _, _, rfl, rfl, ⟨by decide, by decide⟩, _, _, rfl, rfl, (by show (0 : Int) < 11; decide), ?_⟩
      dsimp only
      rw [e2]
      refine ⟨numS, _, s2, rfl, rfl, by omega, by omega, by rw [num_slen]; omega, hs2, ?_⟩
      have osg := one_okS ls2
    case' t2 =>
      rw [decide_eq_false cm]
      refine iteF ?_
      have osg := one_okS ls1
    all_goals
      have c1 : ∀ lo hi, (cutS x lo hi).length ≤ 100 := fun lo hi => Nat.le_trans (cutS_length x lo hi) few
      have big : ∀ {n : Nat}, n ≤ 300 → n ≤ sizeLine := fun h => Nat.le_trans h (by decide)
      have len1 : ∀ d : Nat, (⟨#[d]⟩ : Str).length = 1 := fun _ => rfl
      have la : ∀ a b : Str, (a ++ b).length = a.length + b.length := fun a b => Str.length_append ..
      refine ⟨_, rfl, _, _, rfl, rfl, (by show (0 : Int) < 4; decide), rfl, _, rfl, ?_⟩
      by_cases m0 : V.int (c % 4) = V.int 0
      case pos =>
        rw [decide_eq_true (show V.int ((fun i j => i % j) c 4) = V.int 0 from m0)]
        refine iteT ?_
        have k1 := c1 none (some (at_ : Nat))
        have k2 := c1 (some (at_ : Nat)) none
        refine ⟨_, rfl, _, rfl, _, rfl, x, rfl, sz, _, rfl, _, _, rfl, rfl, big (by rw [len1]; omega), _, rfl, _, rfl, _, rfl, x, rfl, sz, _, _, rfl, rfl, big (by rw [la, len1]; omega), ?_⟩
        exact q _ H (by rw [la, la, len1]; omega) (app_okS (app_okS (cut_okS oks) osg) (cut_okS oks)) .refl
      rw [decide_eq_false (show ¬ V.int ((fun i j => i % j) c 4) = V.int 0 from m0)]
      refine iteF ?_
      refine ⟨_, rfl, _, _, rfl, rfl, (by show (0 : Int) < 4; decide), rfl, _, rfl, ?_⟩
      by_cases m1 : V.int (c % 4) = V.int 1
      case pos =>
        rw [decide_eq_true (show V.int ((fun i j => i % j) c 4) = V.int 1 from m1)]
        refine iteT ?_
        have k1 := c1 none (some (at_ : Nat))
        have k2 := c1 (some ((at_ : Nat) + 1)) none
        refine ⟨_, rfl, _, rfl, _, rfl, x, rfl, sz, _, rfl, _, rfl, _, _, rfl, rfl, _, rfl, x, rfl, sz, _, _, rfl, rfl, big (by omega), ?_⟩
        exact q _ H (by rw [la]; omega) (app_okS (cut_okS oks) (cut_okS oks)) .refl
      rw [decide_eq_false (show ¬ V.int ((fun i j => i % j) c 4) = V.int 1 from m1)]
      refine iteF ?_
      refine ⟨_, rfl, _, _, rfl, rfl, (by show (0 : Int) < 4; decide), rfl, _, rfl, ?_⟩
      by_cases m2 : V.int (c % 4) = V.int 2
      case pos =>
        rw [decide_eq_true (show V.int ((fun i j => i % j) c 4) = V.int 2 from m2)]
        refine iteT ?_
        have k1 := c1 none (some (at_ : Nat))
        have k2 := c1 (some ((at_ : Nat) + 1)) none
        refine ⟨_, rfl, _, rfl, _, rfl, x, rfl, sz, _, rfl, _, _, rfl, rfl, big (by rw [len1]; omega), _, rfl, _, rfl, _, _, rfl, rfl, _, rfl, x, rfl, sz, _, _, rfl, rfl, big (by rw [la, len1]; omega), ?_⟩
        exact q _ H (by rw [la, la, len1]; omega) (app_okS (app_okS (cut_okS oks) osg) (cut_okS oks)) .refl
      rw [decide_eq_false (show ¬ V.int ((fun i j => i % j) c 4) = V.int 2 from m2)]
      refine iteF ?_
      refine ⟨by show 12 ≤ sizeLine; decide, fun p np => ?_⟩
      refine newO W (H := H) (p := p) np fun H1 x1 hp => ?_
      obtain ⟨k3, e3, b3⟩ := mod_nat (c / 4) (m := 12) (by decide)
      refine ⟨_, rfl, _, rfl, _, _, rfl, rfl, ⟨by decide, by decide⟩, _, _, rfl, rfl, (by show (0 : Int) < 12; decide), ?_⟩
      dsimp only
      rw [e3]
      have l3 : k3 < someS.length := by
        show k3 < 12
        omega
      obtain ⟨o1, o2⟩ := some_ok _ (List.getElem_mem l3)
      have hk : (someS.map V.str)[k3]? = some (V.str someS[k3]) := by rw [List.getElem?_map, List.getElem?_eq_getElem l3]; rfl
      refine ⟨p, someS.map V.str, _, _, rfl, rfl, SqL.of hp, atI_nat hk, ?_⟩
      exact q _ H1 o1 (okS_of o2) x1
end
end My

set_option Elab.async false
set_option linter.all false
set_option maxRecDepth 100000
set_option maxHeartbeats 4000000
namespace My
open PySem PySem.Spec PyProof.Rows L2 Own TL
theorem sjoin_snoc (y p : Str) : ∀ (x : Str) (r : List Str), Str.join y ((x :: r) ++ [p]) = Str.join y (x :: r) ++ y ++ p
  | x, [] => rfl
  | x, z :: r => by
    have ih := sjoin_snoc y p z r
    show x ++ y ++ Str.join y ((z :: r) ++ [p]) = (x ++ y ++ Str.join y (z :: r)) ++ y ++ p
    rw [ih]
    refine ext_tl ?_
    simp only [tl_append, List.append_assoc]
theorem join_snoc (p x : Str) (r : List Str) : Txt.join sp1 ((x :: r) ++ [p]) = Txt.join sp1 (x :: r) ++ sp1 ++ p := by
  rw [join_eq, join_eq, sjoin_snoc]
theorem join_one (x : Str) : Txt.join sp1 [x] = x := by
  rw [join_eq]
  rfl
theorem sp1_okS : okS (tl sp1) := by
  rw [sp1_tl]
  unfold okS
  decide
theorem num_okS (n : Nat) : okS (tl (num n)) := fun c hc => by
  rw [num_tl] at hc
  have := numL_digits n c hc
  omega
theorem sp1_len1 : sp1.length = 1 := sp1_len
theorem parse_deed {wd : Str} {ms : List Nat} (h : isDeed wd ms) : parse (Txt.join sp1 (itemsS wd ms)) = some (wd, ms.map fun n : Nat => (n : Int)) := by
  obtain ⟨h1, h2⟩ := h
  rcases h1 with ⟨e, l⟩ | ⟨e, l⟩
  · refine parse_join ?_ ?_ h2
    · rw [e, show tl wCome = [99, 111, 109, 101] by
        show tl (Str.ofString "come") = _
        rw [tl_ofString]
        rfl]
      decide
    · unfold many
      rw [if_pos e, l]
      rfl
  · refine parse_join ?_ ?_ h2
    · rw [e, show tl wGo = [103, 111] by
        show tl (Str.ofString "go") = _
        rw [tl_ofString]
        rfl]
      decide
    · have ne : ¬ wd = wCome := by
        rw [e]
        decide +kernel
      unfold many
      rw [if_neg ne, if_pos e, l]
      rfl
section
variable {P : Program} {w : World} {K : PySem.W.Frag} {mg : Str → Option Value} {base : Heap} {W : Tbs}
def spLaw (K : PySem.W.Frag) (W : Tbs) : Sp := fun vs H Q _ => ∃ (a : Addr) (ns : List Int), vs = [.ref a] ∧ SqL K H a (ns.map V.int) ∧ ∀ H', Q (.bl true) H'
theorem ok_law (T : Txt K mg) : FnOk P w K mg base CX0 5 T.f_law T.d_law ["_law_script"] (spLaw K W) := by
  have ok_l_cell_at : FnOk P w K mg base CX0 1 T.f_l_cell_at T.d_l_cell_at ["_law_script", "_law_k"] (spDraw K) := ok_l_cell_at T
  have ok_l_mixed : FnOk P w K mg base CX0 1 T.f_l_mixed T.d_l_mixed ["_law_cell", "_law_k"] spMix := ok_l_mixed T
  have ok_l_deed : FnOk P w K mg base CX0 2 T.f_l_deed T.d_l_deed ["_law_script"] (spDeed10 K W) := ok_l_deed T
  have ok_line_of : FnOk P w K mg base CX0 2 T.f_line_of T.d_line_of ["deed"] (spLineOf K W) := ok_line_of T
  have ok_l_right : FnOk P w K mg base CX0 4 T.f_l_right T.d_l_right ["_law_line", "_law_due_here"] (spRight K W) := ok_l_right T
  have ok_l_bent : FnOk P w K mg base CX0 1 T.f_l_bent T.d_l_bent ["_law_text", "_law_cell"] (spBent W) := ok_l_bent T
  have ok_l_due : FnOk P w K mg base CX0 2 T.f_l_due T.d_l_due ["_law_text"] (spDue W) := ok_l_due T
  refine T.D_law.F.ok sc_law (fun vs H Q E h => ?_) (fun cdv A outer s H vs Q E hr h => ?_)
  · obtain ⟨a, ns, rfl, _⟩ := h
    rfl
  · obtain ⟨a, ns, rfl, hS, q⟩ := h
    refine ⟨_, (pss_cons (ps_set (i := 1) sc_law.nd rfl (.inl rfl) (pe_call ok_l_deed (hr.mono (by decide)) rfl T.D_l_deed.g T.D_l_deed.F.kp T.D_l_deed.b .nil pass0 (pa_cons (pv 0) pa_nil)))
    (pss_cons (ps_set (i := 2) sc_law.nd rfl (.inl rfl) (pe_ix (ixT K) (pv 1) pe_int (fun _ _ => rfl)))
    (pss_cons (ps_for PassesOwn.never rfl (pi_tup (pe_slice (slT K) (pv 1) (po_some pe_int) po_none)) (pg_name (i := 3) sc_law.nd rfl (.inl rfl)) 
      (pss_one (ps_set (i := 2) sc_law.nd rfl (.inl rfl) (pe_op op_add_str (pe_op op_add_str (pv 2) pe_str) (pe_callTy call_str_int (by rfl) T.z_str (by decide +kernel) (pa_cons (pv 3) pa_nil))))))
    (pss_cons (ps_set (i := 4) sc_law.nd rfl (.inl rfl) (pe_call ok_line_of (hr.mono (by decide)) rfl T.D_line_of.g T.D_line_of.F.kp T.D_line_of.b .nil pass0 (pa_cons (pv 1) pa_nil)))
    (pss_cons (ps_if (PW.pt (pw_or (pt_not (pt_val (pe_callB (isiO K) (by rfl) T.z_isinstance (by decide +kernel) (pa_cons (pv 4) (pa_cons (pe_bltn (v := .ty "str") (by rfl) T.z_str (by decide +kernel) rfl) pa_nil))))) (pw_or (pt_cmpR op_ne (pv 4) (pv 2) (nomark _)) (pw_or1 (pt_not (pt_val (pe_call ok_l_right (hr.mono (by decide)) rfl T.D_l_right.g T.D_l_right.F.kp T.D_l_right.b .nil pass0 (pa_cons (pv 2) (pa_cons (pv 1) pa_nil))))))))) 
      (pss_one (ps_ret pe_bl)) pss_nil)
    (pss_cons (ps_set (i := 5) sc_law.nd rfl (.inl rfl) (pe_ix (ixL K) (pe_lst (pa_cons pe_non (pa_cons pe_int (pa_cons pe_bl (pa_cons (pe_lst (pa_cons pe_str pa_nil)) (pa_cons (pe_tup (pa_cons pe_str (pa_cons pe_int pa_nil))) (pa_cons pe_dnewK (pa_cons pe_int (pa_cons (pe_lst (pa_cons (pv 1) pa_nil)) pa_nil))))))))) (pe_op op_mod (pe_call ok_l_cell_at (hr.mono (by decide)) rfl T.D_l_cell_at.g T.D_l_cell_at.F.kp T.D_l_cell_at.b .nil pass0 (pa_cons (pv 0) (pa_cons pe_int pa_nil))) pe_int) (fun _ _ => rfl)))
    (pss_cons (ps_if (pt_not (pt_val (pe_call ok_l_right (hr.mono (by decide)) rfl T.D_l_right.g T.D_l_right.F.kp T.D_l_right.b .nil pass0 (pa_cons (pv 5) (pa_cons pe_non pa_nil))))) 
      (pss_one (ps_ret pe_bl)) pss_nil)
    (pss_cons (ps_set (i := 6) sc_law.nd rfl (.inl rfl) (pv 2))
    (pss_cons (ps_if (pt_cmpR op_gt (pe_op op_mod (pe_call ok_l_cell_at (hr.mono (by decide)) rfl T.D_l_cell_at.g T.D_l_cell_at.F.kp T.D_l_cell_at.b .nil pass0 (pa_cons (pv 0) (pa_cons pe_int pa_nil))) pe_int) pe_int (nomark _)) 
      (pss_one (ps_set (i := 6) sc_law.nd rfl (.inl rfl) (pe_call ok_l_bent (hr.mono (by decide)) rfl T.D_l_bent.g T.D_l_bent.F.kp T.D_l_bent.b .nil pass0 (pa_cons (pv 2) (pa_cons (pe_call ok_l_mixed (hr.mono (by decide)) rfl T.D_l_mixed.g T.D_l_mixed.F.kp T.D_l_mixed.b .nil pass0 (pa_cons (pe_call ok_l_cell_at (hr.mono (by decide)) rfl T.D_l_cell_at.g T.D_l_cell_at.F.kp T.D_l_cell_at.b .nil pass0 (pa_cons (pv 0) (pa_cons pe_int pa_nil))) (pa_cons pe_int pa_nil))) pa_nil))))) pss_nil)
    (pss_one (ps_ret (pe_call ok_l_right (hr.mono (by decide)) rfl T.D_l_right.g T.D_l_right.F.kp T.D_l_right.b .nil pass0 (pa_cons (pv 6) (pa_cons (pe_call ok_l_due (hr.mono (by decide)) rfl T.D_l_due.g T.D_l_due.F.kp T.D_l_due.b .nil pass0 (pa_cons (pv 6) pa_nil)) pa_nil)))))))))))))), ?_⟩
    refine ⟨_, rfl, a, ns, rfl, hS, fun t wd ms H1 hd x1 ht => ?_⟩
    obtain ⟨hd1, big⟩ := id hd
    have lms : ms.length ≤ 2 := by
      rcases hd1 with ⟨_, l⟩ | ⟨_, l⟩ <;> omega
    have lms1 : 1 ≤ ms.length := by
      rcases hd1 with ⟨_, l⟩ | ⟨_, l⟩ <;> omega
    have lwd : wd.length ≤ 4 := by
      rcases hd1 with ⟨e, _⟩ | ⟨e, _⟩
      · rw [e]
        decide +kernel
      · rw [e]
        decide +kernel
    have owd : okS (tl wd) := by
      rcases hd1 with ⟨e, _⟩ | ⟨e, _⟩
      · rw [e]
        exact okS_come
      · rw [e]
        exact okS_go
    refine ⟨_, rfl, t, _, _, _, rfl, rfl, ht, atI_nat (j := 0) rfl, ?_⟩
    refine ⟨_, rfl, 1, rfl, t, _, rfl, ht, fun z => ?_, fun s1 ns1 => ?_⟩
    · have z1 := z.1
      have l : (itemsV wd ms).length = ms.length + 1 := by
        show (vN ms).length + 1 = _
        unfold vN
        rw [List.length_map]
      rw [show (some (1 : Int)) = some ((1 : Nat) : Int) from rfl, HT.sIx_nat, l] at z1
      omega
    rw [show cutV (itemsV wd ms) (some 1) none = vN ms from cut_i (itemsV wd ms) 1]
    refine newO W (H := H1) (p := s1) ns1 fun H2 x2 hs1 => ?_
    refine ⟨s1, rfl, ⟨_, SqT.of hs1⟩, for_tup (K := K) (a := s1) (xs := vN ms) (fun i σ G => ∃ v3 : Option V, σ = [some (.ref a), some (.ref t), some (.str (Txt.join sp1 (wd :: (ms.take i).map num))), v3, none, none, none] ∧ Ext W H2 G ∧
      (Txt.join sp1 (wd :: (ms.take i).map num)).length ≤ 4 + 31 * i ∧ okS (tl (Txt.join sp1 (wd :: (ms.take i).map num)))) ?_ (fun i σ G _ ⟨_, _, x, _⟩ => x.tup (SqT.of hs1)) ?_ ?_⟩
    · refine ⟨none, ?_, .refl, ?_, ?_⟩
      · rw [List.take_zero, List.map_nil, join_one]
        rfl
      · rw [List.take_zero, List.map_nil, join_one]
        omega
      · rw [List.take_zero, List.map_nil, join_one]
        exact owd
    · rintro i y σ G hi ⟨v3, rfl, x, hl, ho⟩
      obtain ⟨n, hn, rfl⟩ := vN_get hi
      have il := (List.getElem?_eq_some_iff.mp hn).1
      have bn := big n (List.mem_of_getElem? hn)
      have ln := num_len bn
      have e1 : Txt.join sp1 (wd :: (ms.take (i + 1)).map num) = Txt.join sp1 (wd :: (ms.take i).map num) ++ sp1 ++ num n := by
        rw [take_one hn, List.map_append]
        exact join_snoc (num n) wd _
      have bigs : ∀ {n : Nat}, n ≤ 300 → n ≤ sizeLine := fun h => Nat.le_trans h (by decide)
      have la : ∀ a b : Str, (a ++ b).length = a.length + b.length := fun a b => Str.length_append ..
      have l1 := sp1_len1
      have l2 : (Str.ofString " ").length = 1 := sp1_len
      refine ⟨_, rfl, _, _, rfl, rfl, bigs (by rw [l2]; omega), _, rfl, _, rfl, log_few bn, _, _, rfl, rfl, ?_, ?_⟩
      · rw [la, l2]
        show _ + (num n).length ≤ _
        exact bigs (by omega)
      · refine ⟨some (.int (n : Nat)), ?_, x, ?_, ?_⟩
        · rw [e1]
          rfl
        · rw [e1, la, la, l1]
          omega
        · rw [e1]
          exact app_okS (app_okS ho sp1_okS) (num_okS n)
    rintro σ G ⟨v3, rfl, x3, hl, ho⟩
    have lv : (vN ms).length = ms.length := by
      unfold vN
      rw [List.length_map]
    rw [lv, List.take_length] at hl ho
    rw [lv, List.take_length]
    have ei : wd :: ms.map num = itemsS wd ms := rfl
    rw [ei] at hl ho
    rw [ei]
    have hp := parse_deed hd
    generalize etx : Txt.join sp1 (itemsS wd ms) = tx at hl ho hp
    have x03 := x1.trans (x2.trans x3)
    have htG := (x2.trans x3).tup ht
    have ltx : tx.length ≤ 100 := by omega
    -- line_of
    refine ⟨_, rfl, t, wd, ms, rfl, htG, by omega, by omega, big, fun G4 x4 => ?_⟩
    rw [etx]
    have x04 := x03.trans x4
    have ht4 := x4.tup htG
    refine ⟨_, rfl, _, _, _, _, true, rfl, ClsV.ty _, .base (.str _), kit_ty (by decide +kernel), ⟨_, rfl, iteF ?_⟩⟩
    refine ⟨_, rfl, _, rfl, rfl, _, rfl, ?_⟩
    rw [decide_eq_true rfl]
    refine iteF ?_
    have hv : itemsV wd ms = .str wd :: (ms.map fun n : Nat => (n : Int)).map V.int := by
      unfold itemsV
      rw [vN_ints]
    refine ⟨_, rfl, _, rfl, .str tx, .ref t, "str", rfl, .str _, fun x e => by cases e; omega, .inr ⟨tx, wd, _, t, rfl, hp, rfl, by rw [← hv]; exact ht4⟩, fun G5 x5 => ⟨_, rfl, iteF ?_⟩⟩
    have x05 := x04.trans x5
    have ht5 := x5.tup ht4
    -- what is no text
    refine ⟨by show 1 ≤ sizeLine; decide, fun o3 no3 => ?_⟩
    refine newO W (H := G5) (p := o3) no3 fun G6 y1 ho3 => ?_
    refine ⟨by show 2 ≤ sizeLine; decide, fun o4 no4 => ?_⟩
    refine newO W (H := G6) (p := o4) no4 fun G7 y2 ho4 => ?_
    intro o5 no5
    refine newO W (H := G7) (p := o5) no5 fun G8 y3 ho5 => ?_
    refine ⟨_, rfl, by show 1 ≤ sizeLine; decide, fun o7 no7 => ?_⟩
    refine newO W (H := G8) (p := o7) no7 fun G9 y4 ho7 => ?_
    refine ⟨by show 8 ≤ sizeLine; decide, fun ol nol => ?_⟩
    refine newO W (H := G9) (p := ol) nol fun G10 y5 hol => ?_
    have y05 := y1.trans (y2.trans (y3.trans (y4.trans y5)))
    have x10 := x05.trans y05
    refine ⟨_, rfl, a, ns, 4, rfl, x10.seq hS, ?_⟩
    generalize ns.getD 4 0 = c4
    obtain ⟨k, ek, bk⟩ := mod_nat c4 (m := 8) (by decide)
    refine ⟨_, _, rfl, rfl, (by show (0 : Int) < 8; decide), ?_⟩
    dsimp only
    rw [ek]
    obtain ⟨ov, ot, eo, hot, nst⟩ : ∃ (ov : V) (ot : String), ([V.non, .int 5, .bl true, .ref o3, .ref o4, .ref o5, .int 0, .ref o7] : List V)[k]? = some ov ∧ TyB K G10 ov ot ∧ ∀ x, ov ≠ .str x := by
      match k, bk with
      | 0, _ => exact ⟨_, _, rfl, .non, fun x z => by cases z⟩
      | 1, _ => exact ⟨_, _, rfl, .int _, fun x z => by cases z⟩
      | 2, _ => exact ⟨_, _, rfl, .bl _, fun x z => by cases z⟩
      | 3, _ => exact ⟨_, _, rfl, .lst (SqL.of ((y2.trans (y3.trans (y4.trans y5))).lst ho3)), fun x z => by cases z⟩
      | 4, _ => exact ⟨_, _, rfl, .tup (.inl (.inl ((y3.trans (y4.trans y5)).tp ho4))), fun x z => by cases z⟩
      | 5, _ => exact ⟨_, _, rfl, .dK ((y4.trans y5).dk ho5), fun x z => by cases z⟩
      | 6, _ => exact ⟨_, _, rfl, .int _, fun x z => by cases z⟩
      | 7, _ => exact ⟨_, _, rfl, .lst (SqL.of (y5.lst ho7)), fun x z => by cases z⟩
      | n + 8, h => exact absurd h (by omega)
    refine ⟨ol, _, _, _, rfl, rfl, SqL.of hol, atI_nat eo, ?_⟩
    refine ⟨_, rfl, ov, .non, ot, rfl, hot, fun x e => absurd e (nst x), .inl ⟨fun x e => absurd e (nst x), rfl⟩, fun G11 x11 => ⟨_, rfl, iteF ?_⟩⟩
    have x12 := x10.trans x11
    -- a text, perhaps bent
    refine ⟨_, rfl, ?_⟩
    refine ⟨_, rfl, a, ns, 3, rfl, x12.seq hS, ?_⟩
    generalize ns.getD 3 0 = c3
    obtain ⟨k3, e3, b3⟩ := mod_nat c3 (m := 3) (by decide)
    refine ⟨_, _, rfl, rfl, (by show (0 : Int) < 3; decide), _, _, rfl, rfl, _, rfl, ?_⟩
    refine (Decidable.em ((0 : Int) < c3 % 3)).elim (fun cp => ?t1) (fun cp => ?t2)
    case' t1 =>
      rw [decide_eq_true (show (0 : Int) < (fun i j => i % j) c3 3 from cp)]
      refine iteT ?_
      refine ⟨_, rfl, _, rfl, a, ns, 3, rfl, x12.seq hS, _, 2, rfl, by decide, by decide, tx, _, rfl, ltx, ho, fun y G12 ly oy y12 => ?_⟩
    case' t2 =>
      rw [decide_eq_false (show ¬ (0 : Int) < (fun i j => i % j) c3 3 from cp)]
      refine iteF ?_
      have ly : tx.length ≤ 300 := by omega
      have oy := ho
    all_goals
      refine ⟨_, rfl, _, rfl, _, rfl, by omega, oy, fun hn G13 x13 => ?_, fun w5 n5 h5 p5 G13 np5 x13 hp5 => ?_⟩
      · exact ⟨_, .non, "str", rfl, .str _, fun x e => by cases e; omega, .inl ⟨fun x e => by cases e; exact hn, rfl⟩, fun G14 x14 => q _⟩
      · exact ⟨_, .ref p5, "str", rfl, .str _, fun x e => by cases e; omega, .inr ⟨_, w5, n5, p5, rfl, h5, rfl, .inl (.inl hp5)⟩, fun G14 x14 => q _⟩
end
end My

set_option Elab.async false
set_option linter.all false
set_option maxRecDepth 100000
set_option maxHeartbeats 4000000
namespace My
open PySem PySem.Spec PyProof.Rows L2 Own

/-- the end of a law whose text makes no code objects on its way -/
theorem walk_tab {l : PySem.W.OpenLaw} {n k : Nat} {q : Program} {loose : List Str} {XP : (Str → Option Value) → Heap → Prop} {YP : World → Heap → Prop}
    {d : DefRec} {K : Params → PySem.W.Frag} {x : Str} {sp : World → Sp}
    (hn : l.most = some n) (hn2 : n ≤ sizeLine) (hdf : d.params.defaults = []) (hr : Room k callerA)
    (hY : ∀ (w : World) (h : Heap), YP w h → (K w.params).In h)
    (F : ∀ (w : World) (mg : Str → Option Value) (fa : Addr) (h : Heap), (K w.params).In h → h.Ns mainGlobals mg → mg d.name = some (.ref fa) →
      ∃ fd : FuncData, (∀ (s : Shared) (v : Value), BindsTo s fd ⟨[v], []⟩ [(x, v)]) ∧
        ∀ base : Heap, (K w.params).In base → base.Ns mainGlobals mg → FnOk l.prog w (K w.params) mg base CX0 k fa fd [x] (sp w))
    (hsp : ∀ (w : World) (H : Hp) (a : Addr) (ns : List Int), ns.length ≤ n → (∀ z ∈ ns, Builtin.Int.intBits z ≤ 1048576) →
      SqL (K w.params) H a (ns.map V.int) → sp w [.ref a] H (fun v _ => v = .bl true) fun _ _ _ => False) :
    PySem.W.WalkO q loose XP YP l.row.toRowW d [] (fun f vs => PySem.call f vs) := by
  refine Att.attach_callB hn hdf ?_
  intro w s₀ s₁ mg mb fa o pm cd doc a vs ns G Y ho hd hcd hmg hobj hints hlen hbits hg
  have KX := hY w _ Y
  obtain ⟨fd, hb, hF⟩ := F w mg fa _ KX G.T.g hmg
  refine LamX.law_callTs (cs := []) (sp := sp w) (CX := CX0) KX G.T.g G.T.b G.T.builtins G.T.nolimit hg ?_ ?_ ?_ G.T.bmain hobj hints (Nat.le_trans hlen hn2) hr ?_ hb ?_ ?_
  · intro p hp
    cases hp
  · intro p hp
    cases hp
  · intro p hp
    cases hp
  · intro base h1 h2 h3
    exact hF base h1 h2
  · intro H hH hS
    exact hsp w H a ns hlen hbits hS
  · intro H e s' z
    exact z
/-- what the law's text has written: all that is asked of it -/
theorem txt_mk {K : PySem.W.Frag} {h : Heap} {mg : Str → Option Value} {E_PairError E_BadCount E_BadSide E_BadEnd E_TooMany E_NoPair E_BadHue E_NotFree E_BadLine f0 f1 f2 f3 f4 f5 f6 f7 f8 f9 f10 f11 f12 f13 f14 : Addr}  (X : K.In h) (G : h.Ns mainGlobals mg)
    {od0 an0 od1 an1 od2 an2 od3 an3 od4 an4 od5 an5 od6 an6 od7 an7 od8 an8 od9 an9 od10 an10 od11 an11 od12 an12 od13 an13 od14 an14 : Option Addr} {sl0 sl1 sl2 sl3 sl4 sl5 sl6 sl7 sl8 sl9 sl10 sl11 sl12 sl13 sl14 : Array (Option Value)}
    {oc0 kV0 dc0 pm0 ct0 cd0 oc1 kV1 dc1 pm1 ct1 cd1 oc2 kV2 dc2 pm2 ct2 cd2 oc3 kV3 dc3 pm3 ct3 cd3 oc4 kV4 dc4 pm4 ct4 cd4 oc5 kV5 dc5 pm5 ct5 cd5 oc6 kV6 dc6 pm6 ct6 cd6 oc7 kV7 dc7 pm7 ct7 cd7 oc8 kV8 dc8 pm8 ct8 cd8 oc9 kV9 dc9 pm9 ct9 cd9 oc10 kV10 dc10 pm10 ct10 cd10 oc11 kV11 dc11 pm11 ct11 cd11 oc12 kV12 dc12 pm12 ct12 cd12 oc13 kV13 dc13 pm13 ct13 cd13 oc14 kV14 dc14 pm14 ct14 cd14 : Value} {t_c_COME t_c_GO t_c_MOST_FIGURES : Tok}
    (a0 : PySem.W.nsIn K mainGlobals "line_of" = some (some (.ref f0)))
    (l0 : K.lookup f0 = some ⟨oc0, od0, .func (PySem.W.fnOf "line_of" "line_of" (defArgs s_line_of) (defBody s_line_of) (defScope s_line_of) .none kV0 dc0 pm0 an0 cd0 ct0), sl0⟩) (c0 : PySem.W.codeIn K cd0 "line_of" = true) (k0 : PySem.W.keepIn K (.ref f0) = true)
    (a1 : PySem.W.nsIn K mainGlobals "deed_of" = some (some (.ref f1)))
    (l1 : K.lookup f1 = some ⟨oc1, od1, .func (PySem.W.fnOf "deed_of" "deed_of" (defArgs s_deed_of) (defBody s_deed_of) (defScope s_deed_of) .none kV1 dc1 pm1 an1 cd1 ct1), sl1⟩) (c1 : PySem.W.codeIn K cd1 "deed_of" = true) (k1 : PySem.W.keepIn K (.ref f1) = true)
    (a2 : PySem.W.nsIn K mainGlobals "_spaced" = some (some (.ref f2)))
    (l2 : K.lookup f2 = some ⟨oc2, od2, .func (PySem.W.fnOf "_spaced" "_spaced" (defArgs s_spaced) (defBody s_spaced) (defScope s_spaced) .none kV2 dc2 pm2 an2 cd2 ct2), sl2⟩) (c2 : PySem.W.codeIn K cd2 "_spaced" = true) (k2 : PySem.W.keepIn K (.ref f2) = true)
    (a3 : PySem.W.nsIn K mainGlobals "_many_behind" = some (some (.ref f3)))
    (l3 : K.lookup f3 = some ⟨oc3, od3, .func (PySem.W.fnOf "_many_behind" "_many_behind" (defArgs s_many_behind) (defBody s_many_behind) (defScope s_many_behind) .none kV3 dc3 pm3 an3 cd3 ct3), sl3⟩) (c3 : PySem.W.codeIn K cd3 "_many_behind" = true) (k3 : PySem.W.keepIn K (.ref f3) = true)
    (a4 : PySem.W.nsIn K mainGlobals "_is_number" = some (some (.ref f4)))
    (l4 : K.lookup f4 = some ⟨oc4, od4, .func (PySem.W.fnOf "_is_number" "_is_number" (defArgs s_is_number) (defBody s_is_number) (defScope s_is_number) .none kV4 dc4 pm4 an4 cd4 ct4), sl4⟩) (c4 : PySem.W.codeIn K cd4 "_is_number" = true) (k4 : PySem.W.keepIn K (.ref f4) = true)
    (a5 : PySem.W.nsIn K mainGlobals "_law_cell_at" = some (some (.ref f5)))
    (l5 : K.lookup f5 = some ⟨oc5, od5, .func (PySem.W.fnOf "_law_cell_at" "_law_cell_at" (defArgs s_l_cell_at) (defBody s_l_cell_at) (defScope s_l_cell_at) .none kV5 dc5 pm5 an5 cd5 ct5), sl5⟩) (c5 : PySem.W.codeIn K cd5 "_law_cell_at" = true) (k5 : PySem.W.keepIn K (.ref f5) = true)
    (a6 : PySem.W.nsIn K mainGlobals "_law_mixed" = some (some (.ref f6)))
    (l6 : K.lookup f6 = some ⟨oc6, od6, .func (PySem.W.fnOf "_law_mixed" "_law_mixed" (defArgs s_l_mixed) (defBody s_l_mixed) (defScope s_l_mixed) .none kV6 dc6 pm6 an6 cd6 ct6), sl6⟩) (c6 : PySem.W.codeIn K cd6 "_law_mixed" = true) (k6 : PySem.W.keepIn K (.ref f6) = true)
    (a7 : PySem.W.nsIn K mainGlobals "_law_whole" = some (some (.ref f7)))
    (l7 : K.lookup f7 = some ⟨oc7, od7, .func (PySem.W.fnOf "_law_whole" "_law_whole" (defArgs s_l_whole) (defBody s_l_whole) (defScope s_l_whole) .none kV7 dc7 pm7 an7 cd7 ct7), sl7⟩) (c7 : PySem.W.codeIn K cd7 "_law_whole" = true) (k7 : PySem.W.keepIn K (.ref f7) = true)
    (a8 : PySem.W.nsIn K mainGlobals "_law_deed" = some (some (.ref f8)))
    (l8 : K.lookup f8 = some ⟨oc8, od8, .func (PySem.W.fnOf "_law_deed" "_law_deed" (defArgs s_l_deed) (defBody s_l_deed) (defScope s_l_deed) .none kV8 dc8 pm8 an8 cd8 ct8), sl8⟩) (c8 : PySem.W.codeIn K cd8 "_law_deed" = true) (k8 : PySem.W.keepIn K (.ref f8) = true)
    (a9 : PySem.W.nsIn K mainGlobals "_law_bent" = some (some (.ref f9)))
    (l9 : K.lookup f9 = some ⟨oc9, od9, .func (PySem.W.fnOf "_law_bent" "_law_bent" (defArgs s_l_bent) (defBody s_l_bent) (defScope s_l_bent) .none kV9 dc9 pm9 an9 cd9 ct9), sl9⟩) (c9 : PySem.W.codeIn K cd9 "_law_bent" = true) (k9 : PySem.W.keepIn K (.ref f9) = true)
    (a10 : PySem.W.nsIn K mainGlobals "_law_number" = some (some (.ref f10)))
    (l10 : K.lookup f10 = some ⟨oc10, od10, .func (PySem.W.fnOf "_law_number" "_law_number" (defArgs s_l_number) (defBody s_l_number) (defScope s_l_number) .none kV10 dc10 pm10 an10 cd10 ct10), sl10⟩) (c10 : PySem.W.codeIn K cd10 "_law_number" = true) (k10 : PySem.W.keepIn K (.ref f10) = true)
    (a11 : PySem.W.nsIn K mainGlobals "_law_due" = some (some (.ref f11)))
    (l11 : K.lookup f11 = some ⟨oc11, od11, .func (PySem.W.fnOf "_law_due" "_law_due" (defArgs s_l_due) (defBody s_l_due) (defScope s_l_due) .none kV11 dc11 pm11 an11 cd11 ct11), sl11⟩) (c11 : PySem.W.codeIn K cd11 "_law_due" = true) (k11 : PySem.W.keepIn K (.ref f11) = true)
    (a12 : PySem.W.nsIn K mainGlobals "_law_read" = some (some (.ref f12)))
    (l12 : K.lookup f12 = some ⟨oc12, od12, .func (PySem.W.fnOf "_law_read" "_law_read" (defArgs s_l_read) (defBody s_l_read) (defScope s_l_read) .none kV12 dc12 pm12 an12 cd12 ct12), sl12⟩) (c12 : PySem.W.codeIn K cd12 "_law_read" = true) (k12 : PySem.W.keepIn K (.ref f12) = true)
    (a13 : PySem.W.nsIn K mainGlobals "_law_right" = some (some (.ref f13)))
    (l13 : K.lookup f13 = some ⟨oc13, od13, .func (PySem.W.fnOf "_law_right" "_law_right" (defArgs s_l_right) (defBody s_l_right) (defScope s_l_right) .none kV13 dc13 pm13 an13 cd13 ct13), sl13⟩) (c13 : PySem.W.codeIn K cd13 "_law_right" = true) (k13 : PySem.W.keepIn K (.ref f13) = true)
    (a14 : PySem.W.nsIn K mainGlobals "law" = some (some (.ref f14)))
    (l14 : K.lookup f14 = some ⟨oc14, od14, .func (PySem.W.fnOf "law" "law" (defArgs s_law) (defBody s_law) (defScope s_law) .none kV14 dc14 pm14 an14 cd14 ct14), sl14⟩) (c14 : PySem.W.codeIn K cd14 "law" = true) (k14 : PySem.W.keepIn K (.ref f14) = true)
    (z_ValueError : PySem.W.nsIn K mainGlobals "ValueError" = some none)
    (z_all : PySem.W.nsIn K mainGlobals "all" = some none)
    (z_bool : PySem.W.nsIn K mainGlobals "bool" = some none)
    (z_int : PySem.W.nsIn K mainGlobals "int" = some none)
    (z_isinstance : PySem.W.nsIn K mainGlobals "isinstance" = some none)
    (z_len : PySem.W.nsIn K mainGlobals "len" = some none)
    (z_range : PySem.W.nsIn K mainGlobals "range" = some none)
    (z_str : PySem.W.nsIn K mainGlobals "str" = some none)
    (z_tuple : PySem.W.nsIn K mainGlobals "tuple" = some none)
    (z_type : PySem.W.nsIn K mainGlobals "type" = some none)
    (c_COME : PySem.W.nsIn K mainGlobals "_COME" = some (some (.str "come" t_c_COME)))
    (c_GO : PySem.W.nsIn K mainGlobals "_GO" = some (some (.str "go" t_c_GO)))
    (c_MOST_FIGURES : PySem.W.nsIn K mainGlobals "_MOST_FIGURES" = some (some (.int 30 t_c_MOST_FIGURES)))
    (gE_PairError : PySem.W.nsIn K mainGlobals "PairError" = some (some (.ref E_PairError))) (xE_PairError : PySem.W.excIn K E_PairError [.type "ValueError", .type "Exception", .type "BaseException", .type "object"] "ValueError.__new__" = true) (kE_PairError : PySem.W.keepIn K (.ref E_PairError) = true) (bE_PairError : PySem.W.subIn K (.ref E_PairError) (.type "BaseException") = some true) (tE_PairError : PySem.W.typeIn K (.ref E_PairError) = some (.type "type"))
    (gE_BadCount : PySem.W.nsIn K mainGlobals "BadCount" = some (some (.ref E_BadCount))) (xE_BadCount : PySem.W.excIn K E_BadCount [.type "ValueError", .type "Exception", .type "BaseException", .type "object"] "ValueError.__new__" = true) (kE_BadCount : PySem.W.keepIn K (.ref E_BadCount) = true) (bE_BadCount : PySem.W.subIn K (.ref E_BadCount) (.type "BaseException") = some true) (tE_BadCount : PySem.W.typeIn K (.ref E_BadCount) = some (.type "type"))
    (gE_BadSide : PySem.W.nsIn K mainGlobals "BadSide" = some (some (.ref E_BadSide))) (xE_BadSide : PySem.W.excIn K E_BadSide [.type "ValueError", .type "Exception", .type "BaseException", .type "object"] "ValueError.__new__" = true) (kE_BadSide : PySem.W.keepIn K (.ref E_BadSide) = true) (bE_BadSide : PySem.W.subIn K (.ref E_BadSide) (.type "BaseException") = some true) (tE_BadSide : PySem.W.typeIn K (.ref E_BadSide) = some (.type "type"))
    (gE_BadEnd : PySem.W.nsIn K mainGlobals "BadEnd" = some (some (.ref E_BadEnd))) (xE_BadEnd : PySem.W.excIn K E_BadEnd [.type "ValueError", .type "Exception", .type "BaseException", .type "object"] "ValueError.__new__" = true) (kE_BadEnd : PySem.W.keepIn K (.ref E_BadEnd) = true) (bE_BadEnd : PySem.W.subIn K (.ref E_BadEnd) (.type "BaseException") = some true) (tE_BadEnd : PySem.W.typeIn K (.ref E_BadEnd) = some (.type "type"))
    (gE_TooMany : PySem.W.nsIn K mainGlobals "TooMany" = some (some (.ref E_TooMany))) (xE_TooMany : PySem.W.excIn K E_TooMany [.type "ValueError", .type "Exception", .type "BaseException", .type "object"] "ValueError.__new__" = true) (kE_TooMany : PySem.W.keepIn K (.ref E_TooMany) = true) (bE_TooMany : PySem.W.subIn K (.ref E_TooMany) (.type "BaseException") = some true) (tE_TooMany : PySem.W.typeIn K (.ref E_TooMany) = some (.type "type"))
    (gE_NoPair : PySem.W.nsIn K mainGlobals "NoPair" = some (some (.ref E_NoPair))) (xE_NoPair : PySem.W.excIn K E_NoPair [.type "ValueError", .type "Exception", .type "BaseException", .type "object"] "ValueError.__new__" = true) (kE_NoPair : PySem.W.keepIn K (.ref E_NoPair) = true) (bE_NoPair : PySem.W.subIn K (.ref E_NoPair) (.type "BaseException") = some true) (tE_NoPair : PySem.W.typeIn K (.ref E_NoPair) = some (.type "type"))
    (gE_BadHue : PySem.W.nsIn K mainGlobals "BadHue" = some (some (.ref E_BadHue))) (xE_BadHue : PySem.W.excIn K E_BadHue [.type "ValueError", .type "Exception", .type "BaseException", .type "object"] "ValueError.__new__" = true) (kE_BadHue : PySem.W.keepIn K (.ref E_BadHue) = true) (bE_BadHue : PySem.W.subIn K (.ref E_BadHue) (.type "BaseException") = some true) (tE_BadHue : PySem.W.typeIn K (.ref E_BadHue) = some (.type "type"))
    (gE_NotFree : PySem.W.nsIn K mainGlobals "NotFree" = some (some (.ref E_NotFree))) (xE_NotFree : PySem.W.excIn K E_NotFree [.type "ValueError", .type "Exception", .type "BaseException", .type "object"] "ValueError.__new__" = true) (kE_NotFree : PySem.W.keepIn K (.ref E_NotFree) = true) (bE_NotFree : PySem.W.subIn K (.ref E_NotFree) (.type "BaseException") = some true) (tE_NotFree : PySem.W.typeIn K (.ref E_NotFree) = some (.type "type"))
    (gE_BadLine : PySem.W.nsIn K mainGlobals "BadLine" = some (some (.ref E_BadLine))) (xE_BadLine : PySem.W.excIn K E_BadLine [.type "ValueError", .type "Exception", .type "BaseException", .type "object"] "ValueError.__new__" = true) (kE_BadLine : PySem.W.keepIn K (.ref E_BadLine) = true) (bE_BadLine : PySem.W.subIn K (.ref E_BadLine) (.type "BaseException") = some true) (tE_BadLine : PySem.W.typeIn K (.ref E_BadLine) = some (.type "type"))
    (hgE_BadLine : PySem.W.findIn K (.ref E_BadLine) "__getattribute__" = some (some (.builtin "BaseException.__getattribute__")))
    (hkE_BadLine : PySem.W.findIn K (.ref E_BadLine) "__getattr__" = some none)
    (hsE_BadLine : PySem.W.subIn K (.ref E_BadLine) (.type "BaseException") = some true)
    (hdE_BadLine : PySem.W.hasDictIn K E_BadLine = true)
    (haE_BadLine : PySem.W.findIn K (.ref E_BadLine) "__class__" = some (some (.builtin "object.__class__")))
    (hmE_BadLine : PySem.W.mroIn K E_BadLine (.type "object") = some true)
    (exn : PySem.W.specialIn K (.builtin "object.__class__") "__get__" = some (some (.builtin "getset_descriptor.__get__"))) (ext : PySem.W.takesIn K (.builtin "object.__class__") = some true)
    (i_BadLine_BadCount : PySem.W.kitOne K (.ref E_BadLine) (.ref E_BadCount) = some false)
    (i_BadLine_BadEnd : PySem.W.kitOne K (.ref E_BadLine) (.ref E_BadEnd) = some false)
    (i_BadLine_BadHue : PySem.W.kitOne K (.ref E_BadLine) (.ref E_BadHue) = some false)
    (i_BadLine_BadSide : PySem.W.kitOne K (.ref E_BadLine) (.ref E_BadSide) = some false)
    (i_BadLine_NoPair : PySem.W.kitOne K (.ref E_BadLine) (.ref E_NoPair) = some false)
    (i_BadLine_NotFree : PySem.W.kitOne K (.ref E_BadLine) (.ref E_NotFree) = some false)
    (i_BadLine_TooMany : PySem.W.kitOne K (.ref E_BadLine) (.ref E_TooMany) = some false)
    (i_BadLine_BadLine : PySem.W.kitOne K (.ref E_BadLine) (.ref E_BadLine) = some true)
    (i_BadLine_ValueError : PySem.W.kitOne K (.ref E_BadLine) (.type "ValueError") = some true)
    (e_BadLine_PairError : PySem.W.exmOne K (.ref E_BadLine) (.ref E_PairError) = some true)
    : ∃ T : Txt K mg, T.f_law = f14 ∧ T.d_law = PySem.W.fnOf "law" "law" (defArgs s_law) (defBody s_law) (defScope s_law) .none kV14 dc14 pm14 an14 cd14 ct14 := by
  have F0 := fun_mk (st := s_line_of) l0 c0 k0
  have b0 := (F0).binds (ps := ["deed"]) fun _ _ _ _ _ _ us hl => match us, hl with | [_], _ => rfl
  have F1 := fun_mk (st := s_deed_of) l1 c1 k1
  have b1 := (F1).binds (ps := ["line"]) fun _ _ _ _ _ _ us hl => match us, hl with | [_], _ => rfl
  have F2 := fun_mk (st := s_spaced) l2 c2 k2
  have b2 := (F2).binds (ps := ["parts"]) fun _ _ _ _ _ _ us hl => match us, hl with | [_], _ => rfl
  have F3 := fun_mk (st := s_many_behind) l3 c3 k3
  have b3 := (F3).binds (ps := ["word"]) fun _ _ _ _ _ _ us hl => match us, hl with | [_], _ => rfl
  have F4 := fun_mk (st := s_is_number) l4 c4 k4
  have b4 := (F4).binds (ps := ["text"]) fun _ _ _ _ _ _ us hl => match us, hl with | [_], _ => rfl
  have F5 := fun_mk (st := s_l_cell_at) l5 c5 k5
  have b5 := (F5).binds (ps := ["_law_script", "_law_k"]) fun _ _ _ _ _ _ us hl => match us, hl with | [_, _], _ => rfl
  have F6 := fun_mk (st := s_l_mixed) l6 c6 k6
  have b6 := (F6).binds (ps := ["_law_cell", "_law_k"]) fun _ _ _ _ _ _ us hl => match us, hl with | [_, _], _ => rfl
  have F7 := fun_mk (st := s_l_whole) l7 c7 k7
  have b7 := (F7).binds (ps := ["_law_found"]) fun _ _ _ _ _ _ us hl => match us, hl with | [_], _ => rfl
  have F8 := fun_mk (st := s_l_deed) l8 c8 k8
  have b8 := (F8).binds (ps := ["_law_script"]) fun _ _ _ _ _ _ us hl => match us, hl with | [_], _ => rfl
  have F9 := fun_mk (st := s_l_bent) l9 c9 k9
  have b9 := (F9).binds (ps := ["_law_text", "_law_cell"]) fun _ _ _ _ _ _ us hl => match us, hl with | [_, _], _ => rfl
  have F10 := fun_mk (st := s_l_number) l10 c10 k10
  have b10 := (F10).binds (ps := ["_law_word"]) fun _ _ _ _ _ _ us hl => match us, hl with | [_], _ => rfl
  have F11 := fun_mk (st := s_l_due) l11 c11 k11
  have b11 := (F11).binds (ps := ["_law_text"]) fun _ _ _ _ _ _ us hl => match us, hl with | [_], _ => rfl
  have F12 := fun_mk (st := s_l_read) l12 c12 k12
  have b12 := (F12).binds (ps := ["_law_line"]) fun _ _ _ _ _ _ us hl => match us, hl with | [_], _ => rfl
  have F13 := fun_mk (st := s_l_right) l13 c13 k13
  have b13 := (F13).binds (ps := ["_law_line", "_law_due_here"]) fun _ _ _ _ _ _ us hl => match us, hl with | [_, _], _ => rfl
  have F14 := fun_mk (st := s_law) l14 c14 k14
  have b14 := (F14).binds (ps := ["_law_script"]) fun _ _ _ _ _ _ us hl => match us, hl with | [_], _ => rfl
  exact ⟨{ E_PairError := E_PairError, E_BadCount := E_BadCount, E_BadSide := E_BadSide, E_BadEnd := E_BadEnd, E_TooMany := E_TooMany, E_NoPair := E_NoPair, E_BadHue := E_BadHue, E_NotFree := E_NotFree, E_BadLine := E_BadLine, f_line_of := f0, d_line_of := PySem.W.fnOf "line_of" "line_of" (defArgs s_line_of) (defBody s_line_of) (defScope s_line_of) .none kV0 dc0 pm0 an0 cd0 ct0, f_deed_of := f1, d_deed_of := PySem.W.fnOf "deed_of" "deed_of" (defArgs s_deed_of) (defBody s_deed_of) (defScope s_deed_of) .none kV1 dc1 pm1 an1 cd1 ct1, f_spaced := f2, d_spaced := PySem.W.fnOf "_spaced" "_spaced" (defArgs s_spaced) (defBody s_spaced) (defScope s_spaced) .none kV2 dc2 pm2 an2 cd2 ct2, f_many_behind := f3, d_many_behind := PySem.W.fnOf "_many_behind" "_many_behind" (defArgs s_many_behind) (defBody s_many_behind) (defScope s_many_behind) .none kV3 dc3 pm3 an3 cd3 ct3, f_is_number := f4, d_is_number := PySem.W.fnOf "_is_number" "_is_number" (defArgs s_is_number) (defBody s_is_number) (defScope s_is_number) .none kV4 dc4 pm4 an4 cd4 ct4, f_l_cell_at := f5, d_l_cell_at := PySem.W.fnOf "_law_cell_at" "_law_cell_at" (defArgs s_l_cell_at) (defBody s_l_cell_at) (defScope s_l_cell_at) .none kV5 dc5 pm5 an5 cd5 ct5, f_l_mixed := f6, d_l_mixed := PySem.W.fnOf "_law_mixed" "_law_mixed" (defArgs s_l_mixed) (defBody s_l_mixed) (defScope s_l_mixed) .none kV6 dc6 pm6 an6 cd6 ct6, f_l_whole := f7, d_l_whole := PySem.W.fnOf "_law_whole" "_law_whole" (defArgs s_l_whole) (defBody s_l_whole) (defScope s_l_whole) .none kV7 dc7 pm7 an7 cd7 ct7, f_l_deed := f8, d_l_deed := PySem.W.fnOf "_law_deed" "_law_deed" (defArgs s_l_deed) (defBody s_l_deed) (defScope s_l_deed) .none kV8 dc8 pm8 an8 cd8 ct8, f_l_bent := f9, d_l_bent := PySem.W.fnOf "_law_bent" "_law_bent" (defArgs s_l_bent) (defBody s_l_bent) (defScope s_l_bent) .none kV9 dc9 pm9 an9 cd9 ct9, f_l_number := f10, d_l_number := PySem.W.fnOf "_law_number" "_law_number" (defArgs s_l_number) (defBody s_l_number) (defScope s_l_number) .none kV10 dc10 pm10 an10 cd10 ct10, f_l_due := f11, d_l_due := PySem.W.fnOf "_law_due" "_law_due" (defArgs s_l_due) (defBody s_l_due) (defScope s_l_due) .none kV11 dc11 pm11 an11 cd11 ct11, f_l_read := f12, d_l_read := PySem.W.fnOf "_law_read" "_law_read" (defArgs s_l_read) (defBody s_l_read) (defScope s_l_read) .none kV12 dc12 pm12 an12 cd12 ct12, f_l_right := f13, d_l_right := PySem.W.fnOf "_law_right" "_law_right" (defArgs s_l_right) (defBody s_l_right) (defScope s_l_right) .none kV13 dc13 pm13 an13 cd13 ct13, f_law := f14, d_law := PySem.W.fnOf "law" "law" (defArgs s_law) (defBody s_law) (defScope s_law) .none kV14 dc14 pm14 an14 cd14 ct14, D_line_of := ⟨F0, PySem.W.mg_of X G a0, b0⟩, D_deed_of := ⟨F1, PySem.W.mg_of X G a1, b1⟩, D_spaced := ⟨F2, PySem.W.mg_of X G a2, b2⟩, D_many_behind := ⟨F3, PySem.W.mg_of X G a3, b3⟩, D_is_number := ⟨F4, PySem.W.mg_of X G a4, b4⟩, D_l_cell_at := ⟨F5, PySem.W.mg_of X G a5, b5⟩, D_l_mixed := ⟨F6, PySem.W.mg_of X G a6, b6⟩, D_l_whole := ⟨F7, PySem.W.mg_of X G a7, b7⟩, D_l_deed := ⟨F8, PySem.W.mg_of X G a8, b8⟩, D_l_bent := ⟨F9, PySem.W.mg_of X G a9, b9⟩, D_l_number := ⟨F10, PySem.W.mg_of X G a10, b10⟩, D_l_due := ⟨F11, PySem.W.mg_of X G a11, b11⟩, D_l_read := ⟨F12, PySem.W.mg_of X G a12, b12⟩, D_l_right := ⟨F13, PySem.W.mg_of X G a13, b13⟩, D_law := ⟨F14, PySem.W.mg_of X G a14, b14⟩, z_ValueError := PySem.W.mg_none_of X G z_ValueError, z_all := PySem.W.mg_none_of X G z_all, z_bool := PySem.W.mg_none_of X G z_bool, z_int := PySem.W.mg_none_of X G z_int, z_isinstance := PySem.W.mg_none_of X G z_isinstance, z_len := PySem.W.mg_none_of X G z_len, z_range := PySem.W.mg_none_of X G z_range, z_str := PySem.W.mg_none_of X G z_str, z_tuple := PySem.W.mg_none_of X G z_tuple, z_type := PySem.W.mg_none_of X G z_type, c_COME := ⟨_, PySem.W.mg_of X G c_COME⟩, c_GO := ⟨_, PySem.W.mg_of X G c_GO⟩, c_MOST_FIGURES := ⟨_, PySem.W.mg_of X G c_MOST_FIGURES⟩, x_PairError := ⟨PySem.W.mg_of X G gE_PairError, xE_PairError, kE_PairError, bE_PairError, tE_PairError⟩, x_BadCount := ⟨PySem.W.mg_of X G gE_BadCount, xE_BadCount, kE_BadCount, bE_BadCount, tE_BadCount⟩, x_BadSide := ⟨PySem.W.mg_of X G gE_BadSide, xE_BadSide, kE_BadSide, bE_BadSide, tE_BadSide⟩, x_BadEnd := ⟨PySem.W.mg_of X G gE_BadEnd, xE_BadEnd, kE_BadEnd, bE_BadEnd, tE_BadEnd⟩, x_TooMany := ⟨PySem.W.mg_of X G gE_TooMany, xE_TooMany, kE_TooMany, bE_TooMany, tE_TooMany⟩, x_NoPair := ⟨PySem.W.mg_of X G gE_NoPair, xE_NoPair, kE_NoPair, bE_NoPair, tE_NoPair⟩, x_BadHue := ⟨PySem.W.mg_of X G gE_BadHue, xE_BadHue, kE_BadHue, bE_BadHue, tE_BadHue⟩, x_NotFree := ⟨PySem.W.mg_of X G gE_NotFree, xE_NotFree, kE_NotFree, bE_NotFree, tE_NotFree⟩, x_BadLine := ⟨PySem.W.mg_of X G gE_BadLine, xE_BadLine, kE_BadLine, bE_BadLine, tE_BadLine⟩, q_BadLine := ⟨hgE_BadLine, hkE_BadLine, hsE_BadLine, hdE_BadLine, haE_BadLine, exn, ext, hmE_BadLine⟩, i_BadLine_BadCount := i_BadLine_BadCount, i_BadLine_BadEnd := i_BadLine_BadEnd, i_BadLine_BadHue := i_BadLine_BadHue, i_BadLine_BadSide := i_BadLine_BadSide, i_BadLine_NoPair := i_BadLine_NoPair, i_BadLine_NotFree := i_BadLine_NotFree, i_BadLine_TooMany := i_BadLine_TooMany, i_BadLine_BadLine := i_BadLine_BadLine, i_BadLine_ValueError := i_BadLine_ValueError, e_BadLine_PairError := e_BadLine_PairError }, rfl, rfl⟩
/-- the head of the law -/
theorem head_mk {l : PySem.W.OpenLaw} {w : World} {K : PySem.W.Frag} {h : Heap} {mg : Str → Option Value} {fa : Addr} {E_PairError E_BadCount E_BadSide E_BadEnd E_TooMany E_NoPair E_BadHue E_NotFree E_BadLine f0 f1 f2 f3 f4 f5 f6 f7 f8 f9 f10 f11 f12 f13 f14 : Addr}  (X : K.In h) (G : h.Ns mainGlobals mg) (hfa : mg "law" = some (.ref fa))
    {od0 an0 od1 an1 od2 an2 od3 an3 od4 an4 od5 an5 od6 an6 od7 an7 od8 an8 od9 an9 od10 an10 od11 an11 od12 an12 od13 an13 od14 an14 : Option Addr} {sl0 sl1 sl2 sl3 sl4 sl5 sl6 sl7 sl8 sl9 sl10 sl11 sl12 sl13 sl14 : Array (Option Value)}
    {oc0 kV0 dc0 pm0 ct0 cd0 oc1 kV1 dc1 pm1 ct1 cd1 oc2 kV2 dc2 pm2 ct2 cd2 oc3 kV3 dc3 pm3 ct3 cd3 oc4 kV4 dc4 pm4 ct4 cd4 oc5 kV5 dc5 pm5 ct5 cd5 oc6 kV6 dc6 pm6 ct6 cd6 oc7 kV7 dc7 pm7 ct7 cd7 oc8 kV8 dc8 pm8 ct8 cd8 oc9 kV9 dc9 pm9 ct9 cd9 oc10 kV10 dc10 pm10 ct10 cd10 oc11 kV11 dc11 pm11 ct11 cd11 oc12 kV12 dc12 pm12 ct12 cd12 oc13 kV13 dc13 pm13 ct13 cd13 oc14 kV14 dc14 pm14 ct14 cd14 : Value} {t_c_COME t_c_GO t_c_MOST_FIGURES : Tok}
    (a0 : PySem.W.nsIn K mainGlobals "line_of" = some (some (.ref f0)))
    (l0 : K.lookup f0 = some ⟨oc0, od0, .func (PySem.W.fnOf "line_of" "line_of" (defArgs s_line_of) (defBody s_line_of) (defScope s_line_of) .none kV0 dc0 pm0 an0 cd0 ct0), sl0⟩) (c0 : PySem.W.codeIn K cd0 "line_of" = true) (k0 : PySem.W.keepIn K (.ref f0) = true)
    (a1 : PySem.W.nsIn K mainGlobals "deed_of" = some (some (.ref f1)))
    (l1 : K.lookup f1 = some ⟨oc1, od1, .func (PySem.W.fnOf "deed_of" "deed_of" (defArgs s_deed_of) (defBody s_deed_of) (defScope s_deed_of) .none kV1 dc1 pm1 an1 cd1 ct1), sl1⟩) (c1 : PySem.W.codeIn K cd1 "deed_of" = true) (k1 : PySem.W.keepIn K (.ref f1) = true)
    (a2 : PySem.W.nsIn K mainGlobals "_spaced" = some (some (.ref f2)))
    (l2 : K.lookup f2 = some ⟨oc2, od2, .func (PySem.W.fnOf "_spaced" "_spaced" (defArgs s_spaced) (defBody s_spaced) (defScope s_spaced) .none kV2 dc2 pm2 an2 cd2 ct2), sl2⟩) (c2 : PySem.W.codeIn K cd2 "_spaced" = true) (k2 : PySem.W.keepIn K (.ref f2) = true)
    (a3 : PySem.W.nsIn K mainGlobals "_many_behind" = some (some (.ref f3)))
    (l3 : K.lookup f3 = some ⟨oc3, od3, .func (PySem.W.fnOf "_many_behind" "_many_behind" (defArgs s_many_behind) (defBody s_many_behind) (defScope s_many_behind) .none kV3 dc3 pm3 an3 cd3 ct3), sl3⟩) (c3 : PySem.W.codeIn K cd3 "_many_behind" = true) (k3 : PySem.W.keepIn K (.ref f3) = true)
    (a4 : PySem.W.nsIn K mainGlobals "_is_number" = some (some (.ref f4)))
    (l4 : K.lookup f4 = some ⟨oc4, od4, .func (PySem.W.fnOf "_is_number" "_is_number" (defArgs s_is_number) (defBody s_is_number) (defScope s_is_number) .none kV4 dc4 pm4 an4 cd4 ct4), sl4⟩) (c4 : PySem.W.codeIn K cd4 "_is_number" = true) (k4 : PySem.W.keepIn K (.ref f4) = true)
    (a5 : PySem.W.nsIn K mainGlobals "_law_cell_at" = some (some (.ref f5)))
    (l5 : K.lookup f5 = some ⟨oc5, od5, .func (PySem.W.fnOf "_law_cell_at" "_law_cell_at" (defArgs s_l_cell_at) (defBody s_l_cell_at) (defScope s_l_cell_at) .none kV5 dc5 pm5 an5 cd5 ct5), sl5⟩) (c5 : PySem.W.codeIn K cd5 "_law_cell_at" = true) (k5 : PySem.W.keepIn K (.ref f5) = true)
    (a6 : PySem.W.nsIn K mainGlobals "_law_mixed" = some (some (.ref f6)))
    (l6 : K.lookup f6 = some ⟨oc6, od6, .func (PySem.W.fnOf "_law_mixed" "_law_mixed" (defArgs s_l_mixed) (defBody s_l_mixed) (defScope s_l_mixed) .none kV6 dc6 pm6 an6 cd6 ct6), sl6⟩) (c6 : PySem.W.codeIn K cd6 "_law_mixed" = true) (k6 : PySem.W.keepIn K (.ref f6) = true)
    (a7 : PySem.W.nsIn K mainGlobals "_law_whole" = some (some (.ref f7)))
    (l7 : K.lookup f7 = some ⟨oc7, od7, .func (PySem.W.fnOf "_law_whole" "_law_whole" (defArgs s_l_whole) (defBody s_l_whole) (defScope s_l_whole) .none kV7 dc7 pm7 an7 cd7 ct7), sl7⟩) (c7 : PySem.W.codeIn K cd7 "_law_whole" = true) (k7 : PySem.W.keepIn K (.ref f7) = true)
    (a8 : PySem.W.nsIn K mainGlobals "_law_deed" = some (some (.ref f8)))
    (l8 : K.lookup f8 = some ⟨oc8, od8, .func (PySem.W.fnOf "_law_deed" "_law_deed" (defArgs s_l_deed) (defBody s_l_deed) (defScope s_l_deed) .none kV8 dc8 pm8 an8 cd8 ct8), sl8⟩) (c8 : PySem.W.codeIn K cd8 "_law_deed" = true) (k8 : PySem.W.keepIn K (.ref f8) = true)
    (a9 : PySem.W.nsIn K mainGlobals "_law_bent" = some (some (.ref f9)))
    (l9 : K.lookup f9 = some ⟨oc9, od9, .func (PySem.W.fnOf "_law_bent" "_law_bent" (defArgs s_l_bent) (defBody s_l_bent) (defScope s_l_bent) .none kV9 dc9 pm9 an9 cd9 ct9), sl9⟩) (c9 : PySem.W.codeIn K cd9 "_law_bent" = true) (k9 : PySem.W.keepIn K (.ref f9) = true)
    (a10 : PySem.W.nsIn K mainGlobals "_law_number" = some (some (.ref f10)))
    (l10 : K.lookup f10 = some ⟨oc10, od10, .func (PySem.W.fnOf "_law_number" "_law_number" (defArgs s_l_number) (defBody s_l_number) (defScope s_l_number) .none kV10 dc10 pm10 an10 cd10 ct10), sl10⟩) (c10 : PySem.W.codeIn K cd10 "_law_number" = true) (k10 : PySem.W.keepIn K (.ref f10) = true)
    (a11 : PySem.W.nsIn K mainGlobals "_law_due" = some (some (.ref f11)))
    (l11 : K.lookup f11 = some ⟨oc11, od11, .func (PySem.W.fnOf "_law_due" "_law_due" (defArgs s_l_due) (defBody s_l_due) (defScope s_l_due) .none kV11 dc11 pm11 an11 cd11 ct11), sl11⟩) (c11 : PySem.W.codeIn K cd11 "_law_due" = true) (k11 : PySem.W.keepIn K (.ref f11) = true)
    (a12 : PySem.W.nsIn K mainGlobals "_law_read" = some (some (.ref f12)))
    (l12 : K.lookup f12 = some ⟨oc12, od12, .func (PySem.W.fnOf "_law_read" "_law_read" (defArgs s_l_read) (defBody s_l_read) (defScope s_l_read) .none kV12 dc12 pm12 an12 cd12 ct12), sl12⟩) (c12 : PySem.W.codeIn K cd12 "_law_read" = true) (k12 : PySem.W.keepIn K (.ref f12) = true)
    (a13 : PySem.W.nsIn K mainGlobals "_law_right" = some (some (.ref f13)))
    (l13 : K.lookup f13 = some ⟨oc13, od13, .func (PySem.W.fnOf "_law_right" "_law_right" (defArgs s_l_right) (defBody s_l_right) (defScope s_l_right) .none kV13 dc13 pm13 an13 cd13 ct13), sl13⟩) (c13 : PySem.W.codeIn K cd13 "_law_right" = true) (k13 : PySem.W.keepIn K (.ref f13) = true)
    (a14 : PySem.W.nsIn K mainGlobals "law" = some (some (.ref f14)))
    (l14 : K.lookup f14 = some ⟨oc14, od14, .func (PySem.W.fnOf "law" "law" (defArgs s_law) (defBody s_law) (defScope s_law) .none kV14 dc14 pm14 an14 cd14 ct14), sl14⟩) (c14 : PySem.W.codeIn K cd14 "law" = true) (k14 : PySem.W.keepIn K (.ref f14) = true)
    (z_ValueError : PySem.W.nsIn K mainGlobals "ValueError" = some none)
    (z_all : PySem.W.nsIn K mainGlobals "all" = some none)
    (z_bool : PySem.W.nsIn K mainGlobals "bool" = some none)
    (z_int : PySem.W.nsIn K mainGlobals "int" = some none)
    (z_isinstance : PySem.W.nsIn K mainGlobals "isinstance" = some none)
    (z_len : PySem.W.nsIn K mainGlobals "len" = some none)
    (z_range : PySem.W.nsIn K mainGlobals "range" = some none)
    (z_str : PySem.W.nsIn K mainGlobals "str" = some none)
    (z_tuple : PySem.W.nsIn K mainGlobals "tuple" = some none)
    (z_type : PySem.W.nsIn K mainGlobals "type" = some none)
    (c_COME : PySem.W.nsIn K mainGlobals "_COME" = some (some (.str "come" t_c_COME)))
    (c_GO : PySem.W.nsIn K mainGlobals "_GO" = some (some (.str "go" t_c_GO)))
    (c_MOST_FIGURES : PySem.W.nsIn K mainGlobals "_MOST_FIGURES" = some (some (.int 30 t_c_MOST_FIGURES)))
    (gE_PairError : PySem.W.nsIn K mainGlobals "PairError" = some (some (.ref E_PairError))) (xE_PairError : PySem.W.excIn K E_PairError [.type "ValueError", .type "Exception", .type "BaseException", .type "object"] "ValueError.__new__" = true) (kE_PairError : PySem.W.keepIn K (.ref E_PairError) = true) (bE_PairError : PySem.W.subIn K (.ref E_PairError) (.type "BaseException") = some true) (tE_PairError : PySem.W.typeIn K (.ref E_PairError) = some (.type "type"))
    (gE_BadCount : PySem.W.nsIn K mainGlobals "BadCount" = some (some (.ref E_BadCount))) (xE_BadCount : PySem.W.excIn K E_BadCount [.type "ValueError", .type "Exception", .type "BaseException", .type "object"] "ValueError.__new__" = true) (kE_BadCount : PySem.W.keepIn K (.ref E_BadCount) = true) (bE_BadCount : PySem.W.subIn K (.ref E_BadCount) (.type "BaseException") = some true) (tE_BadCount : PySem.W.typeIn K (.ref E_BadCount) = some (.type "type"))
    (gE_BadSide : PySem.W.nsIn K mainGlobals "BadSide" = some (some (.ref E_BadSide))) (xE_BadSide : PySem.W.excIn K E_BadSide [.type "ValueError", .type "Exception", .type "BaseException", .type "object"] "ValueError.__new__" = true) (kE_BadSide : PySem.W.keepIn K (.ref E_BadSide) = true) (bE_BadSide : PySem.W.subIn K (.ref E_BadSide) (.type "BaseException") = some true) (tE_BadSide : PySem.W.typeIn K (.ref E_BadSide) = some (.type "type"))
    (gE_BadEnd : PySem.W.nsIn K mainGlobals "BadEnd" = some (some (.ref E_BadEnd))) (xE_BadEnd : PySem.W.excIn K E_BadEnd [.type "ValueError", .type "Exception", .type "BaseException", .type "object"] "ValueError.__new__" = true) (kE_BadEnd : PySem.W.keepIn K (.ref E_BadEnd) = true) (bE_BadEnd : PySem.W.subIn K (.ref E_BadEnd) (.type "BaseException") = some true) (tE_BadEnd : PySem.W.typeIn K (.ref E_BadEnd) = some (.type "type"))
    (gE_TooMany : PySem.W.nsIn K mainGlobals "TooMany" = some (some (.ref E_TooMany))) (xE_TooMany : PySem.W.excIn K E_TooMany [.type "ValueError", .type "Exception", .type "BaseException", .type "object"] "ValueError.__new__" = true) (kE_TooMany : PySem.W.keepIn K (.ref E_TooMany) = true) (bE_TooMany : PySem.W.subIn K (.ref E_TooMany) (.type "BaseException") = some true) (tE_TooMany : PySem.W.typeIn K (.ref E_TooMany) = some (.type "type"))
    (gE_NoPair : PySem.W.nsIn K mainGlobals "NoPair" = some (some (.ref E_NoPair))) (xE_NoPair : PySem.W.excIn K E_NoPair [.type "ValueError", .type "Exception", .type "BaseException", .type "object"] "ValueError.__new__" = true) (kE_NoPair : PySem.W.keepIn K (.ref E_NoPair) = true) (bE_NoPair : PySem.W.subIn K (.ref E_NoPair) (.type "BaseException") = some true) (tE_NoPair : PySem.W.typeIn K (.ref E_NoPair) = some (.type "type"))
    (gE_BadHue : PySem.W.nsIn K mainGlobals "BadHue" = some (some (.ref E_BadHue))) (xE_BadHue : PySem.W.excIn K E_BadHue [.type "ValueError", .type "Exception", .type "BaseException", .type "object"] "ValueError.__new__" = true) (kE_BadHue : PySem.W.keepIn K (.ref E_BadHue) = true) (bE_BadHue : PySem.W.subIn K (.ref E_BadHue) (.type "BaseException") = some true) (tE_BadHue : PySem.W.typeIn K (.ref E_BadHue) = some (.type "type"))
    (gE_NotFree : PySem.W.nsIn K mainGlobals "NotFree" = some (some (.ref E_NotFree))) (xE_NotFree : PySem.W.excIn K E_NotFree [.type "ValueError", .type "Exception", .type "BaseException", .type "object"] "ValueError.__new__" = true) (kE_NotFree : PySem.W.keepIn K (.ref E_NotFree) = true) (bE_NotFree : PySem.W.subIn K (.ref E_NotFree) (.type "BaseException") = some true) (tE_NotFree : PySem.W.typeIn K (.ref E_NotFree) = some (.type "type"))
    (gE_BadLine : PySem.W.nsIn K mainGlobals "BadLine" = some (some (.ref E_BadLine))) (xE_BadLine : PySem.W.excIn K E_BadLine [.type "ValueError", .type "Exception", .type "BaseException", .type "object"] "ValueError.__new__" = true) (kE_BadLine : PySem.W.keepIn K (.ref E_BadLine) = true) (bE_BadLine : PySem.W.subIn K (.ref E_BadLine) (.type "BaseException") = some true) (tE_BadLine : PySem.W.typeIn K (.ref E_BadLine) = some (.type "type"))
    (hgE_BadLine : PySem.W.findIn K (.ref E_BadLine) "__getattribute__" = some (some (.builtin "BaseException.__getattribute__")))
    (hkE_BadLine : PySem.W.findIn K (.ref E_BadLine) "__getattr__" = some none)
    (hsE_BadLine : PySem.W.subIn K (.ref E_BadLine) (.type "BaseException") = some true)
    (hdE_BadLine : PySem.W.hasDictIn K E_BadLine = true)
    (haE_BadLine : PySem.W.findIn K (.ref E_BadLine) "__class__" = some (some (.builtin "object.__class__")))
    (hmE_BadLine : PySem.W.mroIn K E_BadLine (.type "object") = some true)
    (exn : PySem.W.specialIn K (.builtin "object.__class__") "__get__" = some (some (.builtin "getset_descriptor.__get__"))) (ext : PySem.W.takesIn K (.builtin "object.__class__") = some true)
    (i_BadLine_BadCount : PySem.W.kitOne K (.ref E_BadLine) (.ref E_BadCount) = some false)
    (i_BadLine_BadEnd : PySem.W.kitOne K (.ref E_BadLine) (.ref E_BadEnd) = some false)
    (i_BadLine_BadHue : PySem.W.kitOne K (.ref E_BadLine) (.ref E_BadHue) = some false)
    (i_BadLine_BadSide : PySem.W.kitOne K (.ref E_BadLine) (.ref E_BadSide) = some false)
    (i_BadLine_NoPair : PySem.W.kitOne K (.ref E_BadLine) (.ref E_NoPair) = some false)
    (i_BadLine_NotFree : PySem.W.kitOne K (.ref E_BadLine) (.ref E_NotFree) = some false)
    (i_BadLine_TooMany : PySem.W.kitOne K (.ref E_BadLine) (.ref E_TooMany) = some false)
    (i_BadLine_BadLine : PySem.W.kitOne K (.ref E_BadLine) (.ref E_BadLine) = some true)
    (i_BadLine_ValueError : PySem.W.kitOne K (.ref E_BadLine) (.type "ValueError") = some true)
    (e_BadLine_PairError : PySem.W.exmOne K (.ref E_BadLine) (.ref E_PairError) = some true)
    : ∃ fd : FuncData, (∀ (s : Shared) (v : Value), BindsTo s fd ⟨[v], []⟩ [("_law_script", v)]) ∧ ∀ base : Heap, K.In base → base.Ns mainGlobals mg → FnOk l.prog w K mg base CX0 5 fa fd ["_law_script"] (spLaw K ⟨[], []⟩) := by
  have e := hfa.symm.trans (PySem.W.mg_of X G a14)
  cases e
  obtain ⟨T, e3, e4⟩ := txt_mk X G a0 l0 c0 k0 a1 l1 c1 k1 a2 l2 c2 k2 a3 l3 c3 k3 a4 l4 c4 k4 a5 l5 c5 k5 a6 l6 c6 k6 a7 l7 c7 k7 a8 l8 c8 k8 a9 l9 c9 k9 a10 l10 c10 k10 a11 l11 c11 k11 a12 l12 c12 k12 a13 l13 c13 k13 a14 l14 c14 k14 z_ValueError z_all z_bool z_int z_isinstance z_len z_range z_str z_tuple z_type c_COME c_GO c_MOST_FIGURES gE_PairError xE_PairError kE_PairError bE_PairError tE_PairError gE_BadCount xE_BadCount kE_BadCount bE_BadCount tE_BadCount gE_BadSide xE_BadSide kE_BadSide bE_BadSide tE_BadSide gE_BadEnd xE_BadEnd kE_BadEnd bE_BadEnd tE_BadEnd gE_TooMany xE_TooMany kE_TooMany bE_TooMany tE_TooMany gE_NoPair xE_NoPair kE_NoPair bE_NoPair tE_NoPair gE_BadHue xE_BadHue kE_BadHue bE_BadHue tE_BadHue gE_NotFree xE_NotFree kE_NotFree bE_NotFree tE_NotFree gE_BadLine xE_BadLine kE_BadLine bE_BadLine tE_BadLine hgE_BadLine hkE_BadLine hsE_BadLine hdE_BadLine haE_BadLine hmE_BadLine exn ext i_BadLine_BadCount i_BadLine_BadEnd i_BadLine_BadHue i_BadLine_BadSide i_BadLine_NoPair i_BadLine_NotFree i_BadLine_TooMany i_BadLine_BadLine i_BadLine_ValueError e_BadLine_PairError
  refine ⟨T.d_law, fun s v => by rw [e4]; exact .of_eq rfl, fun base _ _ => ?_⟩
  rw [← e3]
  exact ok_law T
end My
open PySem PySem.W PyProof.Rows
set_option maxRecDepth 100000 in
set_option maxHeartbeats 0 in
theorem PySem.Challenge.cw_pairhues_k10_deeds_in_lines_holds : PySem.Challenge.rw_pairhues_k10_deeds_in_lines.Holds := by
  w_on; o_law; k_head; (case hw => w_witness2)
  k_fill
  refine My.walk_tab (l := PySem.Challenge.rw_pairhues_k10_deeds_in_lines) (n := 63) (k := 5) (x := "_law_script") (sp := fun w => My.spLaw _ ⟨[], []⟩) rfl (by decide) rfl ⟨rfl, by decide, by decide⟩ (fun w h Y => by first | exact PySem.W.kIn_of Y | exact PySem.W.km_in_of Y) ?F (fun w H a ns hl hb hS => ⟨a, ns, rfl, hS, fun _ => rfl⟩)
  case F =>
    intro w mg fa h KX G hmg
    refine' My.head_mk KX G hmg ?a0 ?l0 ?c0 ?k0 ?a1 ?l1 ?c1 ?k1 ?a2 ?l2 ?c2 ?k2 ?a3 ?l3 ?c3 ?k3 ?a4 ?l4 ?c4 ?k4 ?a5 ?l5 ?c5 ?k5 ?a6 ?l6 ?c6 ?k6 ?a7 ?l7 ?c7 ?k7 ?a8 ?l8 ?c8 ?k8 ?a9 ?l9 ?c9 ?k9 ?a10 ?l10 ?c10 ?k10 ?a11 ?l11 ?c11 ?k11 ?a12 ?l12 ?c12 ?k12 ?a13 ?l13 ?c13 ?k13 ?a14 ?l14 ?c14 ?k14 ?z_ValueError ?z_all ?z_bool ?z_int ?z_isinstance ?z_len ?z_range ?z_str ?z_tuple ?z_type ?c_COME ?c_GO ?c_MOST_FIGURES ?gE_PairError ?xE_PairError ?kE_PairError ?bE_PairError ?tE_PairError ?gE_BadCount ?xE_BadCount ?kE_BadCount ?bE_BadCount ?tE_BadCount ?gE_BadSide ?xE_BadSide ?kE_BadSide ?bE_BadSide ?tE_BadSide ?gE_BadEnd ?xE_BadEnd ?kE_BadEnd ?bE_BadEnd ?tE_BadEnd ?gE_TooMany ?xE_TooMany ?kE_TooMany ?bE_TooMany ?tE_TooMany ?gE_NoPair ?xE_NoPair ?kE_NoPair ?bE_NoPair ?tE_NoPair ?gE_BadHue ?xE_BadHue ?kE_BadHue ?bE_BadHue ?tE_BadHue ?gE_NotFree ?xE_NotFree ?kE_NotFree ?bE_NotFree ?tE_NotFree ?gE_BadLine ?xE_BadLine ?kE_BadLine ?bE_BadLine ?tE_BadLine ?hgE_BadLine ?hkE_BadLine ?hsE_BadLine ?hdE_BadLine ?haE_BadLine ?hmE_BadLine ?exn ?ext ?i_BadLine_BadCount ?i_BadLine_BadEnd ?i_BadLine_BadHue ?i_BadLine_BadSide ?i_BadLine_NoPair ?i_BadLine_NotFree ?i_BadLine_TooMany ?i_BadLine_BadLine ?i_BadLine_ValueError ?e_BadLine_PairError
    (case gE_PairError => k_is)
    (case gE_BadCount => k_is)
    (case gE_BadSide => k_is)
    (case gE_BadEnd => k_is)
    (case gE_TooMany => k_is)
    (case gE_NoPair => k_is)
    (case gE_BadHue => k_is)
    (case gE_NotFree => k_is)
    (case gE_BadLine => k_is)
    (case a0 => k_is)
    (case l0 => k_is)
    (case c0 => k_is)
    (case k0 => k_is)
    (case a1 => k_is)
    (case l1 => k_is)
    (case c1 => k_is)
    (case k1 => k_is)
    (case a2 => k_is)
    (case l2 => k_is)
    (case c2 => k_is)
    (case k2 => k_is)
    (case a3 => k_is)
    (case l3 => k_is)
    (case c3 => k_is)
    (case k3 => k_is)
    (case a4 => k_is)
    (case l4 => k_is)
    (case c4 => k_is)
    (case k4 => k_is)
    (case a5 => k_is)
    (case l5 => k_is)
    (case c5 => k_is)
    (case k5 => k_is)
    (case a6 => k_is)
    (case l6 => k_is)
    (case c6 => k_is)
    (case k6 => k_is)
    (case a7 => k_is)
    (case l7 => k_is)
    (case c7 => k_is)
    (case k7 => k_is)
    (case a8 => k_is)
    (case l8 => k_is)
    (case c8 => k_is)
    (case k8 => k_is)
    (case a9 => k_is)
    (case l9 => k_is)
    (case c9 => k_is)
    (case k9 => k_is)
    (case a10 => k_is)
    (case l10 => k_is)
    (case c10 => k_is)
    (case k10 => k_is)
    (case a11 => k_is)
    (case l11 => k_is)
    (case c11 => k_is)
    (case k11 => k_is)
    (case a12 => k_is)
    (case l12 => k_is)
    (case c12 => k_is)
    (case k12 => k_is)
    (case a13 => k_is)
    (case l13 => k_is)
    (case c13 => k_is)
    (case k13 => k_is)
    (case a14 => k_is)
    (case l14 => k_is)
    (case c14 => k_is)
    (case k14 => k_is)
    (case z_ValueError => k_is)
    (case z_all => k_is)
    (case z_bool => k_is)
    (case z_int => k_is)
    (case z_isinstance => k_is)
    (case z_len => k_is)
    (case z_range => k_is)
    (case z_str => k_is)
    (case z_tuple => k_is)
    (case z_type => k_is)
    (case c_COME => k_is)
    (case c_GO => k_is)
    (case c_MOST_FIGURES => k_is)
    (case xE_PairError => k_exc)
    (case kE_PairError => k_is)
    (case bE_PairError => k_is)
    (case tE_PairError => k_is)
    (case xE_BadCount => k_exc)
    (case kE_BadCount => k_is)
    (case bE_BadCount => k_is)
    (case tE_BadCount => k_is)
    (case xE_BadSide => k_exc)
    (case kE_BadSide => k_is)
    (case bE_BadSide => k_is)
    (case tE_BadSide => k_is)
    (case xE_BadEnd => k_exc)
    (case kE_BadEnd => k_is)
    (case bE_BadEnd => k_is)
    (case tE_BadEnd => k_is)
    (case xE_TooMany => k_exc)
    (case kE_TooMany => k_is)
    (case bE_TooMany => k_is)
    (case tE_TooMany => k_is)
    (case xE_NoPair => k_exc)
    (case kE_NoPair => k_is)
    (case bE_NoPair => k_is)
    (case tE_NoPair => k_is)
    (case xE_BadHue => k_exc)
    (case kE_BadHue => k_is)
    (case bE_BadHue => k_is)
    (case tE_BadHue => k_is)
    (case xE_NotFree => k_exc)
    (case kE_NotFree => k_is)
    (case bE_NotFree => k_is)
    (case tE_NotFree => k_is)
    (case xE_BadLine => k_exc)
    (case kE_BadLine => k_is)
    (case bE_BadLine => k_is)
    (case tE_BadLine => k_is)
    (case hgE_BadLine => first | k_is | k_exc | rfl | decide +kernel)
    (case hkE_BadLine => first | k_is | k_exc | rfl | decide +kernel)
    (case hsE_BadLine => first | k_is | k_exc | rfl | decide +kernel)
    (case hdE_BadLine => first | k_is | k_exc | rfl | decide +kernel)
    (case haE_BadLine => first | k_is | k_exc | rfl | decide +kernel)
    (case hmE_BadLine => first | k_is | k_exc | rfl | decide +kernel)
    (case exn => first | k_is | k_exc | rfl | decide +kernel)
    (case ext => first | k_is | k_exc | rfl | decide +kernel)
    (case i_BadLine_BadCount => first | kit_is | k_is | rfl | decide +kernel)
    (case i_BadLine_BadEnd => first | kit_is | k_is | rfl | decide +kernel)
    (case i_BadLine_BadHue => first | kit_is | k_is | rfl | decide +kernel)
    (case i_BadLine_BadSide => first | kit_is | k_is | rfl | decide +kernel)
    (case i_BadLine_NoPair => first | kit_is | k_is | rfl | decide +kernel)
    (case i_BadLine_NotFree => first | kit_is | k_is | rfl | decide +kernel)
    (case i_BadLine_TooMany => first | kit_is | k_is | rfl | decide +kernel)
    (case i_BadLine_BadLine => first | kit_is | k_is | rfl | decide +kernel)
    (case i_BadLine_ValueError => first | kit_is | k_is | rfl | decide +kernel)
    (case e_BadLine_PairError => first | rfl | decide +kernel | k_exc)
