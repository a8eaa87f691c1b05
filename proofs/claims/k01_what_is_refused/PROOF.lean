import PyProof.Rows.All
import Wide.All
import OpenK.AllK
import Wide.FinOn
import HandS.ForMost
import HandS.Lambda
import HandS.AnyAll
import HandS.SetFor
import HandS.IsInst
import HandS.Style
import HandS.SortKw
import KE.DataMinKey
import HandS.Sort
import KE.DataMinMax
import KE.KDictList
import HandS.Walk
import HandS.More
import HandS.Conv
import HandS.Flow
import HandS.Star
import HandS.ForExc
import HandS.TryMany
import HandS.TupLen
import PyProof.TypeEq
import HandS.ExcIs
import HandS.IterVal
import HandS.ExcValue
import HandS.Text
import HandS.Codes
import HandS.RaiseMore
import PyProof.InstEq
import HandS.ExcOwn
import HandS.TryOnly
import KE.KxIndex
import HandS.HotCalls
import KE.KEqDeep
import HandS.EndTab
import KE.KNestM
import KE.KNest
import PySem.Challenge.RW_pairhues_k01_what_is_refused
set_option Elab.async false
set_option linter.all false
set_option maxRecDepth 100000
set_option maxHeartbeats 4000000
namespace Own
open PySem PySem.Spec PyProof.Rows L2 GxR
/-! generator expressions over a list: quiet elements, all(..), any(..) -/
section
variable {X : Cx} {pins : List (Addr × Obj)} {σ : L2.St} {H : Hp} {s : Shared}
/-- what is known in the generator's frame, at s2: x holds v; all that stood at s1 stands, but the table at P -/
structure GFr (X : Cx) (s1 : Shared) (P : Addr) (scope : Scope) (x : Str) (v : Value) (ce : Env) (s2 : Shared) : Prop where
  sc : ce.scope = scope
  cl : ce.cells = cloFrom X.env.cells scope.names []
  gl : ce.globals = mainGlobals
  bl : ce.builtins = builtinsNs
  ns : ∃ m, s2.heap.Ns ce.locals m ∧ m x = some v
  kp : ∀ b o, b ≠ P → s1.heap.get? b = some o → s2.heap.get? b = some o
theorem GFr.on {s1 s2 s3 : Shared} {P : Addr} {scope : Scope} {x : Str} {v : Value} {ce : Env} (F : GFr X s1 P scope x v ce s2) (k : Keeps s2 s3) : GFr X s1 P scope x v ce s3 := by
  obtain ⟨h', tk, rfl, kk⟩ := k
  obtain ⟨m, hn, hm⟩ := F.ns
  exact ⟨F.sc, F.cl, F.gl, F.bl, ⟨m, hn.keeps kk, hm⟩, fun b o n e => kk _ _ (F.kp b o n e)⟩
theorem kref (s : Shared) : Keeps s s := ⟨s.heap, s.toks, rfl, fun _ _ e => e⟩
theorem ktok (s : Shared) (t : Nat) : Keeps s { s with toks := t } := ⟨s.heap, t, rfl, fun _ _ e => e⟩
theorem ktrans {s1 s2 s3 : Shared} (a : Keeps s1 s2) (b : Keeps s2 s3) : Keeps s1 s3 := by
  obtain ⟨h, t, rfl, k⟩ := a
  obtain ⟨h', t', rfl, k'⟩ := b
  exact ⟨h', t', rfl, fun c o e => k' _ _ (k c o e)⟩
/-- the expression e gives y there, and changes nothing -/
def QE (X : Cx) (s1 : Shared) (P : Addr) (scope : Scope) (x : Str) (v : Value) (e : Expr) (y : V) : Prop :=
  ∀ (ce : Env) (A' : Around) (E' : Value → Shared → Prop) (s2 : Shared), A'.handled = none → GFr X s1 P scope x v ce s2 →
    wpAny (model X.prog X.w) A' (eval e ce) (fun u s3 => RelV y u ∧ Keeps s2 s3) E' s2
variable {s1 : Shared} {P : Addr} {scope : Scope} {x : Str} {v : Value}
theorem qe_var {y : V} {p : Pos} (hk : scope.kind = .function) (hl : scope.names.lookup x = some .local) (r : RelV y v)
    (hd : (x == ("__debug__" : Str)) = false := by decide) : QE X s1 P scope x v (.Name x p) y := by
  intro ce A' E' s2 hA F
  obtain ⟨m, hn, hm⟩ := F.ns
  have k1 : ce.scope.kind = .function := by rw [F.sc]; exact hk
  have k2 : ce.kindOf x = some .local := by
    show ce.scope.names.lookup x = some .local
    rw [F.sc]; exact hl
  exact wpAny_Name (wpAny_loadName_local k1 k2 hn hm ⟨r, kref _⟩) hd
theorem qe_int {i : Int} {j : Nat} {p : Pos} : QE X s1 P scope x v (.Constant (.int i) j p) (.int i) :=
  fun ce A' E' s2 hA F => wpAny_Constant_int ⟨⟨_, rfl⟩, ktok _ _⟩
theorem qe_glob {n : Str} {y : V} {u : Value} {p : Pos} (I : Inv X pins σ H s1) (ht : ∀ o, X.base.get? mainGlobals = some o → mainGlobals ≠ P)
    (hk : scope.kind = .function) (hl : scope.names.lookup n = some .globalImplicit) (hm : X.mg n = some u) (r : RelV y u)
    (hd : (n == ("__debug__" : Str)) = false := by decide) : QE X s1 P scope x v (.Name n p) y := by
  intro ce A' E' s2 hA F
  have k1 : ce.scope.kind = .function := by rw [F.sc]; exact hk
  have k2 : ce.kindOf n = some .globalImplicit := by
    show ce.scope.names.lookup n = some .globalImplicit
    rw [F.sc]; exact hl
  have k3 : s2.heap.Ns ce.globals X.mg := by
    rw [F.gl]
    obtain ⟨o, es, ep, e, r⟩ := I.mod.glob
    exact ⟨o, es, ep, F.kp _ _ (ht o e) (I.bk _ _ e), r⟩
  exact Calls.Name_function_global k1 k2 (Calls.loadGlobal_global k3 hm ⟨r, kref _⟩) hd
/-- a name that the generator has from the def around -/
theorem qe_free {n : Str} {i : Nat} {y : V} {p : Pos} (I : Inv X pins σ H s1) (hP : ∃ ps, H P = some (.tbl ps)) (hN : X.N[i]? = some n) (hσ : σ[i]? = some (some y))
    (hv : X.env.scope.names.lookup n = some .cell ∨ X.env.scope.names.lookup n = some .free)
    (hk : scope.kind = .function) (hl : scope.names.lookup n = some .free)
    (hd : (n == ("__debug__" : Str)) = false := by decide) (hcd : (n == ("__classdict__" : Str)) = false := by decide) : QE X s1 P scope x v (.Name n p) y := by
  intro ce A' E' s2 hA F
  have k1 : ce.scope.kind = .function := by rw [F.sc]; exact hk
  have k2 : ce.kindOf n = some .free := by
    show ce.scope.names.lookup n = some .free
    rw [F.sc]; exact hl
  obtain ⟨m, hm, look⟩ := I.loc
  obtain ⟨u, r, l⟩ := look i n y hN hσ (hv.elim (fun k => .inr (.inl k)) (fun k => .inr (.inr k)))
  have hc : ∃ c, X.env.cells.lookup n = some c ∧ s1.heap.IsCell c (some u) := by
    rcases l with ⟨k, _⟩ | ⟨_, c, h1, h2⟩
    · have k' : X.env.scope.names.lookup n = some .local := k
      rcases hv with h | h <;> (rw [h] at k'; cases k')
    · exact ⟨c, h1, h2⟩
  obtain ⟨c, h1, ob, ho, hdat⟩ := hc
  have mem : (n, NameKind.free) ∈ scope.names := PySem.mem_of_lookup hl
  obtain ⟨c', h3⟩ := mem_lookup (cloFrom_has (cells := X.env.cells) (acc := []) mem)
  have h4 : c' = c := by
    rcases cloFrom_mem (PySem.mem_of_lookup h3) with hm | ⟨_, h2⟩
    · cases hm
    · rw [h2, h1]
      rfl
  obtain ⟨ps, hP⟩ := hP
  have oP : s1.heap.get? P = some { cls := .none, data := .fields ps } := I.hok P _ hP
  have ncP : c ≠ P := by
    intro z
    rw [z, oP] at ho
    cases ho
    cases hdat
  refine wpAny_Name (wpAny_loadName_free (c := c) k1 k2 (by rw [F.cl, h3, h4]) ⟨ob, F.kp _ _ ncP ho, hdat⟩ ⟨r, kref _⟩ hcd) hd
theorem qe_ixT {a b : Expr} {t : Addr} {xs : List V} {i : Int} {y : V} {p : Pos} (I : Inv X pins σ H s1) (hP : ∃ ps, H P = some (.tbl ps))
    (ha : QE X s1 P scope x v a (.ref t)) (hb : QE X s1 P scope x v b (.int i)) (hq : SqT X.K H t xs) (he : atI xs i = some y) (hs : PlainIx b) :
    QE X s1 P scope x v (.Subscript a b p) y := by
  intro ce A' E' s2 hA F
  obtain ⟨its, r, pl, hz⟩ := I.tuple hq
  obtain ⟨j, g1, g2, g3, g4, g5⟩ := atI_get he
  obtain ⟨w, ew, rw'⟩ := r.get g2
  have hl := r.length
  have hn := line63
  obtain ⟨ps, hP⟩ := hP
  have oP : s1.heap.get? P = some { cls := .none, data := .fields ps } := I.hok P _ hP
  have ntP : t ≠ P := by
    obtain ⟨o, ho, hc, _⟩ := id pl
    intro z
    rw [z, oP] at ho
    cases ho
    cases hc
  refine Subscript_ (wpAny_mono (ha ce A' E' s2 hA F) (fun u s3 h => wpAny_mono (hb ce A' E' s3 hA (F.on h.2)) (fun u2 s4 h2 => ?_) fun _ _ e => e) fun _ _ e => e)
  obtain ⟨ru, k3⟩ := h
  obtain ⟨ru2, k4⟩ := h2
  cases ru
  obtain ⟨tk, rfl⟩ := ru2
  have F4 := (F.on k3).on k4
  have pl4 : IsTup s4.heap t its.toArray := by
    obtain ⟨o, ho, hr⟩ := pl
    exact ⟨o, F4.kp _ _ ntP ho, hr⟩
  exact subscriptTail_builtinR (x := w) (Q := fun u s5 => RelV y u ∧ Keeps s2 s5) pl4.typeIs slot_tuple_getitem.lookup
    (getItem_tuple (j := j) pl4 (by omega) (by omega) (by rw [List.size_toArray, ← hl]; exact g1) (by simpa using ew) ⟨rfl, rw', ktrans k3 k4⟩) (hs _ _)
theorem qe_lt {a b : Expr} {i j : Int} {p : Pos} (ha : QE X s1 P scope x v a (.int i)) (hb : QE X s1 P scope x v b (.int j))
    (hm : behindInMarks .Lt b = false := by with_unfolding_all rfl) : QE X s1 P scope x v (.Compare a [.Lt] [b] p) (.bl (decide (i < j))) := by
  intro ce A' E' s2 hA F
  refine wpAny_Compare1 (wpAny_mono (ha ce A' E' s2 hA F) (fun u s3 h => wpAny_mono (hb ce A' E' s3 hA (F.on h.2)) (fun u2 s4 h2 => ?_) fun _ _ e => e) fun _ _ e => e) hm
  obtain ⟨⟨t1, rfl⟩, k3⟩ := h
  obtain ⟨⟨t2, rfl⟩, k4⟩ := h2
  exact lt_int ⟨rfl, ktrans k3 k4⟩
end

/-! the generator itself -/
section
variable {X : Cx} {pins : List (Addr × Obj)} {σ : L2.St} {H : Hp} {s : Shared}
/-- g, ready at s5, will give n values, the j-th as F says; whoever walks it leaves the def's table alone perhaps grown -/
def GReady (X : Cx) (pins : List (Addr × Obj)) (σ : L2.St) (H1 : Hp) (P g : Addr) (n : Nat) (F : Nat → Value → Prop) (s5 : Shared) : Prop :=
  ∃ (fp wr : List Addr) (G : Array GenState → Array GenState → Prop) (St : Nat → Shared → Prop),
    WalksS X.prog X.w X.A.in1 g fp wr G n F St ∧ St 0 s5 ∧ (∀ b ∈ fp, b < s5.heap.objs.size) ∧
    ∀ s', Moved wr G s5 s' → ∃ H2, Tabbed P H1 H2 ∧ Inv X pins σ H2 s'
/-- the tests of a generator expression there -/
def QT (X : Cx) (s1 : Shared) (P : Addr) (scope : Scope) (x : Str) (v : Value) (ifs : List Expr) (b : Bool) : Prop :=
  ∀ (ce : Env) (A' : Around) (E' : Value → Shared → Prop) (s2 : Shared), A'.handled = none → GFr X s1 P scope x v ce s2 →
    wpAny (model X.prog X.w) A' (forIn ifs true fun c r => if r = true then do let ok ← isTrue c ce (eval c ce); pure (ForInStep.yield ok) else pure (ForInStep.yield r))
      (fun ok s3 => ok = b ∧ Keeps s2 s3) E' s2
theorem qt_nil {s1 : Shared} {P : Addr} {scope : Scope} {x : Str} {v : Value} : QT X s1 P scope x v [] true := by
  intro ce A' E' s2 hA F
  simp only [List.forIn_nil]
  exact wpAny_pure ⟨rfl, kref _⟩
theorem gen_list {c P : Addr} {elt iter : Expr} {ifs : List Expr} {x : Str} {px gpos : Pos} {scope : Scope} {te : TE} {k : Nat} {Q' : Value → Shared → Prop} {R : List V → Hp → Prop}
    (hr : Room k X.A) (TB : TabB X.base X.mg c P) (hcode : X.env.code = .ref c) (S : GenS X.env scope x) (hi : PE X iter te)
    (hs : ∀ v, genFold iter X.env v = pure v) (I : Inv X pins σ H s)
    (h : te σ H fun v H1 => ∃ (a : Addr) (xs : List V), v = .ref a ∧ SqL X.K H1 a xs ∧ TabG H1 P ∧ R xs H1)
    (hR : ∀ xs H1 s1, R xs H1 → Inv X pins σ H1 s1 →
      ∃ (pz : Nat → Bool) (F : Nat → V), (∀ i y v, xs[i]? = some y → RelV y v → QT X s1 P scope x v ifs (pz i) ∧ (pz i = true → QE X s1 P scope x v elt (F i))) ∧
      ∀ g s5, GReady X pins σ H1 P g (passing pz xs.length 0).length (fun j u => ∃ i, (passing pz xs.length 0)[j]? = some i ∧ i < xs.length ∧ RelV (F i) u) s5 → Q' (.ref g) s5) :
    wpAny (model X.prog X.w) X.A (eval (.GeneratorExp elt [⟨.Name x px, iter, ifs, 0⟩] scope gpos) X.env) Q' X.xe s := by
  refine wpAny_GeneratorExp_walksQ hr.hd S.co (closure_ok S.free) S.cell S.dot S.loc S.kind (by have := hr.dp; omega) ?_ hs
  refine thn (hi.run pins s σ H _ I h) fun w1 s1 ⟨v1, H1, I1, r1, q1⟩ => ?_
  obtain ⟨a, xs, rfl, hq, ⟨ps, hP, ht⟩, q1⟩ := q1
  obtain ⟨pz, F, hel, hQ⟩ := hR xs H1 s1 q1 I1
  cases r1
  obtain ⟨its, rv, pl, hz⟩ := I1.list hq
  have hlen := rv.length
  have oP : s1.heap.get? P = some { cls := .none, data := .fields ps } := I1.hok P _ hP
  have Plt : P < s1.heap.objs.size := Heap.lt_size oP
  obtain ⟨oa, hoa, hca, hda⟩ := id pl.isList
  have alt : a < s1.heap.objs.size := Heap.lt_size hoa
  have naP : a ≠ P := by
    intro z
    rw [z, oP] at hoa
    cases hoa
    cases hca
  obtain ⟨Q0, eQ0⟩ : ∃ Q0 : Nat, Q0 = s1.heap.objs.size := ⟨_, rfl⟩
  refine wpAny_pyIter_list pl.isList ?_
  obtain ⟨h2, eh2⟩ : ∃ h2 : Heap, h2 = s1.heap.push { cls := .type "list_iterator", data := .fields #[.ref a, .int 0 0] } := ⟨_, rfl⟩
  rw [← eh2]
  have k2 : ∀ b o, s1.heap.get? b = some o → h2.get? b = some o := fun b o e => by
    rw [eh2]
    exact Heap.get?_push_of_some _ e
  have sz2 : h2.objs.size = s1.heap.objs.size + 1 := by
    rw [eh2]
    exact Heap.size_push _ _
  have oP2 := k2 _ _ oP
  have itr2 : h2.IsListIter s1.heap.objs.size a 0 := by
    rw [eh2]
    exact ⟨_, Heap.get?_push_size _ rfl, rfl, rfl⟩
  have lim2 : h2.NoLimit := by
    rw [eh2]
    exact I1.nolimit.push _
  have code2 : PySem.W.CodeHd h2 c P := TB.code.keeps fun b u e => k2 _ _ (I1.bk b u e)
  have ncs : cStatics ≠ P ∧ cStatics < s1.heap.objs.size := by
    obtain ⟨_, hns, _⟩ := I1.nolimit
    refine ⟨fun z => ?_, hns.lt⟩
    obtain ⟨o, es, ep, ho, hd, _⟩ := hns
    rw [z, oP] at ho
    cases ho
    cases hd
  -- from the heap in which the code object stands
  have cont : ∀ (code : Value) (h3 : Heap) (tk : Nat) (ps' : Array Value), Heap.ExtBut P h2 h3 → h2.objs.size ≤ h3.objs.size →
      h3.get? P = some { cls := .none, data := .fields ps' } → (∃ more, ps' = ps ++ more) → TriplesOk ps'.toList →
      wpAny (model X.prog X.w) X.A (builtinsFor X.env.globals X.env.builtins) (fun bi s₄ =>
        ∃ Ia fp wr n₀ Pf St₀ pz' F', Value.ref s1.heap.objs.size = .ref Ia ∧ (∀ A' : Around, A'.handled = none → Walks X.prog X.w A' Ia fp wr n₀ Pf St₀) ∧
          St₀ 0 s₄.heap ∧ (∀ b ∈ fp, b < s₄.heap.objs.size) ∧ s₄.heap.NoLimit ∧ cStatics ∉ wr ∧
          (∀ href : Heap, (∀ b o, s₄.heap.get? b = some o → href.get? b = some o) →
            QuietGen X.prog X.w (genEnv scope (cloFrom X.env.cells scope.names []) s₄.heap.objs.size code bi X.env) x ifs elt (List.range s₄.heap.objs.size) wr Pf pz' F' href) ∧
          (∀ g h₅ tk gs, gs.bare = true → s₄.heap.objs.size < g → h₅.objs.size = g + 1 → (∀ b o, s₄.heap.get? b = some o → h₅.get? b = some o) →
            WalksS X.prog X.w X.A.in4 g (g :: s₄.heap.objs.size :: List.range s₄.heap.objs.size) (s₄.heap.objs.size :: wr) (GenOnlyQ s₄.gens.size) (passing pz' n₀ 0).length
              (fun j y => ∃ i, (passing pz' n₀ 0)[j]? = some i ∧ F' i y)
              (GenAt X.prog X.w X.A.in4 g s₄.gens.size s₄.heap.objs.size (List.range s₄.heap.objs.size) wr pz' n₀ F') →
            GenAt X.prog X.w X.A.in4 g s₄.gens.size s₄.heap.objs.size (List.range s₄.heap.objs.size) wr pz' n₀ F' 0 { s₄ with gens := s₄.gens.push gs, toks := tk, heap := h₅ } →
            Q' (.ref g) { s₄ with gens := s₄.gens.push gs, toks := tk, heap := h₅ })) X.xe { s1 with heap := h3, toks := tk } := by
    intro code h3 tk ps' hx hsz hP3 hmore ht3
    have k3 : ∀ b o, b ≠ P → s1.heap.get? b = some o → h3.get? b = some o := fun b o n e => hx b o n (k2 _ _ e)
    obtain ⟨bm, ob, e1, e2, e3, e4, e5, e6, e7, e8⟩ := TB.bm
    have globK : h3.Ns X.env.globals X.mg := by
      rw [I1.ok.glob]
      obtain ⟨og, esg, epg, eg, rg⟩ := I1.mod.glob
      exact ⟨og, esg, epg, k3 _ _ TB.gP (I1.bk _ _ eg), rg⟩
    refine wpAny_builtinsFor (m := X.mg) globK e1 e2 (k3 _ _ e4 (I1.bk _ _ e5)) e6 e7 e8 ?_
    have ne0 : a ≠ s1.heap.objs.size := Nat.ne_of_lt alt
    have itr3 : h3.IsListIter s1.heap.objs.size a 0 := by
      obtain ⟨o, ho, r⟩ := itr2
      exact ⟨o, hx _ _ (Nat.ne_of_gt Plt) ho, r⟩
    have lst3 : h3.IsList a its.toArray := ⟨oa, k3 _ _ naP hoa, hca, hda⟩
    refine ⟨s1.heap.objs.size, _, _, its.toArray.size, _, _, pz, fun i u => RelV (F i) u ∧ i < xs.length, rfl,
      fun A' hA => Walks.list hA s1.heap.objs.size a ne0 its.toArray, ⟨itr3, lst3⟩, ?_, lim2.extBut hx ncs.1, ?_, ?_, ?_⟩
    · intro b hb
      show b < h3.objs.size
      have low : s1.heap.objs.size < h3.objs.size := by omega
      rcases List.mem_cons.mp hb with z | z
      · rw [z]
        exact low
      · rw [List.mem_singleton.mp z]
        exact Nat.lt_trans alt low
    · intro z
      have z' : cStatics = s1.heap.objs.size := List.mem_singleton.mp z
      exact Nat.ne_of_lt ncs.2 z'
    · intro href hhref
      have fr : ∀ (u : Value) (s₂ : Shared) (m₂ : Str → Option Value), s₂.heap.Ns h3.objs.size m₂ → m₂ x = some u →
          (∀ b ∈ List.range h3.objs.size, b ∉ [s1.heap.objs.size] → ∀ o, href.get? b = some o → s₂.heap.get? b = some o) →
          GFr X s1 P scope x u (genEnv scope (cloFrom X.env.cells scope.names []) h3.objs.size code builtinsNs X.env) s₂ := by
        intro u s₂ m₂ hn hm hk
        refine ⟨rfl, rfl, I1.ok.glob, rfl, ⟨m₂, hn, hm⟩, fun b o n e => ?_⟩
        have e3 := k3 b o n e
        refine hk b (List.mem_range.mpr (Heap.lt_size e3)) (fun z => ?_) o (hhref _ _ e3)
        have z' : b = s1.heap.objs.size := List.mem_singleton.mp z
        exact Nat.ne_of_lt (Heap.lt_size e) z'
      have nth : ∀ (i : Nat) (u : Value), its.toArray[i]? = some u → ∃ y, xs[i]? = some y ∧ RelV y u := by
        intro i u hu
        have hu' : its[i]? = some u := by simpa using hu
        cases hx : xs[i]? with
        | none =>
          rw [Vals.none_of rv hx] at hu'
          cases hu'
        | some y =>
          obtain ⟨u', h1, h2⟩ := rv.get hx
          rw [h1] at hu'
          cases hu'
          exact ⟨y, rfl, h2⟩
      refine ⟨fun A' E' i u s₂ m₂ hA hPv hn hm hk => ?_, fun A' E' i u s₂ m₂ hA hPv hp hn hm hk => ?_⟩
      · obtain ⟨y, g1, g2⟩ := nth i u hPv
        exact (hel i y u g1 g2).1 _ A' E' s₂ hA (fr u s₂ m₂ hn hm hk)
      · obtain ⟨y, g1, g2⟩ := nth i u hPv
        have lt : i < xs.length := (List.getElem?_eq_some_iff.mp g1).1
        exact wpAny_mono ((hel i y u g1 g2).2 hp _ A' E' s₂ hA (fr u s₂ m₂ hn hm hk)) (fun _ _ z => ⟨⟨z.1, lt⟩, z.2⟩) fun _ _ e => e
    · intro g h5 tk5 gs hgb hag hsz5 hk5 W5 hat
      have en : its.toArray.size = xs.length := by rw [List.size_toArray, hlen]
      rw [en] at W5 hat
      obtain ⟨more, em⟩ := hmore
      have W5' := (W5.in4_1)
      refine hQ g _ ⟨_, _, _, _, ⟨W5'.sub, W5'.grefl, W5'.gtrans, W5'.frame, fun i s' Q'' E'' hi hst hh => W5'.item i s' Q'' E'' hi hst fun v s'' ⟨i', h1, h2, h3⟩ => hh v s'' ⟨i', h1, h3, h2⟩, W5'.done, W5'.self⟩, hat, ?_, ?_⟩
      · intro b hb
        show b < h5.objs.size
        rw [hsz5]
        rcases List.mem_cons.mp hb with z | z
        · rw [z]
          exact Nat.lt_succ_self _
        · rcases List.mem_cons.mp z with z | z
          · rw [z]
            exact Nat.lt_succ_of_lt hag
          · exact Nat.lt_succ_of_lt (Nat.lt_trans (List.mem_range.mp z) hag)
      · intro s' mv
        have nw : ∀ b o, s1.heap.get? b = some o → b ∉ h3.objs.size :: [s1.heap.objs.size] := by
          intro b o e hb
          have lt := Heap.lt_size e
          rcases List.mem_cons.mp hb with z | z
          · rw [z] at lt
            exact absurd lt (Nat.not_lt.mpr (by omega))
          · rw [List.mem_singleton.mp z] at lt
            exact Nat.lt_irrefl _ lt
        have J := inv_tab (more := more) (h' := s'.heap) (g' := s'.gens) (d' := s'.drawn) (t' := s'.toks) I1 hP
          (fun b u hb e => mv.heap b u (nw b u e) (hk5 b u (k3 b u hb e)))
          (by rw [← em]; exact mv.heap P _ (nw P _ oP) (hk5 P _ hP3)) (AllBare.movedS (I1.bare.push hgb) mv)
        rw [sh_eta s1 s' mv.os] at J
        exact ⟨_, ⟨⟨ps ++ more, upd_same, by rw [← em]; exact ht3⟩, fun b hb => upd_ne hb⟩, J⟩
  refine ⟨lim2, ?_⟩
  cases hf : codeAmong gpos ps.toList with
  | none =>
    refine wpAny_genexprCodeX hcode (code2.code oP2 ht) (code2.tab oP2) hf ?_
    intro c' h' tk hx hge hlt hco' _ htab' _
    obtain ⟨_, _, _, _, _, _, _, _, _, _, _, _, _, _, _, _, _, _, _, htr, _⟩ := hco'
    exact cont _ h' tk _ hx (Nat.le_trans hge (Nat.le_of_lt hlt)) htab'.2 ⟨_, rfl⟩ htr
  | some cv =>
    refine wpAny_genexprCode_hit hcode (code2.code oP2 ht) hf ?_
    exact cont cv h2 s1.toks ps (Heap.ExtBut.refl _ _) (Nat.le_refl _) oP2 ⟨#[], by simp⟩ ht
end

/-! all(..), any(..) -/
section
variable {X : Cx} {pins : List (Addr × Obj)} {σ : L2.St} {H : Hp} {s : Shared}
def pick (l : List Nat) (p : Nat → Bool) (j : Nat) : Bool := match l[j]? with | some i => p i | none => false
theorem range_all (l : List Nat) (p : Nat → Bool) : (List.range l.length).all (pick l p) = l.all p := by
  rw [Bool.eq_iff_iff, List.all_eq_true, List.all_eq_true]
  constructor
  · intro h b hb
    obtain ⟨j, hj, e⟩ := List.getElem_of_mem hb
    have q := h j (List.mem_range.mpr hj)
    unfold pick at q
    rw [List.getElem?_eq_getElem hj, e] at q
    exact q
  · intro h j hj
    have hj' := List.mem_range.mp hj
    unfold pick
    rw [List.getElem?_eq_getElem hj']
    exact h _ (List.getElem_mem hj')
theorem range_any (l : List Nat) (p : Nat → Bool) : (List.range l.length).any (pick l p) = l.any p := by
  rw [Bool.eq_iff_iff, List.any_eq_true, List.any_eq_true]
  constructor
  · rintro ⟨j, hj, q⟩
    have hj' := List.mem_range.mp hj
    unfold pick at q
    rw [List.getElem?_eq_getElem hj'] at q
    exact ⟨_, List.getElem_mem hj', q⟩
  · rintro ⟨b, hb, q⟩
    obtain ⟨j, hj, e⟩ := List.getElem_of_mem hb
    refine ⟨j, List.mem_range.mpr hj, ?_⟩
    unfold pick
    rw [List.getElem?_eq_getElem hj, e]
    exact q
theorem truth_pick {prog : Program} {w : World} {A : Around} {l : List Nat} {p : Nat → Bool} {n : Nat} :
    TruthOf prog w A (fun j u => ∃ i, l[j]? = some i ∧ i < n ∧ RelV (.bl (p i)) u) (pick l p) := by
  intro j u s Q E hp hq
  obtain ⟨i, h1, _, h2⟩ := hp
  cases h2
  unfold pick at hq
  rw [h1] at hq
  exact wpAny_truthy_bool hq
/-- what a test over a list, item by item, asks: pz keeps the i-th, pb is what it gives -/
def tGen (X : Cx) (P : Addr) (scope : Scope) (x : Str) (ifs : List Expr) (elt : Expr) (f : List Nat → (Nat → Bool) → Bool) (te : TE) : TE :=
  fun σ H Q => te σ H fun v H1 => ∃ (a : Addr) (xs : List V), v = .ref a ∧ SqL X.K H1 a xs ∧ TabG H1 P ∧ ∃ (pz pb : Nat → Bool),
    (∀ pins s1, Inv X pins σ H1 s1 → ∀ i y v, xs[i]? = some y → RelV y v → QT X s1 P scope x v ifs (pz i) ∧ (pz i = true → QE X s1 P scope x v elt (.bl (pb i)))) ∧
    ∀ H2, Tabbed P H1 H2 → Q (.bl (f ((List.range xs.length).filter pz) pb)) H2
theorem pe_allL {c P : Addr} {elt iter : Expr} {ifs : List Expr} {x : Str} {px p pos gpos : Pos} {scope : Scope} {te : TE} {k : Nat}
    (hr : Room k X.A) (hg : Gl X "all") (hm : X.mg "all" = none) (hb : bootBuiltins "all" = some (.builtin "all"))
    (TB : TabB X.base X.mg c P) (hcode : X.env.code = .ref c) (S : GenS X.env scope x) (hi : PE X iter te)
    (hs : ∀ v, genFold iter X.env v = pure v)
    (he : starEach [.GeneratorExp elt [⟨.Name x px, iter, ifs, 0⟩] scope gpos] X.env =
      (false, eval (.GeneratorExp elt [⟨.Name x px, iter, ifs, 0⟩] scope gpos) X.env) :: starEach [] X.env := by rfl) :
    PE X (.Call (.Name "all" p) [.GeneratorExp elt [⟨.Name x px, iter, ifs, 0⟩] scope gpos] [] pos) (tGen X P scope x ifs elt List.all te) := by
  refine ⟨fun pins s σ H Q I h => ?_⟩
  refine wpAny_Call_Name_kw (ld_blt I hg hm hb ?_)
  refine PyProof.Rows.callWith_builtin1 ?_ he (by rfl)
  rw [he]
  refine Calls.spliced_cons (gen_list hr TB hcode S hi hs I h fun xs H1 s1 ⟨pz, pb, hel, q⟩ I1 => ?_)
  refine ⟨pz, fun i => .bl (pb i), fun i y v g1 g2 => hel pins s1 I1 i y v g1 g2, fun g s5 hG => ?_⟩
  obtain ⟨fp, wr, G, St, W, hst, _, hI⟩ := hG
  refine Calls.spliced_nil ?_
  refine call_all_walkS (W.self 0 _ _ _ hst ⟨g, fp, wr, G, _, _, St, _, rfl, W, hst, truth_pick, fun s' mv => ?_⟩)
  obtain ⟨H2, hT, J⟩ := hI s' mv
  refine ⟨.bl _, H2, J, rfl, ?_⟩
  rw [range_all]
  exact q H2 hT
theorem pe_anyL {c P : Addr} {elt iter : Expr} {ifs : List Expr} {x : Str} {px p pos gpos : Pos} {scope : Scope} {te : TE} {k : Nat}
    (hr : Room k X.A) (hg : Gl X "any") (hm : X.mg "any" = none)
    (TB : TabB X.base X.mg c P) (hcode : X.env.code = .ref c) (S : GenS X.env scope x) (hi : PE X iter te)
    (hs : ∀ v, genFold iter X.env v = pure v)
    (he : starEach [.GeneratorExp elt [⟨.Name x px, iter, ifs, 0⟩] scope gpos] X.env =
      (false, eval (.GeneratorExp elt [⟨.Name x px, iter, ifs, 0⟩] scope gpos) X.env) :: starEach [] X.env := by rfl) :
    PE X (.Call (.Name "any" p) [.GeneratorExp elt [⟨.Name x px, iter, ifs, 0⟩] scope gpos] [] pos) (tGen X P scope x ifs elt List.any te) := by
  refine ⟨fun pins s σ H Q I h => ?_⟩
  refine wpAny_Call_Name_kw (ld_blt I hg hm boot_any ?_)
  refine PyProof.Rows.callWith_builtin1 ?_ he (by rfl)
  rw [he]
  refine Calls.spliced_cons (gen_list hr TB hcode S hi hs I h fun xs H1 s1 ⟨pz, pb, hel, q⟩ I1 => ?_)
  refine ⟨pz, fun i => .bl (pb i), fun i y v g1 g2 => hel pins s1 I1 i y v g1 g2, fun g s5 hG => ?_⟩
  obtain ⟨fp, wr, G, St, W, hst, _, hI⟩ := hG
  refine Calls.spliced_nil ?_
  refine call_any_walkS (W.self 0 _ _ _ hst ⟨g, fp, wr, G, _, _, St, _, rfl, W, hst, truth_pick, fun s' mv => ?_⟩)
  obtain ⟨H2, hT, J⟩ := hI s' mv
  refine ⟨.bl _, H2, J, rfl, ?_⟩
  rw [range_any]
  exact q H2 hT
end

/-! a def that holds generator expressions: its code object is told -/
def genB (sc scope : Scope) (x : Str) : Bool :=
  decide (scope.kind = .function) && !scope.isCoroutine && (scope.names.all fun y => !decide (y.2 = .cell)) &&
  decide (scope.names.lookup (".0" : Str) = some NameKind.local) && decide (scope.names.lookup x = some NameKind.local) &&
  scope.names.all fun y => !decide (y.2 = .free) || decide (sc.names.lookup y.1 = some .cell)
theorem genS_by {qual : Str} {sc scope : Scope} {L f : Addr} {cd : Value} {x : Str} (h : genB sc scope x = true) : GenS (envOfC qual sc L f cd) scope x := by
  unfold genB at h
  simp only [Bool.and_eq_true, Bool.or_eq_true, Bool.not_eq_true', decide_eq_true_eq, decide_eq_false_iff_not, List.all_eq_true] at h
  obtain ⟨⟨⟨⟨⟨h1, h2⟩, h3⟩, h4⟩, h5⟩, h6⟩ := h
  refine ⟨h1, h2, h3, h4, h5, fun y hy e => ?_⟩
  rcases h6 y hy with z | z
  · exact absurd e z
  · exact cell_has z
structure FunC (K : PySem.W.Frag) (x qual : Str) (st : Stmt) (f : Addr) (fd : FuncData) (c : Addr) : Prop where
  ex : ∃ (oc : Value) (od : Option Addr) (kV doc pm : Value) (an : Option Addr) (ct : Value) (osl : Array (Option Value)),
    fd = PySem.W.fnOf x qual (defArgs st) (defBody st) (defScope st) .none kV doc pm an (.ref c) ct ∧ K.lookup f = some ⟨oc, od, .func fd, osl⟩ ∧ PySem.W.codeIn K (.ref c) qual = true
  kp : PySem.W.keepIn K (.ref f) = true
theorem FunC.plain {K : PySem.W.Frag} {x qual : Str} {st : Stmt} {f : Addr} {fd : FuncData} {c : Addr} (F : FunC K x qual st f fd c) : Fun K x qual st f fd := by
  obtain ⟨oc, od, kV, doc, pm, an, ct, osl, e, l, h⟩ := F.ex
  exact ⟨⟨oc, od, kV, doc, pm, an, _, ct, osl, e, l, h⟩, F.kp⟩
theorem funC_mk {K : PySem.W.Frag} {x qual : Str} {st : Stmt} {f c : Addr} {oc : Value} {od an : Option Addr} {osl : Array (Option Value)} {kV doc pm ct : Value}
    (l : K.lookup f = some ⟨oc, od, .func (PySem.W.fnOf x qual (defArgs st) (defBody st) (defScope st) .none kV doc pm an (.ref c) ct), osl⟩)
    (h : PySem.W.codeIn K (.ref c) qual = true) (k : PySem.W.keepIn K (.ref f) = true) :
    FunC K x qual st f (PySem.W.fnOf x qual (defArgs st) (defBody st) (defScope st) .none kV doc pm an (.ref c) ct) c :=
  ⟨⟨oc, od, kV, doc, pm, an, ct, osl, rfl, l, h⟩, k⟩
theorem FunC.ok {P : Program} {w : World} {K : PySem.W.Frag} {mg : Str → Option Value} {base : Heap} {x qual : Str} {st : Stmt} {f : Addr} {fd : FuncData} {c : Addr}
    {N ps : List Str} {k : Nat} {sp : Sp} (F : FunC K x qual st f fd c) (S : FnScope N ps (defScope st)) (len : ∀ vs H Q E, sp vs H Q E → vs.length = ps.length)
    (hbody : ∀ (A : Around) (outer : List Env) (s : Shared) (H : Hp) (vs : List V) (Q : VK) (E : XK),
      Room k (A.deeper (envOfC qual (defScope st) s.heap.objs.size f (.ref c))) → sp vs H Q E →
      ∃ t, PSs (cxOf CX0 P w K mg base N qual (defScope st) f (.ref c) A outer s H E).nox (defBody st) t ∧ t { nx := fun _ H' => Q .non H', rt := Q } (start N vs) H) :
    FnOk P w K mg base CX0 (k + 1) f fd ps sp := by
  obtain ⟨oc, od, kV, doc, pm, an, ct, osl, rfl, lk, hcd⟩ := F.ex
  refine fn_of lk hcd S len ?_
  intro A outer s H vs Q E hr hsp
  obtain ⟨t, h, q⟩ := hbody A outer s H vs Q E hr hsp
  exact ⟨t, h.nox, q⟩
end Own

set_option Elab.async false
set_option linter.all false
set_option maxRecDepth 100000
set_option maxHeartbeats 4000000
namespace Own
open PySem PySem.Spec PyProof.Rows L2
/-! min(xs, key=lambda x: len(x[k])) -/
/-- the name of a lambda's code object, made in a def -/
abbrev lamQ (X : Cx) : Str := X.env.qual ++ "<lambda>"
/-- what the making of a lambda does to the heap -/
def LamNew (P : Addr) (q : Str) (H H1 : Hp) : Prop :=
  H1 = H ∨ ∃ (ps more : Array Value) (c : Addr), H P = some (.tbl ps) ∧ H c = none ∧ H1 = upd (upd H P (.tbl (ps ++ more))) c (LamX.CodeO c q)
section
variable {X : Cx} {pins : List (Addr × Obj)} {σ : L2.St} {H : Hp} {s : Shared}
theorem lam_new {c P : Addr} {pr : Arguments} {bd : Expr} {sco : Scope} {lp : Pos} {E Q : Value → Shared → Prop}
    (I : Inv X pins σ H s) (TB : LamX.TabB X.base X.mg c P) (hcode : X.env.code = .ref c) (hT : LamX.TabS H P (lamQ X))
    (hdef : defaultsOf pr X.env = ([], [])) (hfree : ∀ y ∈ sco.names, y.2 = .free → ∃ c, X.env.cells.lookup y.1 = some c)
    (h : ∀ (f c' : Addr) (pm ctv : Value) (H1 : Hp) (h' : Heap) (tk : Nat), Inv X pins σ H1 { s with heap := h', toks := tk } → LamNew P (lamQ X) H H1 → LamX.TabS H1 P (lamQ X) →
      h'.get? f = some (PySem.W.kla_obj "<lambda>" (lamQ X) pr bd sco (cloFrom X.env.cells sco.names []) pm c' ctv) →
      H1 c' = some (LamX.CodeO c' (lamQ X)) → Q (.ref f) { s with heap := h', toks := tk }) :
    wpAny (model X.prog X.w) X.A (eval (.Lambda pr bd sco lp) X.env) Q E s := by
  obtain ⟨ps, tP, t3, told⟩ := hT
  have obP : s.heap.get? P = some { cls := .none, data := .fields ps } := I.hok P _ tP
  have glob := I.mod.glob.keeps I.bk
  have head := TB.code.keeps I.bk
  have blt : s.heap.BuiltinsAt X.mg P := TB.bm.keeps I.bk
  refine PySem.W.kla_eval hdef ?_
  cases hf : codeAmong lp ps.toList with
  | some cv =>
    obtain ⟨c', rfl, known⟩ := told lp cv hf
    refine PySem.W.kla_makeFunctionHit (closure_ok hfree) I.ok.glob glob hcode head obP t3 hf blt fun ctv h' tk keep size => ?_
    have J := I.kept (t' := tk) (h' := h'.push (PySem.W.kla_obj "<lambda>" (lamQ X) pr bd sco (cloFrom X.env.cells sco.names []) ((X.mg "__name__").getD .none) c' ctv)) fun b o e => Heap.get?_push_of_some _ (keep b o e)
    exact h _ c' _ ctv H _ tk J (.inl rfl) ⟨ps, tP, t3, told⟩ (Heap.get?_push_size _ rfl) known
  | none =>
    refine PySem.W.kla_makeFunction (closure_ok hfree) I.ok.glob glob hcode head obP t3 hf TB.gP blt fun c' ctv h' tk ext low high rec_ tab => ?_
    obtain ⟨_, oc, vs, t, e0, r1, r2, r3⟩ := rec_
    cases e0
    have fresh : H c' = none := I.hok.fresh low
    have neP : P ≠ c' := ne_of_none tP fresh
    have J := LamX.inv_table (q := lamQ X) (t' := tk) (more := #[rawInt lp.line, rawInt lp.col, .ref c'])
      (h' := h'.push (PySem.W.kla_obj "<lambda>" (lamQ X) pr bd sco (cloFrom X.env.cells sco.names []) ((X.mg "__name__").getD .none) c' ctv)) I tP
      (fun b o n e => Heap.get?_push_of_some _ (ext b o n e)) (Heap.get?_push_of_some _ tab) low ⟨oc, vs, t, Heap.get?_push_of_some _ r1, r2, r3⟩
    refine h _ c' _ ctv _ _ tk J (.inr ⟨ps, _, c', tP, fresh, rfl⟩) ⟨_, by rw [upd_ne neP, upd_same], ?_, fun lp' cv' g => ?_⟩ (Heap.get?_push_size _ rfl) upd_same
    · rw [Array.toList_append]
      exact PySem.TriplesOk_snoc _ _ _ _ t3
    · rw [Array.toList_append] at g
      rcases LamX.among_app _ t3 g with z | z
      · obtain ⟨c0, e0, k0⟩ := told lp' cv' z
        refine ⟨c0, e0, ?_⟩
        rw [upd_ne (ne_of_none k0 fresh), upd_ne (fun z => ?_)]
        · exact k0
        · rw [z, tP] at k0
          exact LamX.codeO_ne _ (Option.some.inj k0).symm
      · exact ⟨c', z, upd_same⟩
/-- len(e), e a list -/
theorem qe_len {s1 : Shared} {P : Addr} {scope : Scope} {x : Str} {v : Value} {e : Expr} {l : Addr} {zs : List V} {p pos : Pos} (I : Inv X pins σ H s1) (hP : ∃ ps, H P = some (.tbl ps))
    (hk : scope.kind = .function) (hl : scope.names.lookup ("len" : Str) = some .globalImplicit) (hm : X.mg "len" = none)
    (he : QE X s1 P scope x v e (.ref l)) (hq : SqL X.K H l zs) (hse : ∀ ce, starEach [e] ce = [(false, eval e ce)]) :
    QE X s1 P scope x v (.Call (.Name "len" p) [e] [] pos) (.int zs.length) := by
  intro ce A' E' s2 hA F
  obtain ⟨its, r, pl, hz⟩ := I.list hq
  have hn := line63
  have hlen := r.length
  obtain ⟨ps, hP⟩ := hP
  have oP : s1.heap.get? P = some { cls := .none, data := .fields ps } := I.hok P _ hP
  have nlP : l ≠ P := by
    obtain ⟨o, ho, hc, _⟩ := id pl.isList
    intro z
    rw [z, oP] at ho
    cases ho
    cases hc
  have notP : ∀ b o, s1.heap.get? b = some o → (∃ es ep, o.data = .dict es ep) → b ≠ P := fun b o e ⟨es, ep, d⟩ z => by
    rw [z, oP] at e
    cases e
    cases d
  have k1 : ce.scope.kind = .function := by rw [F.sc]; exact hk
  have k2 : ce.kindOf "len" = some .globalImplicit := by
    show ce.scope.names.lookup ("len" : Str) = some .globalImplicit
    rw [F.sc]; exact hl
  have k3 : s2.heap.Ns ce.globals X.mg := by
    rw [F.gl]
    obtain ⟨o, es, ep, e, r⟩ := I.mod.glob
    exact ⟨o, es, ep, F.kp _ _ (notP _ _ (I.bk _ _ e) ⟨_, _, r.1⟩) (I.bk _ _ e), r⟩
  obtain ⟨mb, b1, b2⟩ := I.mod.blt
  have k4 : s2.heap.Ns ce.builtins mb := by
    rw [F.bl]
    obtain ⟨o, es, ep, e, r⟩ := b1
    exact ⟨o, es, ep, F.kp _ _ (notP _ _ (I.bk _ _ e) ⟨_, _, r.1⟩) (I.bk _ _ e), r⟩
  refine wpAny_Call_Name_kw (Calls.Name_function_global k1 k2 (Calls.loadGlobal_builtin k3 hm k4 ((b2 "len" (by decide)).trans PySem.boot_len) ?_) (by decide))
  refine PyProof.Rows.callWith_builtin1 ?_ (hse ce) (by rfl)
  rw [hse ce]
  refine Calls.spliced_cons (wpAny_mono (he ce A' E' s2 hA F) (fun u s3 h => ?_) fun _ _ e => e)
  obtain ⟨ru, kk⟩ := h
  cases ru
  refine Calls.spliced_nil ?_
  have F3 := F.on kk
  have pl3 : s3.heap.IsList l its.toArray := by
    obtain ⟨o, ho, hc, hd⟩ := pl.isList
    exact ⟨o, F3.kp _ _ nlP ho, hc, hd⟩
  refine Calls.call_len_list pl3 (by simp only [List.size_toArray] <;> omega) ⟨⟨s3.toks + 1, by rw [List.size_toArray, hlen]⟩, ktrans kk (ktok _ _)⟩
/-- the lambda's own object -/
def LamO (f : Addr) (q : Str) (pr : Arguments) (bd : Expr) (sco : Scope) (cl : List (Str × Addr)) (c' : Addr) : HO :=
  .ext fun h => ∃ pm ctv : Value, h.get? f = some (PySem.W.kla_obj "<lambda>" q pr bd sco cl pm c' ctv)
theorem lamO_ok {P : Program} {w : World} {H : Hp} {h : Heap} {f : Addr} {q : Str} {pr : Arguments} {bd : Expr} {sco : Scope} {cl : List (Str × Addr)} {c' : Addr} {pm ctv : Value}
    (e : h.get? f = some (PySem.W.kla_obj "<lambda>" q pr bd sco cl pm c' ctv)) : ObjOk P w H h f (LamO f q pr bd sco cl c') :=
  ⟨⟨pm, ctv, e⟩, ⟨_, e⟩, fun _ _ ⟨pm, ctv, z⟩ k => ⟨pm, ctv, k _ z⟩⟩
def tLamV (P : Addr) (q : Str) (pr : Arguments) (bd : Expr) (sco : Scope) (cl : List (Str × Addr)) : TE := fun _ H Q =>
  LamX.TabS H P q ∧ ∀ (H1 : Hp) (f c' : Addr), LamNew P q H H1 → LamX.TabS H1 P q → H1 c' = some (LamX.CodeO c' q) → H1 f = none → Q (.ref f) (upd H1 f (LamO f q pr bd sco cl c'))
theorem pe_lam {c P : Addr} {pr : Arguments} {bd : Expr} {sco : Scope} {lp : Pos} (TB : LamX.TabB X.base X.mg c P) (hcode : X.env.code = .ref c)
    (hdef : defaultsOf pr X.env = ([], [])) (hfree : ∀ y ∈ sco.names, y.2 ≠ .free) :
    PE X (.Lambda pr bd sco lp) (tLamV P (lamQ X) pr bd sco (cloFrom X.env.cells sco.names [])) := by
  refine ⟨fun pins s σ H Q I h => ?_⟩
  obtain ⟨hT, q⟩ := h
  obtain ⟨ps, tP, t3, told⟩ := hT
  have obP : s.heap.get? P = some { cls := .none, data := .fields ps } := I.hok P _ tP
  have glob := I.mod.glob.keeps I.bk
  have head := TB.code.keeps I.bk
  have blt : s.heap.BuiltinsAt X.mg P := TB.bm.keeps I.bk
  have hfr : ∀ y ∈ sco.names, y.2 = .free → ∃ c, X.env.cells.lookup y.1 = some c := fun y hy e => absurd e (hfree y hy)
  refine PySem.W.kla_eval hdef ?_
  cases hf : codeAmong lp ps.toList with
  | some cv =>
    obtain ⟨c', rfl, known⟩ := told lp cv hf
    refine PySem.W.kla_makeFunctionHit (closure_ok hfr) I.ok.glob glob hcode head obP t3 hf blt fun ctv h' tk keep size => ?_
    have fn : H h'.objs.size = none := I.hok.fresh size
    refine ⟨.ref _, _, I.laid (t' := tk) (fun b o e => Heap.get?_push_of_some _ (keep b o e)) size (lamO_ok (Heap.get?_push_size _ rfl)), rfl, q H _ c' (.inl rfl) ⟨ps, tP, t3, told⟩ known fn⟩
  | none =>
    refine PySem.W.kla_makeFunction (closure_ok hfr) I.ok.glob glob hcode head obP t3 hf TB.gP blt fun c' ctv h' tk ext low high rec_ tab => ?_
    obtain ⟨_, oc, vs, t, e0, r1, r2, r3⟩ := rec_
    cases e0
    have fresh : H c' = none := I.hok.fresh low
    have neP : P ≠ c' := ne_of_none tP fresh
    have J := LamX.inv_table (q := lamQ X) (t' := tk) (more := #[rawInt lp.line, rawInt lp.col, .ref c']) (h' := h') I tP ext tab low ⟨oc, vs, t, r1, r2, r3⟩
    have fn := J.hok.fresh (Nat.le_refl _)
    have fnc : h'.objs.size ≠ c' := Nat.ne_of_gt high
    refine ⟨.ref _, _, J.laid (t' := tk) (fun b o e => Heap.get?_push_of_some _ e) (Nat.le_refl _) (lamO_ok (Heap.get?_push_size _ rfl)), rfl,
      q _ _ c' (.inr ⟨ps, _, c', tP, fresh, rfl⟩) ⟨_, by rw [upd_ne neP, upd_same], ?_, fun lp' cv' g => ?_⟩ upd_same fn⟩
    · rw [Array.toList_append]
      exact PySem.TriplesOk_snoc _ _ _ _ t3
    · rw [Array.toList_append] at g
      rcases LamX.among_app _ t3 g with z | z
      · obtain ⟨c0, e0, k0⟩ := told lp' cv' z
        refine ⟨c0, e0, ?_⟩
        rw [upd_ne (ne_of_none k0 fresh), upd_ne (fun z => ?_)]
        · exact k0
        · rw [z, tP] at k0
          exact LamX.codeO_ne _ (Option.some.inj k0).symm
      · exact ⟨c', z, upd_same⟩
/-- a lambda of one parameter, that takes no name from around -/
structure LamP (sco : Scope) (x : Str) : Prop where
  kind : sco.kind = .function
  co : sco.isCoroutine = false
  gen : sco.isGenerator = false
  cell : ∀ y ∈ sco.names, y.2 ≠ .cell
  loc : sco.names.lookup x = some .local
def rMinKey (X : Cx) (P : Addr) (q : Str) (pr : Arguments) (bd : Expr) (sco : Scope) (cl : List (Str × Addr)) (x : Str) : List V → List V → Hp → VK → Prop := fun xs zs H Q =>
  ∃ (a f c' : Addr) (ys : List V) (ln : Nat → Nat), xs = [.ref a] ∧ zs = [.ref f] ∧ H f = some (LamO f q pr bd sco cl c') ∧ H c' = some (LamX.CodeO c' q) ∧ SqL X.K H a ys ∧ 0 < ys.length ∧
    (∀ (pins : List (Addr × Obj)) (σ : L2.St) (s1 : Shared), Inv X pins σ H s1 → ∀ (i : Nat) (y : V) (v : Value), ys[i]? = some y → RelV y v → QE X s1 P sco x v bd (.int (ln i : Nat))) ∧
    ∀ y, ys[argBest (fun i j => decide (((ln i : Nat) : Int) < ((ln j : Nat) : Int))) (ys.length - 1)]? = some y → Q y H
theorem cr_minKey {k : Nat} {P : Addr} {q : Str} {pr : Arguments} {bd : Expr} {sco : Scope} {x : Str} (hr : Room (k + 1) X.A) (hq : q = lamQ X) (S : LamP sco x)
    (hb : ∀ (pm cv ctv u : Value), bindArgs (PySem.W.kla_fn "<lambda>" q pr bd sco (cloFrom X.env.cells sco.names []) pm cv ctv) ⟨[u], []⟩ = pure [(x, u)]) :
    CallRK X (.builtin "min") ["key"] (rMinKey X P q pr bd sco (cloFrom X.env.cells sco.names []) x) := by
  intro pins s σ H xs zs us ws Q I r r2 h
  obtain ⟨a, f, c', ys, ln, rfl, rfl, hf, hc, hl, pos, hbody, hQ⟩ := h
  obtain ⟨u, rfl, ru⟩ := vals1 r
  obtain ⟨u2, rfl, ru2⟩ := vals1 r2
  cases ru
  cases ru2
  show wpAny _ _ (call (.builtin "min") [.ref a] [(Str.ofString "key", .ref f)]) _ _ s
  obtain ⟨its, rv, pl, hz⟩ := I.list hl
  have hlen := rv.length
  obtain ⟨⟨pm, ctv, of⟩, _, _⟩ := I.hok f _ hf
  obtain ⟨⟨oc, vs, t, hoc, hdc, hvc⟩, _, _⟩ := I.hok c' _ hc
  obtain ⟨oa, hoa, hca, hda⟩ := id pl.isList
  have alt : a < s.heap.objs.size := Heap.lt_size hoa
  refine call_min_walkK (wpAny_pyIter_list pl.isList ?_)
  obtain ⟨s2, es2⟩ : ∃ s2 : Shared, s2 = { s with heap := s.heap.push { cls := .type "list_iterator", data := .fields #[.ref a, .int 0 0] } } := ⟨_, rfl⟩
  rw [← es2]
  have k2 : ∀ b o, s.heap.get? b = some o → s2.heap.get? b = some o := fun b o e => by
    rw [es2]
    exact Heap.get?_push_of_some _ e
  have sz2 : s2.heap.objs.size = s.heap.objs.size + 1 := by
    rw [es2]
    exact Heap.size_push _ _
  have itr2 : s2.heap.IsListIter s.heap.objs.size a 0 := by
    rw [es2]
    exact ⟨_, Heap.get?_push_size _ rfl, rfl, rfl⟩
  have m0 : Moved [s.heap.objs.size] (fun a b => b = a) s s2 := by
    rw [es2]
    exact ⟨fun b o _ e => Heap.get?_push_of_some _ e, rfl, rfl, rfl, Nat.le_refl _⟩
  have ne0 : a ≠ s.heap.objs.size := Nat.ne_of_lt alt
  have hsz : its.toArray.size = ys.length := by rw [List.size_toArray, hlen]
  have hh : X.A.in1.handled = none := hr.hd
  have W := (Walks.list (prog := X.prog) (w := X.w) (A := X.A.in1) hh s.heap.objs.size a ne0 its.toArray).toS
  -- what stands at s stands
  let J : Shared → Prop := fun s' => (∀ b o, s.heap.get? b = some o → s'.heap.get? b = some o) ∧ s'.gens = s.gens ∧ s'.drawn = s.drawn ∧ s'.os = s.os
  have back : ∀ s', J s' → Inv X pins σ H s' := fun s' ⟨j1, j2, j3, j4⟩ => by
    have I' := I.kept (t' := s'.toks) j1
    have e : ({ s with heap := s'.heap, toks := s'.toks } : Shared) = s' := by
      cases s'
      cases s
      simp only at j2 j3 j4
      subst j2 j3 j4
      rfl
    rw [e] at I'
    exact I'
  have lowS : ∀ b o, s.heap.get? b = some o → b ∉ [s2.heap.objs.size, s.heap.objs.size] := fun b o e hm => by
    have lt := Heap.lt_size e
    rcases List.mem_cons.mp hm with z | z
    · rw [z, sz2] at lt
      exact absurd lt (Nat.not_lt.mpr (Nat.le_succ _))
    · rw [List.mem_singleton.mp z] at lt
      exact Nat.lt_irrefl _ lt
  refine ⟨s.heap.objs.size, _, _, _, its.toArray.size, _, _, J, fun i u _ => ∃ t, u = Value.int (ln i : Nat) t, fun i j => decide (((ln i : Nat) : Int) < ((ln j : Nat) : Int)), rfl, W,
    ⟨itr2, oa, k2 _ _ hoa, hca, hda⟩, fun b hb => ?_, by rw [hsz]; exact pos, ⟨fun s3 s4 j mv => ?_, fun i k s3 s4 z _ => z, ?_, ?_⟩, ⟨k2, by rw [es2], by rw [es2], by rw [es2]⟩, fun v s' hv j => ?_⟩
  · show b < s2.heap.objs.size
    rw [sz2]
    rcases List.mem_cons.mp hb with z | z
    · rw [z]
      exact Nat.lt_succ_self _
    · rw [List.mem_singleton.mp z]
      exact Nat.lt_succ_of_lt alt
  · obtain ⟨j1, j2, j3, j4⟩ := j
    exact ⟨fun b o e => mv.heap b o (lowS b o e) (j1 b o e), mv.gens.trans j2, mv.drawn.trans j3, mv.os.trans j4⟩
  · intro i v s3 o Qk Ek hi hv j hst hS hk
    have hv' : its[i]? = some v := by simpa using hv
    obtain ⟨y, hy, ry⟩ : ∃ y, ys[i]? = some y ∧ RelV y v := by
      cases e : ys[i]? with
      | none =>
        rw [Vals.none_of rv e] at hv'
        cases hv'
      | some y =>
        obtain ⟨u', g1, g2⟩ := rv.get e
        rw [g1] at hv'
        cases hv'
        exact ⟨y, rfl, g2⟩
    have I3 := back s3 j
    have of3 := j.1 _ _ of
    refine wpAny_call (PySem.W.kla_callFunE (by have := hr.depth; exact this) of3 rfl S.co S.gen rfl ⟨c', oc, vs, t, rfl, j.1 _ _ hoc, hdc, hvc⟩ ?_)
    rw [hb]
    refine wpAny_pure (wpAny_newFunctionEnv S.cell (fun z hz => by rw [List.mem_singleton.mp hz]; exact S.loc) (fun h1 hns hsb => ⟨I3.nolimit.fresh _ hsb, ?_⟩) S.kind)
    have kp : ∀ b o, s3.heap.get? b = some o → h1.get? b = some o := fun b o e => hsb.extBut b o (Nat.ne_of_lt (Heap.lt_size e)) (Heap.get?_push_of_some _ e)
    refine PySem.W.kla_codeExpr (wpAny_mono (hbody pins σ s3 I3 i y v hy ry _ _ _ _ ?_ ⟨rfl, rfl, rfl, rfl, ⟨_, hns, ?_⟩, fun b o _ e => kp b o e⟩) (fun u' s5 hu => ?_) fun _ _ e => e)
    · exact hr.hd
    · simp
    · obtain ⟨ru', hk5⟩ := hu
      obtain ⟨h5, tk5, rfl, kk⟩ := hk5
      obtain ⟨t', rfl⟩ := ru'
      have all : ∀ b o, s3.heap.get? b = some o → h5.get? b = some o := fun b o e => kk b o (kp b o e)
      exact hk _ _ ⟨fun b o e => all b o (j.1 b o e), j.2.1, j.2.2.1, j.2.2.2⟩ ⟨let ⟨o, z1, z2⟩ := hst.1; ⟨o, all _ _ z1, z2⟩, let ⟨o, z1, z2⟩ := hst.2; ⟨o, all _ _ z1, z2⟩⟩ (all _ _ hS) ⟨t', rfl⟩ fun _ _ z => z
  · intro i j ki kj s3 Qk Ek _ hi hj hq'
    exact CmpOf.ints_lt (P := fun i v => ∃ t, v = Value.int (ln i : Nat) t) (fun i => ((ln i : Nat) : Int)) (fun _ _ z => z) i j ki kj s3 Qk Ek hi hj hq'
  · have hv' : its[argBest (fun i j => decide (((ln i : Nat) : Int) < ((ln j : Nat) : Int))) (ys.length - 1)]? = some v := by
      have := hv
      rw [hsz] at this
      simpa using this
    cases e : ys[argBest (fun i j => decide (((ln i : Nat) : Int) < ((ln j : Nat) : Int))) (ys.length - 1)]? with
    | none =>
      rw [Vals.none_of rv e] at hv'
      cases hv'
    | some y =>
      obtain ⟨u', g1, g2⟩ := rv.get e
      rw [g1] at hv'
      cases hv'
      exact ⟨y, H, back s' j, g2, hQ y e⟩
/-- min(e, key=lambda x: body) -/
theorem pe_minLam {k : Nat} {c P : Addr} {pr : Arguments} {bd e : Expr} {sco : Scope} {lp kpos p pos : Pos} {x : Str} {te : TE} (hr : Room (k + 1) X.A) (hc : X.calm = true) (hg : Gl X "min") (hm : X.mg "min" = none)
    (TB : LamX.TabB X.base X.mg c P) (hcode : X.env.code = .ref c) (hdef : defaultsOf pr X.env = ([], [])) (hfree : ∀ y ∈ sco.names, y.2 ≠ .free) (S : LamP sco x)
    (hb : ∀ (pm cv ctv u : Value), bindArgs (PySem.W.kla_fn "<lambda>" (lamQ X) pr bd sco (cloFrom X.env.cells sco.names []) pm cv ctv) ⟨[u], []⟩ = pure [(x, u)]) (ha : PE X e te)
    (he : backTo pos (starEach [e] X.env) = (false, eval e X.env) :: backTo pos (starEach [] X.env) := by rfl) (hpl : (backTo pos (starEach [e] X.env)).any (·.1) = false := by rfl) (hst : starEach [e] X.env = (false, eval e X.env) :: starEach [] X.env := by rfl) :
    PE X (.Call (.Name "min" p) [e] [⟨some "key", .Lambda pr bd sco lp, kpos⟩] pos)
      (tCKw (rMinKey X P (lamQ X) pr bd sco (cloFrom X.env.cells sco.names []) x) (tCons te tNil) (tCons (tLamV P (lamQ X) pr bd sco (cloFrom X.env.cells sco.names [])) tNil)) :=
  pe_callBK (ks := ["key"]) (cr_minKey hr rfl S hb) hg hm (by decide +kernel) (pa_cons ha pa_nil (hs := hst)) (pk_cons (pe_lam TB hcode hdef hfree) pk_nil) (he := he) (hpl := hpl)
end
end Own

set_option Elab.async false
set_option linter.all false
set_option maxRecDepth 100000
set_option maxHeartbeats 2000000
namespace Own
open PySem PySem.Spec PyProof.Rows L2
theorem nlt {b n : Nat} (e : b = n) (h : b < n) : False := by omega
theorem up1 {b n : Nat} (e : b = n) : b < n + 1 := by omega
theorem up2 {b c n : Nat} (e : b = c) (h : c < n) : b < n + 1 := by omega
/-! the view d.values() as a value; the greatest of such a view, with default= -/
abbrev vwObj (a : Addr) : Obj := { cls := .type "dict_values", data := .fields #[.ref a] }
def VwO (v a : Addr) : HO := .ext fun h => h.get? v = some (vwObj a)
theorem vw_ok {P : Program} {w : World} {H : Hp} {h : Heap} {v a : Addr} (e : h.get? v = some (vwObj a)) : ObjOk P w H h v (VwO v a) :=
  ⟨e, ⟨_, e⟩, fun _ _ p k => k _ p⟩
section
variable {X : Cx}
def rVals : V → List V → Hp → VK → Prop := fun x xs H Q =>
  ∃ (a : Addr) (kvs : List (Key × V)), x = .ref a ∧ xs = [] ∧ H a = some (.dK kvs) ∧ ∀ v, H v = none → Q (.ref v) (upd H v (VwO v a))
theorem mt_vals : MtR X "dict.values" rVals := by
  intro pins s σ H x xs v us Q I rx rxs h
  obtain ⟨a, kvs, rfl, rfl, ha, q⟩ := h
  cases rx
  cases rxs
  obtain ⟨_, hsys, vs, rel, dof⟩ := dk_of I.hok ha
  obtain ⟨ep, dat⟩ := dof.dictAt
  obtain ⟨ob, es, ho, ex, _⟩ := id dat
  refine call_meetsIn F.slot_dict_values ⟨ob, ho, ex.1⟩ F.entry_dict_values (F.args_dict_values_1 _)
    (meets_dict_values (mixKind X.prog X.w) a hsys) ⟨⟨vs, dof⟩, ?_⟩
  refine ⟨.ref s.heap.objs.size, _, I.laid (t' := s.toks) (o := VwO s.heap.objs.size a)
    (fun b u e => Heap.get?_push_of_some _ e) (Nat.le_refl _) (vw_ok (Heap.get?_push_size _ rfl)), rfl, q _ (I.hok.fresh (Nat.le_refl _))⟩
def rMaxD : List V → List V → Hp → VK → Prop := fun xs zs H Q => ∃ (v a : Addr) (kvs : List (Key × V)) (is : List Int) (d : Int),
  xs = [.ref v] ∧ zs = [.int d] ∧ H v = some (VwO v a) ∧ H a = some (.dK kvs) ∧ kvs.map (·.2) = is.map V.int ∧
  (is = [] → Q (.int d) H) ∧ ∀ m, m ∈ is → (∀ j ∈ is, j ≤ m) → Q (.int m) H
theorem cr_maxD (hc : X.calm = true) : CallRK X (.builtin "max") ["default"] rMaxD := by
  intro pins s σ H xs zs us ws Q I r r2 h
  obtain ⟨v, a, kvs, is, d, rfl, rfl, hv, ha, he, q0, q1⟩ := h
  obtain ⟨u, rfl, ru⟩ := vals1 r
  obtain ⟨u2, rfl, ru2⟩ := vals1 r2
  cases ru
  obtain ⟨t, rfl⟩ := ru2
  show wpAny _ _ (call (.builtin "max") [.ref v] [(Str.ofString "default", .int d t)]) _ _ s
  have hview : s.heap.get? v = some (vwObj a) := (I.hok v _ hv).1
  obtain ⟨_, hsys, vs, rel, dof⟩ := dk_of I.hok ha
  obtain ⟨ep, dat⟩ := dof.dictAt
  obtain ⟨ob, es, ho, ex, _⟩ := id dat
  have alt : a < s.heap.objs.size := Heap.lt_size ho
  have hne : a ≠ s.heap.objs.size := Nat.ne_of_lt alt
  have lens : vs.length = is.length := by
    have e1 := congrArg List.length he
    simp only [List.length_map] at e1
    rw [← e1, KV.length rel]
  have hval : ∀ (i : Nat) (x : Value), (∃ k, vs[i]? = some (k, x)) → ∃ t, x = Value.int (is.getD i 0) t := by
    intro i x ⟨k, hk⟩
    obtain ⟨y, h1, h2⟩ := KV.at' rel hk
    have e1 : (is.map V.int)[i]? = some y := by rw [← he, List.getElem?_map, h1]; rfl
    rw [List.getElem?_map] at e1
    obtain ⟨j, hj, rfl⟩ := Option.map_eq_some_iff.mp e1
    obtain ⟨t, rfl⟩ := h2
    exact ⟨t, by rw [List.getD_eq_getElem?_getD, hj]; rfl⟩
  refine call_max_walkD (wpAny_pyIter_values (v := v) (d := a) ⟨_, hview, rfl, rfl⟩ dat ?_)
  have gone : ∀ s' : Shared, Moved [s.heap.objs.size] (fun a b => b = a) { s with heap := s.heap.push { cls := .type "dict_valueiterator", data := .fields #[.ref a, .int 0 0, .int vs.length 0, .int ep 0] } } s' →
      Inv X pins σ H s' := by
    intro s' mv
    have k : ∀ b o, s.heap.get? b = some o → s'.heap.get? b = some o := fun b o e => by
      refine mv.heap b o ?_ (Heap.get?_push_of_some _ e)
      intro hm
      have e2 : b = s.heap.objs.size := List.mem_singleton.mp hm
      exact nlt e2 (Heap.lt_size e)
    have J := I.kept (t' := s'.toks) k
    have eg : s'.gens = s.gens := mv.gens
    have ed : s'.drawn = s.drawn := mv.drawn
    have eo : s'.os = s.os := mv.os
    have es : ({ s with heap := s'.heap, toks := s'.toks } : Shared) = s' := by
      cases s'
      cases s
      simp only at eg ed eo
      subst eg ed eo
      rfl
    rw [es] at J
    exact J
  refine ⟨s.heap.objs.size, _, _, _, vs.length, _, _, s.heap, fun i j => decide (is.getD i 0 > is.getD j 0), rfl,
    (Walks.dictValues (knd := mixKind X.prog X.w) (A := X.A.in1) (I.ok.hd hc) s.heap.objs.size a hne vs ep).toS,
    ⟨⟨_, Heap.get?_push_size _ rfl, rfl, rfl⟩, dat.keep fun b u e => Heap.get?_push_of_some _ e⟩, fun b hb => ?_, fun b o e hm => ?_, fun b o e => Heap.get?_push_of_some _ e, fun h0 s' mv => ?_, fun hn => ⟨?_, fun x s' hP mv => ?_⟩⟩
  · show b < (s.heap.push _).objs.size
    rw [Heap.size_push]
    rcases List.mem_cons.mp hb with e | hb
    · exact up1 e
    · exact up2 (List.mem_singleton.mp hb) alt
  · exact nlt (List.mem_singleton.mp hm) (Heap.lt_size e)
  · have e0 : is = [] := List.length_eq_zero_iff.mp (by omega)
    exact ⟨.int d, H, gone s' mv, ⟨t, rfl⟩, q0 e0⟩
  · intro i j vi vj s2 Q2 E2 _ hi hj hq
    exact CmpOf.ints_gt (fun i => is.getD i 0) hval i j vi vj s2 Q2 E2 hi hj hq
  · obtain ⟨t2, rfl⟩ := hval _ x hP
    obtain ⟨b1, b2⟩ := argBest_gt (fun i => is.getD i 0) (vs.length - 1)
    refine ⟨.int _, H, gone s' mv, ⟨t2, rfl⟩, q1 _ ?_ fun j hj => ?_⟩
    · have hb : argBest (fun i j => decide (is.getD i 0 > is.getD j 0)) (vs.length - 1) < is.length := by omega
      rw [List.getD_eq_getElem?_getD, List.getElem?_eq_getElem hb]
      exact List.getElem_mem hb
    · obtain ⟨i, hi, e⟩ := List.mem_iff_getElem.mp hj
      have e2 : is.getD i 0 = j := by rw [List.getD_eq_getElem?_getD, List.getElem?_eq_getElem hi, ← e]; rfl
      rw [← e2]
      exact b2 i (by omega)
end
end Own

set_option Elab.async false
set_option linter.all false
set_option maxRecDepth 100000
set_option maxHeartbeats 2000000
namespace Own
open PySem PySem.Spec PyProof.Rows L2
/-! list(d.values()) -/
def rListVw : List V → Hp → VK → Prop := fun xs H Q => ∃ (v a : Addr) (kvs : List (Key × V)), xs = [.ref v] ∧ H v = some (VwO v a) ∧ H a = some (.dK kvs) ∧ ∀ l, H l = none → Q (.ref l) (upd H l (.lst (kvs.map (·.2))))
section
variable {X : Cx}
theorem call_listVw (hc : X.calm = true) : CallR X (.type "list") rListVw := by
  intro pins s σ H xs us Q I r h
  obtain ⟨v, a, kvs, rfl, hv, ha, q⟩ := h
  obtain ⟨u, rfl, ru⟩ := vals1 r
  cases ru
  have view : s.heap.get? v = some (vwObj a) := (I.hok v _ hv).1
  obtain ⟨few, hsys, vs, rel, dof⟩ := dk_of I.hok ha
  obtain ⟨ep, dat⟩ := dof.dictAt
  have lens : kvs.length = vs.length := KV.length rel
  refine PySem.W.kdl_call (PySem.W.kdl_values (knd := mixKind X.prog X.w) (kvs := vs) (ep := ep) (r := v) (d := a)) (I.ok.hd hc) ⟨⟨_, view, rfl, rfl⟩, dat⟩ (by omega) fun h' tk acc c' keep new items => ?_
  have ok : Vals (kvs.map (·.2)) acc.toList := by
    obtain ⟨n1, n2⟩ := items
    have n1' : acc.toList.length = vs.length := by rw [Array.length_toList]; exact n1
    have go : ∀ (kvs : List (Key × V)) (vs : List (Key × Value)) (l : List Value), KV kvs vs → l.length = vs.length → (∀ (i : Nat) (x : Value), l[i]? = some x → ∃ k, vs[i]? = some (k, x)) → Vals (kvs.map (·.2)) l := by
      intro kvs
      induction kvs with
      | nil =>
        intro vs l r e _
        cases r
        rw [List.length_eq_zero_iff.mp e]
        exact .nil
      | cons p kvs ih =>
        intro vs l r e g
        cases r with
        | @cons _ q _ qs hpq r' =>
          cases l with
          | nil => cases e
          | cons x l =>
            obtain ⟨k, hk⟩ := g 0 x rfl
            have hq : q = (k, x) := Option.some.inj hk
            refine .cons ?_ (ih qs l r' (Nat.succ.inj e) fun i y hy => g (i + 1) y hy)
            have := hpq.2
            rw [hq] at this
            exact this
    exact go kvs vs acc.toList rel n1' fun i x hx => n2 i x (by rw [← Array.getElem?_toList]; exact hx)
  refine ⟨.ref _, _, I.laid (t' := tk) keep (Nat.le_refl _) (show ObjOk X.prog X.w _ h' _ (.lst (kvs.map (·.2))) from ⟨by rw [List.length_map]; exact few, acc.toList, c', ok, ?_⟩), rfl, q _ (I.hok.fresh (Nat.le_refl _))⟩
  rw [Array.toArray_toList]
  exact new
end
end Own

set_option Elab.async false
set_option linter.all false
set_option maxRecDepth 100000
namespace Own
open PySem PySem.Spec PyProof.Rows L2
/-! what goes on from heap to heap -/
/-- the tables of code objects: of generator expressions, of lambdas -/
structure Tbs where
  g : List Addr
  l : List (Addr × Str)
/-- what may be written without a word of tables, code objects, tuples -/
def plainO : HO → Bool
  | .lst _ => true
  | .dK _ => true
  | .dT _ => true
  | .ins _ _ _ => true
  | .own _ => true
  | .frz _ (.lst _) => true
  | .frz _ (.dK _) => true
  | .frz _ (.dT _) => true
  | _ => false
def tupO : HO → Bool
  | .tup _ => true
  | .frz _ (.tup _) => true
  | _ => false
theorem plain_tbl {o : HO} (h : plainO o = true) (ps : Array Value) : o ≠ .tbl ps := by
  intro z
  rw [z] at h
  cases h
theorem plain_ext {o : HO} (h : plainO o = true) (φ : Heap → Prop) : o ≠ .ext φ := by
  intro z
  rw [z] at h
  cases h
theorem plain_tup {o u : HO} (h : plainO o = true) (g : tupO u = true) : u ≠ o := by
  intro z
  rw [z] at g
  cases o with
  | tup xs => cases h
  | frz ob v => cases v <;> first | (cases h; done) | (cases g; done)
  | _ => cases g
/-- of H1 to H2: what S names may have changed; tuples, tables, all else stand; nothing known is forgotten -/
structure Fx (W : Tbs) (S : List Addr) (H H' : Hp) : Prop where
  o : ∀ b o, b ∉ S → H b = some o → (∀ ps, o ≠ .tbl ps) → H' b = some o
  u : ∀ b o, tupO o = true → H b = some o → H' b = some o
  g : ∀ P ∈ W.g, GxR.TabG H P → GxR.TabG H' P
  l : ∀ p ∈ W.l, LamX.TabS H p.1 p.2 → LamX.TabS H' p.1 p.2
  f : ∀ b, H' b = none → H b = none
abbrev Ext (W : Tbs) (H H' : Hp) : Prop := Fx W [] H H'
section
variable {W : Tbs} {S S' : List Addr} {H H1 H2 H' : Hp} {K : PySem.W.Frag}
theorem Fx.refl : Fx W S H H := ⟨fun _ _ _ e _ => e, fun _ _ _ e => e, fun _ _ h => h, fun _ _ h => h, fun _ h => h⟩
theorem Fx.trans (a : Fx W S H H1) (b : Fx W S H1 H2) : Fx W S H H2 :=
  ⟨fun c o hc e n => b.o c o hc (a.o c o hc e n) n, fun c o t e => b.u c o t (a.u c o t e), fun P hP h => b.g P hP (a.g P hP h), fun p hp h => b.l p hp (a.l p hp h), fun c h => a.f c (b.f c h)⟩
theorem Fx.wk (a : Fx W S H H1) (h : ∀ x ∈ S, x ∈ S') : Fx W S' H H1 := ⟨fun c o hc => a.o c o fun z => hc (h c z), a.u, a.g, a.l, a.f⟩
theorem Fx.up (a : Ext W H H1) : Fx W S H H1 := a.wk fun x hx => absurd hx (by simp)
/-- what S names was not there at first -/
theorem Fx.down (a : Fx W S H H1) (h : ∀ x ∈ S, H x = none) : Ext W H H1 :=
  ⟨fun c o _ e n => a.o c o (fun z => by rw [h c z] at e; cases e) e n, a.u, a.g, a.l, a.f⟩
theorem Fx.of (s : Same H H') : Fx W S H H' := ⟨fun b o _ e _ => s b o e, fun b o _ e => s b o e, fun P _ ⟨ps, h1, h2⟩ => ⟨ps, s _ _ h1, h2⟩, fun p _ h => h.ext s, fun _ h => s.free h⟩
theorem same_new {p : Addr} {o : HO} (h : H p = none) : Same H (upd H p o) := fun b x e => by
  rw [upd_ne (ne_of_none e h)]
  exact e
theorem Fx.new {p : Addr} {o : HO} (h : H p = none) : Fx W S H (upd H p o) := .of (same_new h)
theorem tabS_write {p P : Addr} {o o1 : HO} {q : Str} (h1 : H p = some o1) (t1 : ∀ ps, o1 ≠ .tbl ps) (t2 : ∀ q, o1 ≠ LamX.CodeO p q) (h : LamX.TabS H P q) : LamX.TabS (upd H p o) P q := by
  obtain ⟨ps, a, b, c⟩ := h
  refine ⟨ps, by rw [upd_ne (fun z => t1 ps (by rw [z, h1] at a; exact Option.some.inj a))]; exact a, b, fun pos cv e => ?_⟩
  obtain ⟨d, e1, e2⟩ := c pos cv e
  refine ⟨d, e1, ?_⟩
  rw [upd_ne (fun z => t2 q (by rw [z, h1] at e2; exact Option.some.inj e2))]
  exact e2
theorem tabG_write {p P : Addr} {o o1 : HO} (h1 : H p = some o1) (t1 : ∀ ps, o1 ≠ .tbl ps) (h : GxR.TabG H P) : GxR.TabG (upd H p o) P := by
  obtain ⟨ps, a, b⟩ := h
  exact ⟨ps, by rw [upd_ne (fun z => t1 ps (by rw [z, h1] at a; exact Option.some.inj a))]; exact a, b⟩
/-- something is written: what was not there at first, or what S names -/
theorem Fx.putG {p : Addr} {o o1 : HO} (e : Fx W S H H1) (h : H p = none ∨ p ∈ S) (h1 : H1 p = some o1) (t1 : ∀ ps, o1 ≠ .tbl ps) (t2 : ∀ q, o1 ≠ LamX.CodeO p q) (t3 : tupO o1 = false) : Fx W S H (upd H1 p o) := by
  refine ⟨fun b x hb q n => ?_, fun b x t q => ?_, fun P hP hT => tabG_write h1 t1 (e.g P hP hT), fun P hP hT => tabS_write h1 t1 t2 (e.l P hP hT), fun b q => ?_⟩
  · rw [upd_ne (fun z => ?_)]
    · exact e.o b x hb q n
    · rw [z] at q hb
      rcases h with h | h
      · rw [h] at q; cases q
      · exact hb h
  · have q' := e.u b x t q
    rw [upd_ne (fun z => ?_)]
    · exact q'
    · rw [z, h1] at q'
      rw [← Option.some.inj q', t3] at t
      cases t
  · by_cases z : b = p
    · rw [z, upd_same] at q
      cases q
    · rw [upd_ne z] at q
      exact e.f b q
theorem plain_tupF {o : HO} (h : plainO o = true) : tupO o = false := by
  cases e : tupO o with
  | false => rfl
  | true => exact absurd rfl (plain_tup h e)
theorem Fx.put {p : Addr} {o o1 : HO} (e : Fx W S H H1) (h : H p = none ∨ p ∈ S) (h1 : H1 p = some o1) (t : plainO o1 = true := by rfl) : Fx W S H (upd H1 p o) :=
  e.putG h h1 (plain_tbl t) (fun q => plain_ext t _) (plain_tupF t)
/-- a thing is locked, walked, unlocked -/
theorem Fx.locked {d : Addr} {od : Obj} {u : HO} (hd : H d = some u) (t : plainO u = true) (t' : plainO (.frz od u) = true) (x : Fx W S (upd H d (.frz od u)) H') (hd' : H' d = some (.frz od u)) : Fx W S H (upd H' d u) := by
  refine ⟨fun b o hb e n => ?_, fun b o tu e => ?_, fun P hP h => tabG_write hd' (plain_tbl t') (x.g P hP (tabG_write hd (plain_tbl t) h)),
    fun p hp h => tabS_write hd' (plain_tbl t') (fun q => plain_ext t' _) (x.l p hp (tabS_write hd (plain_tbl t) (fun q => plain_ext t _) h)), fun b e => ?_⟩
  · by_cases z : b = d
    · rw [z, upd_same]
      rw [z, hd] at e
      exact e
    · rw [upd_ne z]
      exact x.o b o hb (by rw [upd_ne z]; exact e) n
  · have z : b ≠ d := fun z => plain_tup t tu (by rw [z, hd] at e; exact (Option.some.inj e).symm)
    rw [upd_ne z]
    exact x.u b o tu (by rw [upd_ne z]; exact e)
  · by_cases z : b = d
    · rw [z, upd_same] at e
      cases e
    · rw [upd_ne z] at e
      have := x.f b e
      rw [upd_ne z] at this
      exact this
/-- a generator expression's table is written -/
theorem Fx.tab {P : Addr} (hT : GxR.TabG H P) (h : GxR.Tabbed P H H') (nl : ∀ p ∈ W.l, p.1 ≠ P) : Fx W S H H' := by
  obtain ⟨h1, h2⟩ := h
  have nP : ∀ b o, H b = some o → (∀ ps, o ≠ .tbl ps) → b ≠ P := fun b o e n z => by
    obtain ⟨ps, g, _⟩ := hT
    rw [z, g] at e
    exact n ps (Option.some.inj e).symm
  refine ⟨fun b o _ e n => by rw [h2 b (nP b o e n)]; exact e, fun b o t e => by rw [h2 b (nP b o e (fun ps z => by rw [z] at t; cases t))]; exact e, fun Q hQ hTQ => ?_, fun p hp hS => ?_, fun b q => ?_⟩
  · by_cases z : Q = P
    · rw [z]
      exact h1
    · obtain ⟨ps, g1, g2⟩ := hTQ
      exact ⟨ps, by rw [h2 Q z]; exact g1, g2⟩
  · obtain ⟨ps, a, b, c⟩ := hS
    refine ⟨ps, by rw [h2 _ (nl p hp)]; exact a, b, fun pos cv e => ?_⟩
    obtain ⟨d, e1, e2⟩ := c pos cv e
    exact ⟨d, e1, by rw [h2 d (nP d _ e2 (fun ps => LamX.codeO_ne ps))]; exact e2⟩
  · by_cases z : b = P
    · obtain ⟨ps, g, _⟩ := h1
      rw [z, g] at q
      cases q
    · rw [h2 b z] at q
      exact q
/-- a lambda is made -/
theorem Fx.lam {P : Addr} {q : Str} (h : LamNew P q H H') (hS : LamX.TabS H' P q) (hl : ∀ p ∈ W.l, p.1 = P → p.2 = q) : Fx W S H H' := by
  rcases h with h | ⟨ps, more, c, hP, hc, h⟩
  · rw [h]
    exact .refl
  · have at_ : ∀ b, b ≠ P → b ≠ c → H' b = H b := fun b h1 h2 => by rw [h, upd_ne h2, upd_ne h1]
    have nP : ∀ b o, H b = some o → (∀ ps, o ≠ .tbl ps) → b ≠ P := fun b o e n z => by
      rw [z, hP] at e
      exact n ps (Option.some.inj e).symm
    have keep : ∀ b o, H b = some o → (∀ ps, o ≠ .tbl ps) → H' b = some o := fun b o e n => by
      rw [at_ b (nP b o e n) (ne_of_none e hc)]
      exact e
    refine ⟨fun b o _ => keep b o, fun b o t e => keep b o e (fun ps z => by rw [z] at t; cases t), fun Q hQ hTQ => ?_, fun p hp hS2 => ?_, fun b e => ?_⟩
    · by_cases z : Q = P
      · obtain ⟨qs, a, b, _⟩ := hS
        rw [z]
        exact ⟨qs, a, b⟩
      · obtain ⟨qs, a, b⟩ := hTQ
        exact ⟨qs, by rw [at_ Q z (ne_of_none a hc)]; exact a, b⟩
    · by_cases z : p.1 = P
      · rw [hl p hp z, z]
        exact hS
      · obtain ⟨qs, a, b, k⟩ := hS2
        refine ⟨qs, by rw [at_ _ z (ne_of_none a hc)]; exact a, b, fun pos cv e => ?_⟩
        obtain ⟨d, e1, e2⟩ := k pos cv e
        exact ⟨d, e1, keep d _ e2 (fun ps => LamX.codeO_ne ps)⟩
    · by_cases z : b = P
      · obtain ⟨qs, a, _⟩ := hS
        rw [z, a] at e
        cases e
      · by_cases y : b = c
        · rw [y]
          exact hc
        · rw [at_ b z y] at e
          exact e
theorem Fx.seq {a : Addr} {xs : List V} (e : Fx W S H H') (h : SqL K H a xs) (ha : a ∉ S := by simp) : SqL K H' a xs := by
  rcases h with (h | ⟨o, h⟩) | h
  · exact .inl (.inl (e.o _ _ ha h (fun _ z => by cases z)))
  · exact .inl (.inr ⟨o, e.o _ _ ha h (fun _ z => by cases z)⟩)
  · exact .inr h
theorem Fx.tup {a : Addr} {xs : List V} (e : Fx W S H H') (h : SqT K H a xs) : SqT K H' a xs := by
  rcases h with (h | ⟨o, h⟩) | h
  · exact .inl (.inl (e.u _ _ rfl h))
  · exact .inl (.inr ⟨o, e.u _ _ rfl h⟩)
  · exact .inr h
theorem Fx.lst {a : Addr} {xs : List V} (e : Fx W S H H') (h : H a = some (.lst xs)) (ha : a ∉ S := by simp) : H' a = some (.lst xs) := e.o _ _ ha h (fun _ z => by cases z)
theorem Fx.dk {a : Addr} {kvs : List (Key × V)} (e : Fx W S H H') (h : H a = some (.dK kvs)) (ha : a ∉ S := by simp) : H' a = some (.dK kvs) := e.o _ _ ha h (fun _ z => by cases z)
theorem Fx.dt {a : Addr} {kvs : List (List Key × V)} (e : Fx W S H H') (h : H a = some (.dT kvs)) (ha : a ∉ S := by simp) : H' a = some (.dT kvs) := e.o _ _ ha h (fun _ z => by cases z)
theorem Fx.fz {a : Addr} {od : Obj} {v : HO} (e : Fx W S H H') (h : H a = some (.frz od v)) (ha : a ∉ S := by simp) : H' a = some (.frz od v) := e.o _ _ ha h (fun _ z => by cases z)
theorem Fx.tp {a : Addr} {xs : List V} (e : Fx W S H H') (h : H a = some (.tup xs)) : H' a = some (.tup xs) := e.u _ _ rfl h
theorem Fx.ins {a C dx : Addr} {fs : List (Str × V)} (e : Fx W S H H') (h : H a = some (.ins C dx fs)) (ha : a ∉ S := by simp) : H' a = some (.ins C dx fs) := e.o _ _ ha h (fun _ z => by cases z)
/-! new objects: the heap behind is given a name -/
@[elab_as_elim] theorem newO {motive : Hp → Prop} {p : Addr} {o : HO} (W : Tbs) (np : H p = none) (h : ∀ H', Ext W H H' → H' p = some o → motive H') : motive (upd H p o) := h _ (.new np) upd_same
/-- a list of things, each told of by its own word -/
def Each (K : PySem.W.Frag) (H : Hp) (as : List Addr) (ts : List (List Int)) : Prop := Paired (fun b r => SqT K H b (r.map V.int)) as ts
/-- a list of tuples of ints -/
def Rows (K : PySem.W.Frag) (H : Hp) (a : Addr) (ts : List (List Int)) : Prop := ∃ as : List Addr, SqL K H a (as.map V.ref) ∧ Each K H as ts
theorem Fx.each (e : Fx W S H H') : ∀ {as : List Addr} {ts : List (List Int)}, Each K H as ts → Each K H' as ts
  | _, _, .nil => .nil
  | _, _, .cons h t => .cons (e.tup h) (Fx.each e t)
theorem Fx.rows {a : Addr} {ts : List (List Int)} (e : Fx W S H H') (h : Rows K H a ts) (ha : a ∉ S := by simp) : Rows K H' a ts := by
  obtain ⟨as, h1, h2⟩ := h
  exact ⟨as, e.seq h1 ha, e.each h2⟩
theorem Each.len {as : List Addr} {ts : List (List Int)} (h : Each K H as ts) : as.length = ts.length := Paired.length h
theorem Each.at : ∀ {as : List Addr} {ts : List (List Int)} {i : Nat} {r : List Int}, Each K H as ts → ts[i]? = some r → ∃ b, as[i]? = some b ∧ SqT K H b (r.map V.int)
  | _, _, _, _, .nil, h => by simp at h
  | b :: _, t :: _, 0, r, .cons h _, e => by
    have e' : t = r := Option.some.inj e
    subst e'
    exact ⟨b, rfl, h⟩
  | _ :: _, _ :: _, i + 1, r, .cons _ t, e => by
    obtain ⟨b, h1, h2⟩ := Each.at (i := i) (r := r) t (by simpa using e)
    exact ⟨b, by simpa using h1, h2⟩
theorem Each.on : ∀ {as : List Addr} {ts : List (List Int)} {i : Nat} {b : Addr}, Each K H as ts → as[i]? = some b → ∃ r, ts[i]? = some r ∧ SqT K H b (r.map V.int)
  | _, _, _, _, .nil, h => by simp at h
  | c :: _, t :: _, 0, b, .cons h _, e => by
    have e' : c = b := Option.some.inj e
    subst e'
    exact ⟨t, rfl, h⟩
  | _ :: _, _ :: _, i + 1, b, .cons _ t, e => by
    obtain ⟨r, h1, h2⟩ := Each.on (i := i) (b := b) t (by simpa using e)
    exact ⟨r, by simpa using h1, h2⟩
theorem Each.snoc : ∀ {as : List Addr} {ts : List (List Int)} {b : Addr} {r : List Int}, Each K H as ts → SqT K H b (r.map V.int) → Each K H (as ++ [b]) (ts ++ [r])
  | _, _, _, _, .nil, h => .cons h .nil
  | _, _, _, _, .cons q t, h => .cons q (Each.snoc t h)
theorem Each.app : ∀ {as bs : List Addr} {ts us : List (List Int)}, Each K H as ts → Each K H bs us → Each K H (as ++ bs) (ts ++ us)
  | _, _, _, _, .nil, h => h
  | _, _, _, _, .cons q t, h => .cons q (Each.app t h)
theorem Each.take : ∀ {as : List Addr} {ts : List (List Int)} (n : Nat), Each K H as ts → Each K H (as.take n) (ts.take n)
  | _, _, 0, _ => .nil
  | _, _, _ + 1, .nil => .nil
  | _, _, n + 1, .cons q t => .cons q (Each.take n t)
theorem Each.drop : ∀ {as : List Addr} {ts : List (List Int)} (n : Nat), Each K H as ts → Each K H (as.drop n) (ts.drop n)
  | _, _, 0, h => h
  | _, _, _ + 1, .nil => .nil
  | _, _, n + 1, .cons _ t => Each.drop n t
/-- the i-th value of such a list -/
theorem Each.val {as : List Addr} {ts : List (List Int)} {i : Nat} {x : V} (h : Each K H as ts) (e : (as.map V.ref)[i]? = some x) : ∃ b r, x = .ref b ∧ as[i]? = some b ∧ ts[i]? = some r ∧ SqT K H b (r.map V.int) := by
  rw [List.getElem?_map] at e
  obtain ⟨b, hb, rfl⟩ := Option.map_eq_some_iff.mp e
  obtain ⟨r, h1, h2⟩ := h.on hb
  exact ⟨b, r, rfl, hb, h1, h2⟩
end

section
variable {X : Cx}
/-- a constant of the module: an int, a text -/
theorem pe_ci {x : Str} {i : Int} {t : Tok} {pos : Pos} (hg : Gl X x) (hm : X.mg x = some (.int i t)) (hd : (x == ("__debug__" : Str)) = false := by decide) :
    PE X (.Name x pos) (tC (.int i)) := pe_glob hg hm ⟨t, rfl⟩ hd
theorem pe_cs {x : Str} {z : Str} {t : Tok} {pos : Pos} (hg : Gl X x) (hm : X.mg x = some (.str z t)) (hd : (x == ("__debug__" : Str)) = false := by decide) :
    PE X (.Name x pos) (tC (.str z)) := pe_glob hg hm ⟨t, rfl⟩ hd
end
section
/-! the rules with the written part named: for use within a comprehension's block -/
theorem ixL (K : PySem.W.Frag) {X : Cx} (h : X.K = K := by rfl) : IxR X (rIxL K) := by
  subst h
  exact ix_list
theorem ixT (K : PySem.W.Frag) {X : Cx} (h : X.K = K := by rfl) : IxR X (rIxT K) := by
  subst h
  exact ix_tup
theorem slL (K : PySem.W.Frag) {X : Cx} (h : X.K = K := by rfl) : SlR X (rSlL K) := by
  subst h
  exact sl_list
theorem slT (K : PySem.W.Frag) {X : Cx} (h : X.K = K := by rfl) : SlR X (rSlT K) := by
  subst h
  exact sl_tup
def rLenQ (K : PySem.W.Frag) : List V → Hp → VK → Prop := fun xs H Q => ∃ p ys, xs = [.ref p] ∧ (SqL K H p ys ∨ SqT K H p ys) ∧ Q (.int ys.length) H
theorem lenQ (K : PySem.W.Frag) {X : Cx} (h : X.K = K := by rfl) : CallR X (.builtin "len") (rLenQ K) := by
  subst h
  exact call_len_seq
theorem minL (K : PySem.W.Frag) {X : Cx} (hc : X.calm = true) (h : X.K = K := by rfl) : CallR X (.builtin "min") (rMin K) := by
  subst h
  exact cr_min hc
theorem maxL (K : PySem.W.Frag) {X : Cx} (hc : X.calm = true) (h : X.K = K := by rfl) : CallR X (.builtin "max") (rMax K) := by
  subst h
  exact cr_max hc
theorem sumL (K : PySem.W.Frag) {X : Cx} (hc : X.calm = true) (h : X.K = K := by rfl) : CallR X (.builtin "sum") (rSum K) := by
  subst h
  exact cr_sum hc
theorem inS (K : PySem.W.Frag) {X : Cx} (h : X.K = K := by rfl) : OpR X (compareOp .In) (rIn K false) := by
  subst h
  exact op_in_seq
theorem ninS (K : PySem.W.Frag) {X : Cx} (h : X.K = K := by rfl) : OpR X (compareOp .NotIn) (rIn K true) := by
  subst h
  exact op_notIn_seq
theorem eqD (K : PySem.W.Frag) {X : Cx} (hu : X.A.units + 64 < cLine) (h : X.K = K := by rfl) : OpR X (compareOp .Eq) (rEqD K) := by
  subst h
  exact op_eqD hu
theorem neD (K : PySem.W.Frag) {X : Cx} (hu : X.A.units + 64 < cLine) (h : X.K = K := by rfl) : OpR X (compareOp .NotEq) (rNeD K) := by
  subst h
  exact op_neD hu
theorem cntL (K : PySem.W.Frag) {X : Cx} (h : X.K = K := by rfl) : MtR X "list.count" (rCntI K) := by
  subst h
  exact mt_lcount
def rListOf (K : PySem.W.Frag) : List V → Hp → VK → Prop := fun xs H Q => ∃ p ys, xs = [.ref p] ∧ (SqL K H p ys ∨ SqT K H p ys) ∧ ∀ l, H l = none → Q (.ref l) (upd H l (.lst ys))
theorem listOf (K : PySem.W.Frag) {X : Cx} (h : X.K = K := by rfl) : CallR X (.type "list") (rListOf K) := by
  subst h
  exact call_list_of
theorem isiO (K : PySem.W.Frag) {X : Cx} (h : X.K = K := by rfl) : CallR X (.builtin "isinstance") (rIsi K) := by
  subst h
  exact call_isi
theorem catT (K : PySem.W.Frag) {X : Cx} (h : X.K = K := by rfl) : OpR X (binaryOp .Add) (rCatT K) := by
  subst h
  exact op_catT
theorem bmC (K : PySem.W.Frag) {X : Cx} {e : Expr} {T : String} {to : TE} {t : TA} {r : V → List V → Hp → VK → Prop}
    (p : PE X e (tBM X.K T r to t)) (h : X.K = K := by rfl) : PE X e (tBM K T r to t) := by
  subst h
  exact p
theorem bm0C (K : PySem.W.Frag) {X : Cx} {e : Expr} {T : String} {to : TE} {r : V → List V → Hp → VK → Prop}
    (p : PE X e (tBM0 X.K T r to)) (h : X.K = K := by rfl) : PE X e (tBM0 K T r to) := by
  subst h
  exact p
theorem fldC (K : PySem.W.Frag) {X : Cx} {e : Expr} {f : Str} {ta : TE}
    (p : PE X e (tFld X.K ta f)) (h : X.K = K := by rfl) : PE X e (tFld K ta f) := by
  subst h
  exact p
end
theorem yesT {σ : L2.St} {H : Hp} {A B : Hp → Prop} (h : A H) : tYes σ H (fun b H3 => if b = true then A H3 else B H3) := by
  show if true = true then A H else B H
  rw [if_pos rfl]
  exact h
/-- a tuple stays where something that is no tuple is written -/
theorem tup_upd {K : PySem.W.Frag} {H : Hp} {a D : Addr} {o u : HO} {xs : List V} (hD : H D = some u) (h1 : ∀ ys, u ≠ .tup ys) (h2 : ∀ o ys, u ≠ .frz o (.tup ys)) (h : SqT K H a xs) : SqT K (upd H D o) a xs := by
  rcases h with (h | ⟨ob, h⟩) | h
  · exact .inl (.inl (by rw [upd_ne (fun z => by rw [z, hD] at h; exact h1 _ (Option.some.inj h))]; exact h))
  · exact .inl (.inr ⟨ob, by rw [upd_ne (fun z => by rw [z, hD] at h; exact h2 _ _ (Option.some.inj h))]; exact h⟩)
  · exact .inr h
/-! slices by places -/
theorem cut_ij (xs : List V) (i j : Nat) : cutV xs (some (i : Int)) (some (j : Int)) = (xs.drop i).take (j - i) := by
  unfold cutV
  rw [HT.sIx_nat, HT.sIx_nat]
  by_cases h : i ≤ xs.length
  · rw [Nat.min_eq_left h]
    by_cases g : j ≤ xs.length
    · rw [Nat.min_eq_left g]
    · rw [Nat.min_eq_right (by omega), List.take_of_length_le (by rw [List.length_drop]; exact Nat.le_refl _), List.take_of_length_le (by rw [List.length_drop]; omega)]
  · rw [List.drop_of_length_le (by omega), List.drop_of_length_le (by omega), List.take_nil, List.take_nil]
theorem cut_j (xs : List V) (j : Nat) : cutV xs none (some (j : Int)) = xs.take j := by
  unfold cutV
  rw [HT.sIx_nat, HT.sIx_none, List.drop_zero, Nat.sub_zero]
  by_cases g : j ≤ xs.length
  · rw [Nat.min_eq_left g]
  · rw [Nat.min_eq_right (by omega), List.take_of_length_le (Nat.le_refl _), List.take_of_length_le (by omega)]
theorem cut_i (xs : List V) (i : Nat) : cutV xs (some (i : Int)) none = xs.drop i := by
  unfold cutV
  rw [HT.sIx_nat, HT.sIx_none]
  by_cases h : i ≤ xs.length
  · rw [Nat.min_eq_left h, List.take_of_length_le (by rw [List.length_drop]; exact Nat.le_refl _)]
  · rw [List.drop_of_length_le (by omega), List.drop_of_length_le (by omega), List.take_nil]
/-- for i, x in enumerate(a list that the body leaves as it is) -/
theorem for_enum {K : PySem.W.Frag} {a : Addr} {xs : List V} {g : TG} {tb : TS} {D : Ends} {σ : L2.St} {H : Hp} (Pv : Nat → L2.St → Hp → Prop)
    (h0 : Pv 0 σ H) (hl : ∀ i σ H, i ≤ xs.length → Pv i σ H → SqL K H a xs)
    (hs : ∀ i x σ H T, xs[i]? = some x → Pv i σ H → H T = none → g (.ref T) σ (upd H T (.tup [.int (i : Nat), x])) fun σ2 H2 =>
      tb { D with nx := Pv (i + 1), ct := Pv (i + 1), bk := D.nx } σ2 H2)
    (hd : ∀ σ H, Pv xs.length σ H → D.nx σ H) :
    ∃ W : Nat → Nat → L2.St → Hp → Prop, (∃ m, W 0 m σ H) ∧ ∀ i m σ H, W i m σ H → ((Ite K a).stop i H ∧ D.nx σ H) ∨
      ((Ite K a).go i H ∧ ∃ N : L2.St → Hp → Prop, (∀ σ' H', N σ' H' → ∃ m', m' < m ∧ W (i + 1) m' σ' H') ∧
        ∀ x H', (Ite K a).yld i H x H' → g x σ H' fun σ2 H2 => tb { D with nx := N, ct := N, bk := D.nx } σ2 H2) := by
  refine ⟨fun i m σ H => m + i = xs.length ∧ Pv i σ H, ⟨_, Nat.add_zero _, h0⟩, fun i m σ H hw => ?_⟩
  obtain ⟨hm, p⟩ := hw
  have here := hl i σ H (by omega) p
  rcases Nat.lt_or_ge i xs.length with lt | ge
  · refine .inr ⟨⟨xs, xs[i], here, List.getElem?_eq_getElem lt⟩, Pv (i + 1), fun σ' H' p' => ⟨m - 1, by omega, by omega, p'⟩, ?_⟩
    rintro v H' ⟨T, x, rfl, hT, rfl, hx⟩
    exact hs i x σ H T (hx xs here) p hT
  · have e : i = xs.length := by omega
    rw [e] at p
    exact .inl ⟨⟨xs, here, ge⟩, hd σ H p⟩
end Own

set_option Elab.async false
set_option linter.all false
namespace K08
/-! the mathematics: ends, the count, goodness -/
abbrev Row := List Int
def ends (ts : List Row) (sd : Nat) : List Int := ts.map (·.getD sd 0)
def most (es : List Int) : Nat := (es.map es.count).foldl max 0
theorem foldl_max_ge (l : List Nat) : ∀ a, a ≤ l.foldl max a := by
  induction l with
  | nil => intro a; exact Nat.le_refl _
  | cons x r ih => intro a; exact Nat.le_trans (Nat.le_max_left a x) (ih (max a x))
theorem foldl_max_mem (l : List Nat) : ∀ a x, x ∈ l → x ≤ l.foldl max a := by
  induction l with
  | nil => intro a x h; cases h
  | cons y r ih =>
    intro a x h
    rcases List.mem_cons.mp h with e | h
    · subst e
      exact Nat.le_trans (Nat.le_max_right a x) (foldl_max_ge r _)
    · exact ih _ x h
theorem foldl_max_in (l : List Nat) : ∀ a, l.foldl max a = a ∨ l.foldl max a ∈ l := by
  induction l with
  | nil => intro a; exact .inl rfl
  | cons y r ih =>
    intro a
    rcases ih (max a y) with e | e
    · rcases Nat.le_total a y with h | h
      · right
        show r.foldl max (max a y) ∈ y :: r
        rw [e, Nat.max_eq_right h]
        exact List.mem_cons_self
      · left
        show r.foldl max (max a y) = a
        rw [e, Nat.max_eq_left h]
    · exact .inr (List.mem_cons_of_mem _ e)
theorem most_ge {es : List Int} {e : Int} (h : e ∈ es) : es.count e ≤ most es := foldl_max_mem _ _ _ (List.mem_map.mpr ⟨e, h, rfl⟩)
theorem most_in (es : List Int) : most es = 0 ∨ ∃ e ∈ es, most es = es.count e := by
  rcases foldl_max_in (es.map es.count) 0 with h | h
  · exact .inl h
  · obtain ⟨e, he, q⟩ := List.mem_map.mp h
    exact .inr ⟨e, he, q.symm⟩
/-- a number that is the count of some end, and no end's is greater -/
theorem most_is {es : List Int} {m : Int} (h0 : es = [] → m = 0) (h1 : es ≠ [] → (∃ e ∈ es, m = (es.count e : Nat)) ∧ ∀ e ∈ es, ((es.count e : Nat) : Int) ≤ m) : m = (most es : Nat) := by
  by_cases e : es = []
  · rw [h0 e, e]
    rfl
  · obtain ⟨⟨x, hx, rfl⟩, hg⟩ := h1 e
    have a := most_ge hx
    rcases most_in es with z | ⟨y, hy, q⟩
    · omega
    · have := hg y hy
      omega
def count (ts : List Row) : Nat := max (most (ends ts 0)) (most (ends ts 1))
def keys (ts : List Row) (sd : Nat) : List Row := ts.map fun r => [r.getD sd 0, r.getD 2 0]
def good (ts : List Row) : Bool := (ts.all fun r => decide (r.getD 2 0 < (count ts : Nat))) && decide (keys ts 0).Nodup && decide (keys ts 1).Nodup
def meets (a b : Row) : Bool := decide (a.getD 2 0 = b.getD 2 0) && (decide (a.getD 0 0 = b.getD 0 0) || decide (a.getD 1 0 = b.getD 1 0))
/-- the law's own look: no later row meets an earlier one with the same hue -/
def apart (ts : List Row) : Bool := (List.range ts.length).all fun k => (ts.take k).all fun o => !meets o (ts.getD k [])
def due (ts : List Row) : Bool := apart ts && ts.all fun r => decide (r.getD 2 0 < (count ts : Nat))
theorem nodup_keys {ts : List Row} {sd : Nat} : (keys ts sd).Nodup ↔ ∀ (k : Nat) (a : Row), ts[k]? = some a → ∀ o ∈ ts.take k, ¬ (o.getD 2 0 = a.getD 2 0 ∧ o.getD sd 0 = a.getD sd 0) := by
  unfold keys
  rw [List.nodup_iff_pairwise_ne, List.pairwise_map, List.pairwise_iff_getElem]
  constructor
  · intro h k a hk o ho ⟨e1, e2⟩
    obtain ⟨i, hi, e⟩ := List.getElem_of_mem ho
    obtain ⟨hk', ek⟩ := List.getElem?_eq_some_iff.mp hk
    rw [List.length_take] at hi
    rw [List.getElem_take] at e
    refine h i k (by omega) hk' (by omega) ?_
    rw [e, ek, e1, e2]
  · intro h i j hi hj hij e
    have e1 := (List.cons.inj e).1
    have e2 := (List.cons.inj (List.cons.inj e).2).1
    exact h j ts[j] (List.getElem?_eq_getElem hj) ts[i] (List.mem_take_iff_getElem.mpr ⟨i, by omega, rfl⟩) ⟨e2, e1⟩
theorem good_due (ts : List Row) : good ts = due ts := by
  have key : (decide (keys ts 0).Nodup && decide (keys ts 1).Nodup) = apart ts := by
    rw [Bool.eq_iff_iff, Bool.and_eq_true, decide_eq_true_eq, decide_eq_true_eq, nodup_keys, nodup_keys]
    unfold apart
    rw [List.all_eq_true]
    constructor
    · rintro ⟨h0, h1⟩ k hk
      have hk' := List.mem_range.mp hk
      rw [List.all_eq_true]
      intro o ho
      have ek : ts[k]? = some ts[k] := List.getElem?_eq_getElem hk'
      have g : ts.getD k [] = ts[k] := by rw [List.getD_eq_getElem?_getD, ek]; rfl
      have a := h0 k _ ek o ho
      have b := h1 k _ ek o ho
      rw [g]
      unfold meets
      simp only [Bool.not_eq_true', Bool.and_eq_false_iff, decide_eq_false_iff_not, Bool.or_eq_false_iff]
      by_cases c : o.getD 2 0 = ts[k].getD 2 0
      · exact .inr ⟨fun z => a ⟨c, z⟩, fun z => b ⟨c, z⟩⟩
      · exact .inl c
    · intro h
      have one : ∀ (k : Nat) (a : Row), ts[k]? = some a → ∀ o ∈ ts.take k, meets o a = false := by
        intro k a hk o ho
        obtain ⟨hk', ek⟩ := List.getElem?_eq_some_iff.mp hk
        have q := List.all_eq_true.mp (h k (List.mem_range.mpr hk')) o ho
        have g : ts.getD k [] = a := by rw [List.getD_eq_getElem?_getD, hk]; rfl
        rw [g] at q
        simpa using q
      refine ⟨fun k a hk o ho ⟨e1, e2⟩ => ?_, fun k a hk o ho ⟨e1, e2⟩ => ?_⟩
      · have q := one k a hk o ho
        unfold meets at q
        rw [decide_eq_true e1, decide_eq_true e2] at q
        cases q
      · have q := one k a hk o ho
        unfold meets at q
        rw [decide_eq_true e1, decide_eq_true e2, Bool.or_true] at q
        cases q
  unfold good due
  rw [Bool.and_assoc, key, Bool.and_comm]
end K08

set_option Elab.async false
set_option linter.all false
namespace Mt
/-! pairs, chains, turning: the mathematics -/
structure Pr where
  n : Nat
  l : Nat
  r : Nat
  h : Nat
deriving DecidableEq
def Pr.e (p : Pr) (s : Nat) : Nat := if s = 0 then p.l else p.r
def Proper (R : List Pr) : Prop := ∀ p ∈ R, ∀ q ∈ R, ∀ s, s < 2 → p.e s = q.e s → p.h = q.h → p = q
/-- which pair has the hue at the end: the last one -/
def at_ (R : List Pr) (s e h : Nat) : Option Pr := R.reverse.find? fun p => decide (p.e s = e) && decide (p.h = h)
theorem at_nil (s e h : Nat) : at_ [] s e h = none := rfl
theorem at_snoc (R : List Pr) (p : Pr) (s e h : Nat) : at_ (R ++ [p]) s e h = if p.e s = e ∧ p.h = h then some p else at_ R s e h := by
  unfold at_
  rw [List.reverse_append]
  simp only [List.reverse_cons, List.reverse_nil, List.nil_append, List.cons_append, List.find?_cons]
  by_cases c : p.e s = e ∧ p.h = h
  · rw [if_pos c, c.1, c.2]
    simp
  · rw [if_neg c]
    have : (decide (p.e s = e) && decide (p.h = h)) = false := by
      rw [Bool.and_eq_false_iff, decide_eq_false_iff_not, decide_eq_false_iff_not]
      by_cases d : p.e s = e
      · exact .inr fun z => c ⟨d, z⟩
      · exact .inl d
    rw [this]
theorem at_some {R : List Pr} {s e h : Nat} {p : Pr} (a : at_ R s e h = some p) : p ∈ R ∧ p.e s = e ∧ p.h = h := by
  have h1 := List.mem_of_find?_eq_some a
  have h2 := List.find?_some a
  simp only [Bool.and_eq_true, decide_eq_true_eq] at h2
  exact ⟨List.mem_reverse.mp h1, h2⟩
theorem at_none {R : List Pr} {s e h : Nat} (a : at_ R s e h = none) : ∀ p ∈ R, p.e s = e → p.h ≠ h := by
  intro p hp e1 e2
  have := List.find?_eq_none.mp a p (List.mem_reverse.mpr hp)
  simp [e1, e2] at this
theorem at_is {R : List Pr} (P : Proper R) {s e h : Nat} (hs : s < 2) {p : Pr} (hp : p ∈ R) (e1 : p.e s = e) (e2 : p.h = h) : at_ R s e h = some p := by
  cases a : at_ R s e h with
  | none => exact absurd e2 (at_none a p hp e1)
  | some q =>
    obtain ⟨hq, f1, f2⟩ := at_some a
    rw [P q hq p hp s hs (f1.trans e1.symm) (f2.trans e2.symm)]
theorem at_no {R : List Pr} {s e h : Nat} (a : ∀ p ∈ R, p.e s = e → p.h ≠ h) : at_ R s e h = none := by
  cases c : at_ R s e h with
  | none => rfl
  | some q =>
    obtain ⟨hq, f1, f2⟩ := at_some c
    exact absurd f2 (a q hq f1)
/-! ### chains -/
def chainF (R : List Pr) : Nat → Nat → Nat → Nat → Nat → List Pr
  | 0, _, _, _, _ => []
  | k + 1, s, e, h, g => match at_ R s e h with
    | none => []
    | some p => p :: chainF R k (1 - s) (p.e (1 - s)) g h
def chain (R : List Pr) (s e one other : Nat) : List Pr := chainF R (R.length + 1) s e other one
theorem Proper.sub {R R' : List Pr} (P : Proper R) (h : ∀ p ∈ R', p ∈ R) : Proper R' := fun p hp q hq => P p (h p hp) q (h q hq)
theorem chainF_mem {R : List Pr} : ∀ {k s e h g : Nat} {q : Pr}, q ∈ chainF R k s e h g → q ∈ R ∧ (q.h = h ∨ q.h = g)
  | 0, _, _, _, _, _, hq => by simp [chainF] at hq
  | k + 1, s, e, h, g, q, hq => by
    unfold chainF at hq
    split at hq
    · simp at hq
    · rename_i p hp
      rcases List.mem_cons.mp hq with z | z
      · rw [z]
        obtain ⟨h1, _, h3⟩ := at_some hp
        exact ⟨h1, .inl h3⟩
      · obtain ⟨h1, h2⟩ := chainF_mem z
        exact ⟨h1, h2.symm⟩
/-- without a pair that it never meets a chain is as it is -/
theorem chainF_skip {R : List Pr} (P : Proper R) {p : Pr} (hp : p ∈ R) {s e h g : Nat} (hs : s < 2) (hg : h ≠ g) (e1 : p.e s = e) (e2 : p.h = h) (fr : ∀ q ∈ R, q.e s = e → q.h ≠ g) :
    ∀ (k s' e' h' g' : Nat), (h' = h ∧ g' = g ∧ s' = s ∧ e' ≠ e) ∨ (h' = g ∧ g' = h ∧ s' = 1 - s) → chainF R k s' e' h' g' = chainF (R.filter (fun q => decide (q ≠ p))) k s' e' h' g' := by
  have P' : Proper (R.filter (fun q => decide (q ≠ p))) := P.sub fun q hq => (List.mem_filter.mp hq).1
  have same : ∀ s' e' h', s' < 2 → (p.e s' = e' → p.h ≠ h') → at_ (R.filter (fun q => decide (q ≠ p))) s' e' h' = at_ R s' e' h' := by
    intro s' e' h' hs' hn
    cases a : at_ R s' e' h' with
    | none => exact at_no fun q hq => at_none a q (List.mem_filter.mp hq).1
    | some q =>
      obtain ⟨h1, h2, h3⟩ := at_some a
      refine at_is P' hs' (List.mem_filter.mpr ⟨h1, decide_eq_true fun z => ?_⟩) h2 h3
      rw [z] at h2 h3
      exact hn h2 h3
  intro k
  induction k with
  | zero => intros; rfl
  | succ k ih =>
    intro s' e' h' g' hc
    have hs' : s' < 2 := by omega
    have hn : p.e s' = e' → p.h ≠ h' := by
      intro z1 z2
      rcases hc with ⟨c1, c2, c3, c4⟩ | ⟨c1, c2, c3⟩
      · rw [c3, e1] at z1
        exact c4 z1.symm
      · omega
    unfold chainF
    rw [same s' e' h' hs' hn]
    cases a : at_ R s' e' h' with
    | none => rfl
    | some q =>
      obtain ⟨h1, h2, h3⟩ := at_some a
      show q :: _ = q :: _
      congr 1
      refine ih _ _ _ _ ?_
      rcases hc with ⟨c1, c2, c3, c4⟩ | ⟨c1, c2, c3⟩
      · exact .inr ⟨c2, c1, by rw [c3]⟩
      · have cs : 1 - s' = s := by omega
        refine .inl ⟨c2, c1, cs, ?_⟩
        rw [cs]
        exact fun z => fr q h1 z (h3.trans c1)
theorem chainF_nodup : ∀ (k : Nat) {R : List Pr} (_ : Proper R) {s e h g : Nat} (_ : s < 2) (_ : h ≠ g) (_ : ∀ q ∈ R, q.e s = e → q.h ≠ g), (chainF R k s e h g).Nodup
  | 0, _, _, _, _, _, _, _, _, _ => by simp [chainF]
  | k + 1, R, P, s, e, h, g, hs, hg, fr => by
    unfold chainF
    split
    · exact List.nodup_nil
    · rename_i p hp
      obtain ⟨h1, h2, h3⟩ := at_some hp
      rw [chainF_skip P h1 hs hg h2 h3 fr k (1 - s) (p.e (1 - s)) g h (.inr ⟨rfl, rfl, rfl⟩)]
      refine List.nodup_cons.mpr ⟨fun m => ?_, ?_⟩
      · have := (List.mem_filter.mp (chainF_mem m).1).2
        simp at this
      · refine chainF_nodup k (P.sub fun q hq => (List.mem_filter.mp hq).1) (by omega) (Ne.symm hg) fun q hq e1 e2 => ?_
        obtain ⟨g1, g2⟩ := List.mem_filter.mp hq
        have := P q g1 p h1 (1 - s) (by omega) e1 (e2.trans h3.symm)
        simp [this] at g2
theorem nodup_len {α : Type} [DecidableEq α] : ∀ {l m : List α}, l.Nodup → (∀ x ∈ l, x ∈ m) → l.length ≤ m.length
  | [], _, _, _ => Nat.zero_le _
  | x :: l, m, h, s => by
    obtain ⟨h1, h2⟩ := List.nodup_cons.mp h
    have hx := s x List.mem_cons_self
    have ih := nodup_len (m := m.erase x) h2 fun y hy => by
      have := s y (List.mem_cons_of_mem _ hy)
      exact (List.mem_erase_of_ne fun z => h1 (by rw [← z]; exact hy)).mpr this
    rw [List.length_erase_of_mem hx] at ih
    have := List.length_pos_of_mem hx
    rw [List.length_cons]
    omega
theorem chainF_more {R : List Pr} : ∀ {k s e h g : Nat}, (chainF R k s e h g).length < k → chainF R (k + 1) s e h g = chainF R k s e h g
  | 0, _, _, _, _, h => by simp at h
  | k + 1, s, e, h, g, hl => by
    unfold chainF at hl
    rw [chainF]
    conv => rhs; rw [chainF]
    cases a : at_ R s e h with
    | none => rfl
    | some p =>
      rw [a] at hl
      show p :: _ = p :: _
      congr 1
      refine chainF_more ?_
      simp only [List.length_cons] at hl
      omega
theorem chainF_le {R : List Pr} {k s e h g : Nat} (P : Proper R) (hs : s < 2) (hg : h ≠ g) (fr : ∀ q ∈ R, q.e s = e → q.h ≠ g) : (chainF R k s e h g).length ≤ R.length :=
  nodup_len (chainF_nodup k P hs hg fr) fun _ hq => (chainF_mem hq).1
theorem chainF_enough {R : List Pr} {s e h g : Nat} (P : Proper R) (hs : s < 2) (hg : h ≠ g) (fr : ∀ q ∈ R, q.e s = e → q.h ≠ g) (k : Nat) :
    chainF R (R.length + 1 + k) s e h g = chainF R (R.length + 1) s e h g := by
  induction k with
  | zero => rfl
  | succ k ih =>
    rw [← ih]
    refine chainF_more (k := R.length + 1 + k) ?_
    have := chainF_le (k := R.length + 1 + k) P hs hg fr
    omega
/-- how a pair of the chain is come to -/
theorem chainF_entry {R : List Pr} : ∀ {k s e h g : Nat} {q : Pr}, s < 2 → q ∈ chainF R k s e h g →
    (q.h = h ∧ (q.e s = e ∨ ∃ p ∈ chainF R k s e h g, p.h = g ∧ p.e s = q.e s)) ∨ (q.h = g ∧ ∃ p ∈ chainF R k s e h g, p.h = h ∧ p.e (1 - s) = q.e (1 - s))
  | 0, _, _, _, _, _, _, hq => by simp [chainF] at hq
  | k + 1, s, e, h, g, q, hs, hq => by
    rw [chainF] at hq ⊢
    cases a : at_ R s e h with
    | none =>
      rw [a] at hq
      simp at hq
    | some p =>
      rw [a] at hq
      simp only at hq ⊢
      obtain ⟨h1, h2, h3⟩ := at_some a
      have ss : 1 - (1 - s) = s := by omega
      rcases List.mem_cons.mp hq with z | z
      · rw [z]
        exact .inl ⟨h3, .inl h2⟩
      · rcases chainF_entry (by omega) z with ⟨c1, c2⟩ | ⟨c1, p', c2, c3, c4⟩
        · refine .inr ⟨c1, ?_⟩
          rcases c2 with c2 | ⟨p', c2, c3, c4⟩
          · exact ⟨p, List.mem_cons_self, h3, c2.symm⟩
          · exact ⟨p', List.mem_cons_of_mem _ c2, c3, c4⟩
        · rw [ss] at c4
          exact .inl ⟨c1, .inr ⟨p', List.mem_cons_of_mem _ c2, c3, c4⟩⟩
/-- where a pair of the chain leads on to -/
theorem chainF_exit {R : List Pr} : ∀ {k s e h g : Nat} {q q' : Pr}, s < 2 → chainF R (k + 1) s e h g = chainF R k s e h g → q ∈ chainF R k s e h g →
    (q.h = h → at_ R (1 - s) (q.e (1 - s)) g = some q' → h ≠ g → q' ∈ chainF R k s e h g) ∧ (q.h = g → at_ R s (q.e s) h = some q' → h ≠ g → q' ∈ chainF R k s e h g)
  | 0, _, _, _, _, _, _, _, _, hq => by simp [chainF] at hq
  | k + 1, s, e, h, g, q, q', hs, he, hq => by
    rw [chainF] at hq he ⊢
    conv at he => rhs; rw [chainF]
    cases a : at_ R s e h with
    | none =>
      rw [a] at hq
      simp at hq
    | some p =>
      rw [a] at hq he
      simp only at hq he ⊢
      have he' := (List.cons.inj he).2
      obtain ⟨h1, h2, h3⟩ := at_some a
      have ss : 1 - (1 - s) = s := by omega
      rcases List.mem_cons.mp hq with z | z
      · rw [z]
        refine ⟨fun _ b _ => List.mem_cons_of_mem _ ?_, fun c _ n => absurd (h3.symm.trans c) n⟩
        rw [← he', chainF, b]
        exact List.mem_cons_self
      · obtain ⟨i1, i2⟩ := chainF_exit (q' := q') (by omega : 1 - s < 2) he' z
        rw [ss] at i1
        exact ⟨fun c b n => List.mem_cons_of_mem _ (i2 c b n.symm), fun c b n => List.mem_cons_of_mem _ (i1 c b n.symm)⟩
end Mt

set_option Elab.async false
set_option linter.all false
namespace Mt
/-! ### turning a chain -/
def Pr.put (p : Pr) (h : Nat) : Pr := ⟨p.n, p.l, p.r, h⟩
def Pr.flip (p : Pr) (one other : Nat) : Pr := p.put (if p.h = one then other else one)
theorem flip_e (p : Pr) (a b s : Nat) : (p.flip a b).e s = p.e s := rfl
theorem flip_n (p : Pr) (a b : Nat) : (p.flip a b).n = p.n := rfl
/-- the pairs of the numbers ns have their hues exchanged -/
def turn (R : List Pr) (ns : List Nat) (one other : Nat) : List Pr := R.map fun p => if p.n ∈ ns then p.flip one other else p
theorem turn_mem {R : List Pr} {ns : List Nat} {a b : Nat} {q : Pr} (h : q ∈ turn R ns a b) : ∃ p ∈ R, q = if p.n ∈ ns then p.flip a b else p := by
  obtain ⟨p, hp, e⟩ := List.mem_map.mp h
  exact ⟨p, hp, e.symm⟩
theorem turn_n (R : List Pr) (ns : List Nat) (a b : Nat) : (turn R ns a b).map (·.n) = R.map (·.n) := by
  unfold turn
  rw [List.map_map]
  refine List.map_congr_left fun p _ => ?_
  show (if p.n ∈ ns then p.flip a b else p).n = p.n
  split <;> rfl
theorem turn_e (R : List Pr) (ns : List Nat) (a b s : Nat) : (turn R ns a b).map (·.e s) = R.map (·.e s) := by
  unfold turn
  rw [List.map_map]
  refine List.map_congr_left fun p _ => ?_
  show (if p.n ∈ ns then p.flip a b else p).e s = p.e s
  split <;> rfl
theorem n_inj {R : List Pr} (N : (R.map (·.n)).Nodup) {p q : Pr} (hp : p ∈ R) (hq : q ∈ R) (e : p.n = q.n) : p = q := by
  induction R with
  | nil => cases hp
  | cons a r ih =>
    have N' : (a.n :: r.map (·.n)).Nodup := N
    obtain ⟨h1, h2⟩ := List.nodup_cons.mp N'
    rcases List.mem_cons.mp hp with z | z
    · rcases List.mem_cons.mp hq with y | y
      · rw [z, y]
      · exact absurd (List.mem_map.mpr ⟨q, y, by rw [← e, z]⟩) h1
    · rcases List.mem_cons.mp hq with y | y
      · exact absurd (List.mem_map.mpr ⟨p, z, by rw [e, y]⟩) h1
      · exact ih h2 z y
/-- the chain from an end where one is free, beginning with other: where it is turned, and a pair comes to that end and to an end at the far side where other is free, no two that meet have one hue -/
theorem turn_proper {R : List Pr} (P : Proper R) (N : (R.map (·.n)).Nodup) {s e e2 one other : Nat} {x : Pr} (hs : s < 2) (ho : other ≠ one)
    (fr : at_ R s e one = none) (fr2 : at_ R (1 - s) e2 other = none) (x1 : x.e s = e) (x2 : x.e (1 - s) = e2) (xh : x.h = other) :
    Proper (turn R ((chain R s e one other).map (·.n)) other one ++ [x]) := by
  have fr' := at_none fr
  have fr2' := at_none fr2
  have ss : 1 - (1 - s) = s := by omega
  have en : chainF R (R.length + 1 + 1) s e other one = chainF R (R.length + 1) s e other one := chainF_enough P hs ho fr' 1
  have inC : ∀ p ∈ R, (p.n ∈ (chain R s e one other).map (·.n)) ↔ p ∈ chain R s e one other := by
    intro p hp
    constructor
    · intro h
      obtain ⟨q, hq, e⟩ := List.mem_map.mp h
      rw [← n_inj N (chainF_mem hq).1 hp e]
      exact hq
    · exact fun h => List.mem_map.mpr ⟨p, h, rfl⟩
  generalize hC : chain R s e one other = C at *
  have memC : ∀ q ∈ C, q ∈ R ∧ (q.h = other ∨ q.h = one) := fun q hq => by
    rw [← hC] at hq
    exact chainF_mem hq
  have start : ∀ q ∈ R, q.e s = e → q.h = other → q ∈ C := fun q hq e1 e2 => by
    rw [← hC]
    unfold chain chainF
    rw [at_is P hs hq e1 e2]
    exact List.mem_cons_self
  have entry : ∀ q ∈ C, (q.h = other ∧ (q.e s = e ∨ ∃ p ∈ C, p.h = one ∧ p.e s = q.e s)) ∨ (q.h = one ∧ ∃ p ∈ C, p.h = other ∧ p.e (1 - s) = q.e (1 - s)) := fun q hq => by
    rw [← hC] at hq ⊢
    exact chainF_entry hs hq
  have exit : ∀ q ∈ C, ∀ q', (q.h = other → at_ R (1 - s) (q.e (1 - s)) one = some q' → q' ∈ C) ∧ (q.h = one → at_ R s (q.e s) other = some q' → q' ∈ C) := fun q hq q' => by
    rw [← hC] at hq ⊢
    obtain ⟨a, b⟩ := chainF_exit (q' := q') hs en hq
    exact ⟨fun c d => a c d ho, fun c d => b c d ho⟩
  -- a pair that meets one of the chain, with the other of the two hues, is of the chain
  have closed : ∀ p ∈ C, ∀ q ∈ R, ∀ t, t < 2 → p.e t = q.e t → (p.h = other → q.h = one → q ∈ C) ∧ (p.h = one → q.h = other → q ∈ C) := by
    intro p hp q hq t ht et
    have pR := (memC p hp).1
    refine ⟨fun c d => ?_, fun c d => ?_⟩
    · by_cases hts : t = s
      · rw [hts] at et
        rcases entry p hp with ⟨_, z | ⟨p', z1, z2, z3⟩⟩ | ⟨z, _⟩
        · exact absurd d (fr' q hq (et.symm.trans z))
        · rw [P q hq p' (memC p' z1).1 s hs (et.symm.trans z3.symm) (d.trans z2.symm)]
          exact z1
        · omega
      · have t1 : t = 1 - s := by omega
        rw [t1] at et
        exact (exit p hp q).1 c (at_is P (by omega) hq et.symm d)
    · by_cases hts : t = s
      · rw [hts] at et
        exact (exit p hp q).2 c (at_is P hs hq et.symm d)
      · have t1 : t = 1 - s := by omega
        rw [t1] at et
        rcases entry p hp with ⟨z, _⟩ | ⟨_, p', z1, z2, z3⟩
        · omega
        · rw [P q hq p' (memC p' z1).1 (1 - s) (by omega) (et.symm.trans z3.symm) (d.trans z2.symm)]
          exact z1
  have fh : ∀ p ∈ C, (p.h = other ∧ (p.flip other one).h = one) ∨ (p.h = one ∧ (p.flip other one).h = other) := by
    intro p hp
    show (p.h = other ∧ (if p.h = other then one else other) = one) ∨ (p.h = one ∧ (if p.h = other then one else other) = other)
    rcases (memC p hp).2 with z | z
    · exact .inl ⟨z, if_pos z⟩
    · exact .inr ⟨z, if_neg (by omega)⟩
  have new : ∀ q' ∈ turn R (C.map (·.n)) other one, ∀ t, t < 2 → x.e t = q'.e t → x.h ≠ q'.h := by
    intro q' hq' t ht et hh
    obtain ⟨q, hq, e'⟩ := turn_mem hq'
    rw [xh] at hh
    by_cases c : q.n ∈ C.map (·.n)
    · have qC := (inC q hq).mp c
      rw [if_pos c] at e'
      rw [e'] at et hh
      rw [flip_e] at et
      have q1 : q.h = one := by
        rcases fh q qC with ⟨_, z⟩ | ⟨z, _⟩
        · omega
        · exact z
      by_cases hts : t = s
      · rw [hts, x1] at et
        exact fr' q hq et.symm q1
      · have t1 : t = 1 - s := by omega
        rw [t1, x2] at et
        rcases entry q qC with ⟨z, _⟩ | ⟨_, p', z1, z2, z3⟩
        · omega
        · exact fr2' p' (memC p' z1).1 (z3.trans et.symm) z2
    · rw [if_neg c] at e'
      rw [e'] at et hh
      by_cases hts : t = s
      · rw [hts, x1] at et
        exact c ((inC q hq).mpr (start q hq et.symm hh.symm))
      · have t1 : t = 1 - s := by omega
        rw [t1, x2] at et
        exact fr2' q hq et.symm hh.symm
  have old : Proper (turn R (C.map (·.n)) other one) := by
    intro p' hp' q' hq' t ht et hh
    obtain ⟨p, hp, e1⟩ := turn_mem hp'
    obtain ⟨q, hq, e2⟩ := turn_mem hq'
    by_cases cp : p.n ∈ C.map (·.n)
    · have pC := (inC p hp).mp cp
      rw [if_pos cp] at e1
      by_cases cq : q.n ∈ C.map (·.n)
      · have qC := (inC q hq).mp cq
        rw [if_pos cq] at e2
        have : p.h = q.h := by
          rw [e1, e2] at hh
          rcases fh p pC with ⟨a, b⟩ | ⟨a, b⟩ <;> rcases fh q qC with ⟨c, d⟩ | ⟨c, d⟩ <;> omega
        rw [e1, e2] at et ⊢
        rw [P p hp q hq t ht et this]
      · rw [if_neg cq] at e2
        rw [e1, e2] at et hh
        rw [flip_e] at et
        refine absurd ((inC q hq).mpr ?_) cq
        obtain ⟨k1, k2⟩ := closed p pC q hq t ht et
        rcases fh p pC with ⟨a, b⟩ | ⟨a, b⟩
        · exact k1 a (by omega)
        · exact k2 a (by omega)
    · rw [if_neg cp] at e1
      by_cases cq : q.n ∈ C.map (·.n)
      · have qC := (inC q hq).mp cq
        rw [if_pos cq] at e2
        rw [e1, e2] at et hh
        rw [flip_e] at et
        refine absurd ((inC p hp).mpr ?_) cp
        obtain ⟨k1, k2⟩ := closed q qC p hp t ht et.symm
        rcases fh q qC with ⟨a, b⟩ | ⟨a, b⟩
        · exact k1 a (by omega)
        · exact k2 a (by omega)
      · rw [if_neg cq] at e2
        rw [e1, e2] at et hh ⊢
        exact P p hp q hq t ht et hh
  intro p hp q hq t ht et hh
  rcases List.mem_append.mp hp with a | a
  · rcases List.mem_append.mp hq with b | b
    · exact old p a q b t ht et hh
    · rw [List.mem_singleton.mp b] at et hh
      exact absurd hh.symm (new p a t ht et.symm)
  · rcases List.mem_append.mp hq with b | b
    · rw [List.mem_singleton.mp a] at et hh
      exact absurd hh (new q b t ht et)
    · rw [List.mem_singleton.mp a, List.mem_singleton.mp b]
/-- a pair that comes with a hue that is free at both ends -/
theorem snoc_proper {R : List Pr} (P : Proper R) {x : Pr} (f0 : at_ R 0 x.l x.h = none) (f1 : at_ R 1 x.r x.h = none) : Proper (R ++ [x]) := by
  have no : ∀ q ∈ R, ∀ t, t < 2 → x.e t = q.e t → x.h ≠ q.h := by
    intro q hq t ht et
    by_cases z : t = 0
    · rw [z] at et
      exact fun e => at_none f0 q hq et.symm e.symm
    · have t1 : t = 1 := by omega
      rw [t1] at et
      exact fun e => at_none f1 q hq et.symm e.symm
  intro p hp q hq t ht et hh
  rcases List.mem_append.mp hp with a | a
  · rcases List.mem_append.mp hq with b | b
    · exact P p a q b t ht et hh
    · rw [List.mem_singleton.mp b] at et hh
      exact absurd hh.symm (no p a t ht et.symm)
  · rcases List.mem_append.mp hq with b | b
    · rw [List.mem_singleton.mp a] at et hh
      exact absurd hh (no q b t ht et)
    · rw [List.mem_singleton.mp a, List.mem_singleton.mp b]
end Mt

set_option Elab.async false
set_option linter.all false
namespace Mt
open K08 (count most ends)
/-! ### free hues, ways, a pair's place -/
def free (R : List Pr) (s e m : Nat) : List Nat := (List.range m).filter fun h => (at_ R s e h).isNone
theorem mem_free {R : List Pr} {s e m h : Nat} : h ∈ free R s e m ↔ h < m ∧ at_ R s e h = none := by
  unfold free
  rw [List.mem_filter, List.mem_range, Option.isNone_iff_eq_none]
structure Way where
  hue : Nat
  other : Nat
  c : List Nat
def ways (R : List Pr) (l r m : Nat) : List Way :=
  (free R 0 l m).flatMap fun a => (free R 1 r m).flatMap fun b => [⟨a, b, (chain R 1 r b a).map (·.n)⟩, ⟨b, a, (chain R 0 l a b).map (·.n)⟩]
theorem mem_ways {R : List Pr} {l r m : Nat} {w : Way} : w ∈ ways R l r m ↔ ∃ a ∈ free R 0 l m, ∃ b ∈ free R 1 r m, w = ⟨a, b, (chain R 1 r b a).map (·.n)⟩ ∨ w = ⟨b, a, (chain R 0 l a b).map (·.n)⟩ := by
  unfold ways
  constructor
  · intro h
    obtain ⟨a, ha, h⟩ := List.mem_flatMap.mp h
    obtain ⟨b, hb, h⟩ := List.mem_flatMap.mp h
    refine ⟨a, ha, b, hb, ?_⟩
    rcases List.mem_cons.mp h with z | z
    · exact .inl z
    · exact .inr (List.mem_singleton.mp z)
  · rintro ⟨a, ha, b, hb, h⟩
    refine List.mem_flatMap.mpr ⟨a, ha, List.mem_flatMap.mpr ⟨b, hb, ?_⟩⟩
    rcases h with z | z
    · rw [z]; exact List.mem_cons_self
    · rw [z]; exact List.mem_cons_of_mem _ List.mem_cons_self
def bestI (f : Nat → Nat) : Nat → Nat
  | 0 => 0
  | k + 1 => if f (k + 1) < f (bestI f k) then k + 1 else bestI f k
theorem bestI_le (f : Nat → Nat) : ∀ k, bestI f k ≤ k
  | 0 => Nat.le_refl _
  | k + 1 => by
    unfold bestI
    have := bestI_le f k
    split <;> omega
theorem bestI_min (f : Nat → Nat) : ∀ k j, j ≤ k → f (bestI f k) ≤ f j
  | 0, j, h => by
    have : j = 0 := by omega
    rw [this]
    exact Nat.le_refl _
  | k + 1, j, h => by
    unfold bestI
    by_cases e : j = k + 1
    · rw [e]
      split <;> omega
    · have := bestI_min f k j (by omega)
      split <;> omega
def best (ws : List Way) : Way := ws.getD (bestI (fun i => (ws.getD i ⟨0, 0, []⟩).c.length) (ws.length - 1)) ⟨0, 0, []⟩
theorem best_mem {ws : List Way} (h : ws ≠ []) : best ws ∈ ws := by
  unfold best
  have := bestI_le (fun i => (ws.getD i ⟨0, 0, []⟩).c.length) (ws.length - 1)
  have := List.length_pos_iff.mpr h
  rw [List.getD_eq_getElem?_getD, List.getElem?_eq_getElem (by omega)]
  exact List.getElem_mem _
theorem best_min {ws : List Way} {w : Way} (h : w ∈ ws) : (best ws).c.length ≤ w.c.length := by
  obtain ⟨i, hi, e⟩ := List.getElem_of_mem h
  have := bestI_min (fun i => (ws.getD i ⟨0, 0, []⟩).c.length) (ws.length - 1) i (by omega)
  unfold best
  have g : ws.getD i ⟨0, 0, []⟩ = w := by rw [List.getD_eq_getElem?_getD, List.getElem?_eq_getElem hi, e]; rfl
  simp only [g] at this
  exact this
/-- what is told of a pair: its number, its hue, the other hue of the chain that was turned, its numbers -/
structure Told where
  n : Nat
  hue : Nat
  other : Option Nat
  c : List Nat
def both (R : List Pr) (l r m : Nat) : List Nat := (free R 0 l m).filter fun h => decide (h ∈ free R 1 r m)
def place (R : List Pr) (n l r m : Nat) : Told × List Pr :=
  match both R l r m with
  | h :: _ => (⟨n, h, none, []⟩, R ++ [⟨n, l, r, h⟩])
  | [] => (⟨n, (best (ways R l r m)).hue, some (best (ways R l r m)).other, (best (ways R l r m)).c⟩,
      turn R (best (ways R l r m)).c (best (ways R l r m)).hue (best (ways R l r m)).other ++ [⟨n, l, r, (best (ways R l r m)).hue⟩])
theorem place_both {R : List Pr} {n l r m h : Nat} {t : List Nat} (e : both R l r m = h :: t) : place R n l r m = (⟨n, h, none, []⟩, R ++ [⟨n, l, r, h⟩]) := by
  unfold place
  rw [e]
theorem place_way {R : List Pr} {n l r m : Nat} (e : both R l r m = []) : place R n l r m = (⟨n, (best (ways R l r m)).hue, some (best (ways R l r m)).other, (best (ways R l r m)).c⟩,
      turn R (best (ways R l r m)).c (best (ways R l r m)).hue (best (ways R l r m)).other ++ [⟨n, l, r, (best (ways R l r m)).hue⟩]) := by
  unfold place
  rw [e]
/-- what a way is -/
theorem way_is {R : List Pr} {l r m : Nat} (f0 : free R 0 l m ≠ []) (f1 : free R 1 r m ≠ []) : best (ways R l r m) ∈ ways R l r m := by
  refine best_mem ?_
  obtain ⟨a, ha⟩ := List.exists_mem_of_ne_nil _ f0
  obtain ⟨b, hb⟩ := List.exists_mem_of_ne_nil _ f1
  exact List.ne_nil_of_mem (mem_ways.mpr ⟨a, ha, b, hb, .inl rfl⟩)
theorem both_nil {R : List Pr} {l r m a b : Nat} (e : both R l r m = []) (ha : a ∈ free R 0 l m) (hb : b ∈ free R 1 r m) : a ≠ b := by
  intro z
  have : a ∈ both R l r m := List.mem_filter.mpr ⟨ha, decide_eq_true (by rw [z]; exact hb)⟩
  rw [e] at this
  cases this
/-- a pair finds its place: still no two that meet have one hue -/
theorem place_proper {R : List Pr} (P : Proper R) (N : (R.map (·.n)).Nodup) {n l r m : Nat} (f0 : free R 0 l m ≠ []) (f1 : free R 1 r m ≠ []) : Proper (place R n l r m).2 := by
  cases e : both R l r m with
  | cons h t =>
    rw [place_both e]
    have hm : h ∈ both R l r m := by rw [e]; exact List.mem_cons_self
    obtain ⟨h1, h2⟩ := List.mem_filter.mp hm
    exact snoc_proper P (mem_free.mp h1).2 (mem_free.mp (of_decide_eq_true h2)).2
  | nil =>
    rw [place_way e]
    obtain ⟨a, ha, b, hb, z⟩ := mem_ways.mp (way_is f0 f1)
    have ab := both_nil e ha hb
    have a0 := (mem_free.mp ha).2
    have b1 := (mem_free.mp hb).2
    rcases z with z | z
    · rw [z]
      exact turn_proper P N (s := 1) (e := r) (e2 := l) (one := b) (other := a) (x := ⟨n, l, r, a⟩) (by decide) ab b1 a0 rfl rfl rfl
    · rw [z]
      exact turn_proper P N (s := 0) (e := l) (e2 := r) (one := a) (other := b) (x := ⟨n, l, r, b⟩) (by decide) (Ne.symm ab) a0 b1 rfl rfl rfl
theorem place_ns {R : List Pr} {n l r m : Nat} : (place R n l r m).2.map (·.n) = R.map (·.n) ++ [n] := by
  cases e : both R l r m with
  | cons h t => rw [place_both e, List.map_append]; rfl
  | nil => rw [place_way e, List.map_append, turn_n]; rfl
theorem place_es {R : List Pr} {n l r m s : Nat} : (place R n l r m).2.map (·.e s) = R.map (·.e s) ++ [(⟨n, l, r, 0⟩ : Pr).e s] := by
  cases e : both R l r m with
  | cons h t => rw [place_both e, List.map_append]; rfl
  | nil => rw [place_way e, List.map_append, turn_e]; rfl
/-- a pair whose number is of the chain of the way has one of its two hues -/
theorem way_c {R : List Pr} (N : (R.map (·.n)).Nodup) {l r m : Nat} {w : Way} (h : w ∈ ways R l r m) {p : Pr} (hp : p ∈ R) (c : p.n ∈ w.c) : p.h = w.hue ∨ p.h = w.other := by
  obtain ⟨a, ha, b, hb, z⟩ := mem_ways.mp h
  rcases z with z | z
  · rw [z] at c ⊢
    obtain ⟨c', h1, h2⟩ := List.mem_map.mp c
    obtain ⟨h3, h4⟩ := chainF_mem h1
    rw [n_inj N h3 hp h2] at h4
    exact h4
  · rw [z] at c ⊢
    obtain ⟨c', h1, h2⟩ := List.mem_map.mp c
    obtain ⟨h3, h4⟩ := chainF_mem h1
    rw [n_inj N h3 hp h2] at h4
    exact h4
theorem way_lt {R : List Pr} {l r m : Nat} {w : Way} (h : w ∈ ways R l r m) : w.hue < m ∧ w.other < m := by
  obtain ⟨a, ha, b, hb, z⟩ := mem_ways.mp h
  have a0 := (mem_free.mp ha).1
  have b0 := (mem_free.mp hb).1
  rcases z with z | z <;> rw [z] <;> exact ⟨by assumption, by assumption⟩
theorem way_nodup {R : List Pr} (P : Proper R) (N : (R.map (·.n)).Nodup) {l r m : Nat} (e : both R l r m = []) {w : Way} (h : w ∈ ways R l r m) : w.c.Nodup ∧ ∀ x ∈ w.c, x ∈ R.map (·.n) := by
  have key : ∀ (s e one other : Nat), s < 2 → other ≠ one → at_ R s e one = none → ((chain R s e one other).map (·.n)).Nodup ∧ ∀ x ∈ (chain R s e one other).map (·.n), x ∈ R.map (·.n) := by
    intro s e one other hs ho fr
    have nd := chainF_nodup (R.length + 1) P hs ho (at_none fr)
    refine ⟨?_, fun x hx => ?_⟩
    · rw [List.nodup_iff_pairwise_ne, List.pairwise_map]
      refine List.Pairwise.imp_of_mem (fun ha hb hn z => hn ?_) (List.nodup_iff_pairwise_ne.mp nd)
      exact n_inj N (chainF_mem ha).1 (chainF_mem hb).1 z
    · obtain ⟨p, hp, rfl⟩ := List.mem_map.mp hx
      exact List.mem_map.mpr ⟨p, (chainF_mem hp).1, rfl⟩
  obtain ⟨a, ha, b, hb, z⟩ := mem_ways.mp h
  have ab := both_nil e ha hb
  have a0 := (mem_free.mp ha).2
  have b1 := (mem_free.mp hb).2
  rcases z with z | z
  · rw [z]
    exact key 1 r b a (by decide) ab b1
  · rw [z]
    exact key 0 l a b (by decide) (Ne.symm ab) a0
/-- whose hue is none of the first m keeps it; others stay below m; the new one gets one of these -/
theorem place_hues {R : List Pr} (N : (R.map (·.n)).Nodup) {n l r m : Nat} (f0 : free R 0 l m ≠ []) (f1 : free R 1 r m ≠ []) {q : Pr} (hq : q ∈ (place R n l r m).2) :
    (q.n = n ∧ q.l = l ∧ q.r = r ∧ q.h < m) ∨ q ∈ R ∨ (∃ p ∈ R, p.n = q.n ∧ p.l = q.l ∧ p.r = q.r ∧ p.h < m ∧ q.h < m) := by
  cases e : both R l r m with
  | cons h t =>
    rw [place_both e] at hq
    have hm : h ∈ both R l r m := by rw [e]; exact List.mem_cons_self
    have := (mem_free.mp (List.mem_filter.mp hm).1).1
    rcases List.mem_append.mp hq with z | z
    · exact .inr (.inl z)
    · rw [List.mem_singleton.mp z]
      exact .inl ⟨rfl, rfl, rfl, this⟩
  | nil =>
    rw [place_way e] at hq
    have W := way_is f0 f1
    have hw := way_lt W
    rcases List.mem_append.mp hq with y | y
    · obtain ⟨p, hp, ep⟩ := turn_mem y
      by_cases c : p.n ∈ (best (ways R l r m)).c
      · rw [if_pos c] at ep
        refine .inr (.inr ⟨p, hp, by rw [ep]; rfl, by rw [ep]; rfl, by rw [ep]; rfl, ?_, ?_⟩)
        · rcases way_c N W hp c with z | z <;> rw [z]
          · exact hw.1
          · exact hw.2
        · rw [ep]
          show (if p.h = (best (ways R l r m)).hue then (best (ways R l r m)).other else (best (ways R l r m)).hue) < m
          split
          · exact hw.2
          · exact hw.1
      · rw [if_neg c] at ep
        rw [ep]
        exact .inr (.inl hp)
    · rw [List.mem_singleton.mp y]
      exact .inl ⟨rfl, rfl, rfl, hw.1⟩
/-- an old pair of a hue beyond the first m stays as it is -/
theorem place_far {R : List Pr} (N : (R.map (·.n)).Nodup) {n l r m : Nat} (f0 : free R 0 l m ≠ []) (f1 : free R 1 r m ≠ []) {p : Pr} (hp : p ∈ R) (hm : m ≤ p.h) : p ∈ (place R n l r m).2 := by
  cases e : both R l r m with
  | cons h t =>
    rw [place_both e]
    exact List.mem_append_left _ hp
  | nil =>
    rw [place_way e]
    have W := way_is f0 f1
    have hw := way_lt W
    refine List.mem_append_left _ (List.mem_map.mpr ⟨p, hp, ?_⟩)
    show (if p.n ∈ (best (ways R l r m)).c then _ else p) = p
    by_cases c : p.n ∈ (best (ways R l r m)).c
    · have := way_c N W hp c
      omega
    · rw [if_neg c]
/-! ### how full -/
def deg (R : List Pr) (s e : Nat) : Nat := (R.map (·.e s)).count e
def row (p : Pr) : List Int := [(p.l : Int), (p.r : Int), (p.h : Int)]
def cnt (R : List Pr) : Nat := count (R.map row)
theorem count_cast (l : List Nat) (x : Nat) : (l.map (fun n : Nat => (n : Int))).count (x : Int) = l.count x := by
  induction l with
  | nil => rfl
  | cons a l ih =>
    rw [List.map_cons, List.count_cons, List.count_cons, ih]
    congr 1
    by_cases h : a = x
    · rw [h]
      simp
    · have : ¬ (a : Int) = (x : Int) := by omega
      simp [h, this]
theorem ends_row (R : List Pr) : ends (R.map row) 0 = (R.map (·.e 0)).map (fun n : Nat => (n : Int)) ∧ ends (R.map row) 1 = (R.map (·.e 1)).map (fun n : Nat => (n : Int)) := by
  unfold ends
  rw [List.map_map, List.map_map, List.map_map, List.map_map]
  exact ⟨rfl, rfl⟩
theorem most_le {l : List Nat} {x : Nat} : l.count x ≤ most (l.map (fun n : Nat => (n : Int))) := by
  rw [← count_cast]
  by_cases h : (x : Int) ∈ l.map (fun n : Nat => (n : Int))
  · exact K08.most_ge h
  · rw [List.count_eq_zero.mpr h]
    exact Nat.zero_le _
theorem most_at {l : List Nat} : most (l.map (fun n : Nat => (n : Int))) = 0 ∨ ∃ x ∈ l, most (l.map (fun n : Nat => (n : Int))) = l.count x := by
  rcases K08.most_in (l.map (fun n : Nat => (n : Int))) with h | ⟨e, he, q⟩
  · exact .inl h
  · obtain ⟨x, hx, rfl⟩ := List.mem_map.mp he
    rw [count_cast] at q
    exact .inr ⟨x, hx, q⟩
theorem deg_le (R : List Pr) {s e : Nat} (hs : s < 2) : deg R s e ≤ cnt R := by
  unfold deg cnt count
  obtain ⟨e0, e1⟩ := ends_row R
  rw [e0, e1]
  match s, hs with
  | 0, _ => exact Nat.le_trans most_le (Nat.le_max_left _ _)
  | 1, _ => exact Nat.le_trans most_le (Nat.le_max_right _ _)
theorem cnt_at (R : List Pr) : (cnt R = 0 ∧ R = []) ∨ ∃ s e, s < 2 ∧ (∃ p ∈ R, p.e s = e) ∧ deg R s e = cnt R := by
  cases R with
  | nil => exact .inl ⟨rfl, rfl⟩
  | cons p R =>
    right
    generalize hR : p :: R = R'
    have hp : p ∈ R' := by rw [← hR]; exact List.mem_cons_self
    have pos : 0 < cnt R' := by
      refine Nat.lt_of_lt_of_le ?_ (deg_le R' (s := 0) (e := p.e 0) (by decide))
      exact List.count_pos_iff.mpr (List.mem_map.mpr ⟨p, hp, rfl⟩)
    unfold cnt count at pos ⊢
    obtain ⟨e0, e1⟩ := ends_row R'
    rw [e0, e1] at pos ⊢
    rcases Nat.le_total (most ((R'.map (·.e 0)).map (fun n : Nat => (n : Int)))) (most ((R'.map (·.e 1)).map (fun n : Nat => (n : Int)))) with h | h
    · rw [Nat.max_eq_right h] at pos ⊢
      rcases most_at (l := R'.map (·.e 1)) with z | ⟨x, hx, z⟩
      · omega
      · obtain ⟨q, hq, e⟩ := List.mem_map.mp hx
        exact ⟨1, x, by decide, ⟨q, hq, e⟩, z.symm⟩
    · rw [Nat.max_eq_left h] at pos ⊢
      rcases most_at (l := R'.map (·.e 0)) with z | ⟨x, hx, z⟩
      · omega
      · obtain ⟨q, hq, e⟩ := List.mem_map.mp hx
        exact ⟨0, x, by decide, ⟨q, hq, e⟩, z.symm⟩
theorem cnt_congr {R R' : List Pr} (h0 : R.map (·.e 0) = R'.map (·.e 0)) (h1 : R.map (·.e 1) = R'.map (·.e 1)) : cnt R = cnt R' := by
  unfold cnt count
  rw [(ends_row R).1, (ends_row R).2, (ends_row R').1, (ends_row R').2, h0, h1]
theorem deg_filter (R : List Pr) (s e : Nat) : deg R s e = (R.filter fun p => decide (p.e s = e)).length := by
  unfold deg
  induction R with
  | nil => rfl
  | cons p R ih =>
    rw [List.map_cons, List.count_cons, ih, List.filter_cons]
    by_cases h : p.e s = e
    · simp [h]
    · simp [h]
/-- where fewer than m others meet one of m hues is free -/
theorem free_some {R : List Pr} {s e m : Nat} (h : deg R s e < m) : free R s e m ≠ [] := by
  intro z
  rw [deg_filter] at h
  have all : ∀ x ∈ List.range m, x ∈ (R.filter fun p => decide (p.e s = e)).map (·.h) := by
    intro x hx
    have nx : x ∉ free R s e m := by rw [z]; simp
    cases a : at_ R s e x with
    | none => exact absurd (mem_free.mpr ⟨List.mem_range.mp hx, a⟩) nx
    | some p =>
      obtain ⟨h1, h2, h3⟩ := at_some a
      exact List.mem_map.mpr ⟨p, List.mem_filter.mpr ⟨h1, decide_eq_true h2⟩, h3⟩
  have := nodup_len List.nodup_range all
  rw [List.length_range, List.length_map] at this
  omega
end Mt

set_option Elab.async false
set_option linter.all false
namespace Mt
open K08 (count most ends)
/-! ### what holds of a hall's pairs -/
structure Good (R : List Pr) : Prop where
  P : Proper R
  N : (R.map (·.n)).Nodup
  H : ∀ p ∈ R, p.h < cnt R
theorem Good.nil : Good [] := ⟨fun p hp => absurd hp (by simp), List.nodup_nil, fun p hp => absurd hp (by simp)⟩
def nlr (p : Pr) : Nat × Nat × Nat := (p.n, p.l, p.r)
theorem map_n (R : List Pr) : R.map (·.n) = (R.map nlr).map (·.1) := by
  rw [List.map_map]
  rfl
theorem map_e (R : List Pr) (s : Nat) : R.map (·.e s) = (R.map nlr).map (fun t => if s = 0 then t.2.1 else t.2.2) := by
  rw [List.map_map]
  rfl
theorem perm_deg {R R' : List Pr} (h : (R.map nlr).Perm (R'.map nlr)) (s e : Nat) : deg R s e = deg R' s e := by
  unfold deg
  rw [map_e, map_e]
  exact (h.map _).count_eq _
theorem cnt_deg {R R' : List Pr} (h : ∀ s e, s < 2 → deg R s e ≤ deg R' s e) : cnt R ≤ cnt R' := by
  rcases cnt_at R with ⟨z, _⟩ | ⟨s, e, hs, _, z⟩
  · omega
  · have := h s e hs
    have := deg_le R' (s := s) (e := e) hs
    omega
theorem perm_cnt {R R' : List Pr} (h : (R.map nlr).Perm (R'.map nlr)) : cnt R = cnt R' :=
  Nat.le_antisymm (cnt_deg fun s e _ => Nat.le_of_eq (perm_deg h s e)) (cnt_deg fun s e _ => Nat.le_of_eq (perm_deg h s e).symm)
theorem perm_nodup {R R' : List Pr} (h : (R.map nlr).Perm (R'.map nlr)) (N : (R.map (·.n)).Nodup) : (R'.map (·.n)).Nodup := by
  rw [map_n] at N ⊢
  exact (h.map _).nodup_iff.mp N
theorem deg_snoc (R : List Pr) (p : Pr) (s e : Nat) : deg (R ++ [p]) s e = deg R s e + if p.e s = e then 1 else 0 := by
  unfold deg
  rw [List.map_append, List.count_append]
  by_cases h : p.e s = e
  · rw [if_pos h, ← h]
    simp
  · rw [if_neg h]
    have : e ∉ List.map (·.e s) [p] := by
      simp only [List.map_cons, List.map_nil, List.mem_singleton]
      exact fun z => h z.symm
    rw [List.count_eq_zero.mpr this]
theorem place_nlr {R : List Pr} {n l r m : Nat} : (place R n l r m).2.map nlr = R.map nlr ++ [(n, l, r)] := by
  cases e : both R l r m with
  | cons h t => rw [place_both e, List.map_append]; rfl
  | nil =>
    rw [place_way e, List.map_append]
    have : (turn R (best (ways R l r m)).c (best (ways R l r m)).hue (best (ways R l r m)).other).map nlr = R.map nlr := by
      unfold turn
      rw [List.map_map]
      refine List.map_congr_left fun p _ => ?_
      show nlr (if p.n ∈ _ then _ else p) = nlr p
      split <;> rfl
    rw [this]
    rfl
/-! ### a pair comes -/
def manyWith (R : List Pr) (l r : Nat) : Nat := count (R.map row ++ [[(l : Int), (r : Int)]])
theorem many_is (R : List Pr) (n l r h : Nat) : manyWith R l r = cnt (R ++ [⟨n, l, r, h⟩]) := by
  unfold manyWith cnt count ends
  simp only [List.map_append, List.map_cons, List.map_nil]
  rfl
def come (R : List Pr) (n l r : Nat) : Told × List Pr := place R n l r (manyWith R l r)
theorem come_free (R : List Pr) (l r : Nat) : free R 0 l (manyWith R l r) ≠ [] ∧ free R 1 r (manyWith R l r) ≠ [] := by
  rw [many_is R 0 l r 0]
  refine ⟨free_some ?_, free_some ?_⟩
  · have a := deg_le (R ++ [⟨0, l, r, 0⟩]) (s := 0) (e := l) (by decide)
    rw [deg_snoc, if_pos (show (⟨0, l, r, 0⟩ : Pr).e 0 = l from rfl)] at a
    omega
  · have a := deg_le (R ++ [⟨0, l, r, 0⟩]) (s := 1) (e := r) (by decide)
    rw [deg_snoc, if_pos (show (⟨0, l, r, 0⟩ : Pr).e 1 = r from rfl)] at a
    omega
theorem come_cnt (R : List Pr) (n l r : Nat) : cnt (come R n l r).2 = manyWith R l r := by
  rw [many_is R n l r 0]
  refine perm_cnt ?_
  unfold come
  rw [place_nlr, List.map_append]
  exact List.Perm.refl _
theorem cnt_le_many (R : List Pr) (l r : Nat) : cnt R ≤ manyWith R l r := by
  rw [many_is R 0 l r 0]
  exact cnt_deg fun s e _ => by rw [deg_snoc]; omega
theorem come_good {R : List Pr} (G : Good R) {n l r : Nat} (hn : n ∉ R.map (·.n)) : Good (come R n l r).2 := by
  obtain ⟨f0, f1⟩ := come_free R l r
  refine ⟨place_proper G.P G.N f0 f1, ?_, fun q hq => ?_⟩
  · unfold come
    rw [place_ns]
    refine List.nodup_append.mpr ⟨G.N, by simp, fun a ha b hb => ?_⟩
    rw [List.mem_singleton.mp hb]
    exact fun z => hn (by rw [← z]; exact ha)
  · rw [come_cnt]
    rcases place_hues G.N f0 f1 hq with ⟨_, _, _, z⟩ | z | ⟨_, _, _, _, _, _, z⟩
    · exact z
    · have := G.H q z
      have := cnt_le_many R l r
      omega
    · exact z
/-! ### a pair goes -/
def drop (R : List Pr) (x : Nat) : List Pr := R.filter fun p => decide (p.n ≠ x)
theorem mem_drop {R : List Pr} {x : Nat} {p : Pr} : p ∈ drop R x ↔ p ∈ R ∧ p.n ≠ x := by
  unfold drop
  rw [List.mem_filter, decide_eq_true_eq]
theorem drop_no {R : List Pr} {x : Nat} (h : x ∉ R.map (·.n)) : drop R x = R := by
  unfold drop
  exact List.filter_eq_self.mpr fun p hp => decide_eq_true fun z => h (List.mem_map.mpr ⟨p, hp, z⟩)
theorem drop_perm {R : List Pr} (N : (R.map (·.n)).Nodup) {p : Pr} (hp : p ∈ R) : R.Perm (drop R p.n ++ [p]) := by
  induction R with
  | nil => cases hp
  | cons a R ih =>
    have N' : (a.n :: R.map (·.n)).Nodup := N
    obtain ⟨h1, h2⟩ := List.nodup_cons.mp N'
    rcases List.mem_cons.mp hp with z | z
    · have : drop (a :: R) p.n = R := by
        unfold drop
        rw [List.filter_cons, if_neg (by simp [z])]
        rw [z]
        exact drop_no h1
      rw [this, z]
      exact (List.perm_append_singleton a R).symm
    · have na : a.n ≠ p.n := fun e => h1 (by rw [e]; exact List.mem_map.mpr ⟨p, z, rfl⟩)
      have : drop (a :: R) p.n = a :: drop R p.n := by
        unfold drop
        rw [List.filter_cons, if_pos (by simp [na])]
      rw [this]
      exact (ih h2 z).cons a
theorem drop_nodup {R : List Pr} (N : (R.map (·.n)).Nodup) (x : Nat) : ((drop R x).map (·.n)).Nodup := (List.filter_sublist.map _).nodup N
theorem drop_notin (R : List Pr) (x : Nat) : x ∉ (drop R x).map (·.n) := by
  intro h
  obtain ⟨p, hp, e⟩ := List.mem_map.mp h
  exact (mem_drop.mp hp).2 e
theorem drop_deg {R : List Pr} (N : (R.map (·.n)).Nodup) {p : Pr} (hp : p ∈ R) (s e : Nat) : deg R s e = deg (drop R p.n) s e + if p.e s = e then 1 else 0 := by
  rw [← deg_snoc]
  unfold deg
  exact ((drop_perm N hp).map _).count_eq _
def srt (l : List Nat) : List Nat := l.mergeSort (fun a b => decide (a ≤ b))
theorem srt_perm (l : List Nat) : (srt l).Perm l := List.mergeSort_perm l _
theorem srt_le (l : List Nat) : (srt l).Pairwise (· ≤ ·) := by
  have := List.pairwise_mergeSort (le := fun a b : Nat => decide (a ≤ b)) (by intro a b c h1 h2; simp at *; omega) (by intro a b; simp; omega) l
  exact this.imp (by intro a b h; simpa using h)
theorem srt_is {l m : List Nat} (h1 : m.Perm l) (h2 : m.Pairwise (· ≤ ·)) : m = srt l :=
  (h1.trans (srt_perm l).symm).eq_of_pairwise (fun x y _ _ h1 h2 => Nat.le_antisymm h1 h2) h2 (srt_le l)
theorem mem_srt {l : List Nat} {x : Nat} : x ∈ srt l ↔ x ∈ l := (srt_perm l).mem_iff
/-- the numbers of the pairs of a hue, rising -/
def ofHue (R : List Pr) (h : Nat) : List Nat := (srt (R.map (·.n))).filter fun x => R.any fun p => decide (p.n = x) && decide (p.h = h)
theorem mem_ofHue {R : List Pr} {h x : Nat} : x ∈ ofHue R h ↔ ∃ p ∈ R, p.n = x ∧ p.h = h := by
  unfold ofHue
  rw [List.mem_filter, mem_srt, List.any_eq_true]
  constructor
  · rintro ⟨_, p, hp, e⟩
    simp only [Bool.and_eq_true, decide_eq_true_eq] at e
    exact ⟨p, hp, e⟩
  · rintro ⟨p, hp, e1, e2⟩
    exact ⟨List.mem_map.mpr ⟨p, hp, e1⟩, p, hp, by simp [e1, e2]⟩
theorem ofHue_nodup {R : List Pr} (N : (R.map (·.n)).Nodup) (h : Nat) : (ofHue R h).Nodup :=
  List.filter_sublist.nodup ((srt_perm _).nodup_iff.mpr N)
def pairOf (R : List Pr) (x : Nat) : Option Pr := R.find? fun p => decide (p.n = x)
theorem pairOf_some {R : List Pr} {x : Nat} {p : Pr} (h : pairOf R x = some p) : p ∈ R ∧ p.n = x :=
  ⟨List.mem_of_find?_eq_some h, by simpa using List.find?_some h⟩
theorem pairOf_is {R : List Pr} (N : (R.map (·.n)).Nodup) {p : Pr} (hp : p ∈ R) : pairOf R p.n = some p := by
  cases h : pairOf R p.n with
  | none =>
    have := List.find?_eq_none.mp h p hp
    simp at this
  | some q =>
    obtain ⟨h1, h2⟩ := pairOf_some h
    rw [n_inj N h1 hp h2]
def goL (m : Nat) : List Pr → List Nat → List Told × List Pr
  | R, [] => ([], R)
  | R, x :: xs => match pairOf R x with
    | none => ([], R)
    | some p => ((place (drop R x) x p.l p.r m).1 :: (goL m (place (drop R x) x p.l p.r m).2 xs).1, (goL m (place (drop R x) x p.l p.r m).2 xs).2)
theorem goL_cons {m : Nat} {R : List Pr} {x : Nat} {xs : List Nat} {p : Pr} (h : pairOf R x = some p) :
    goL m R (x :: xs) = ((place (drop R x) x p.l p.r m).1 :: (goL m (place (drop R x) x p.l p.r m).2 xs).1, (goL m (place (drop R x) x p.l p.r m).2 xs).2) := by
  rw [goL, h]
/-- what holds while those of the hue m are placed anew -/
structure Going (m : Nat) (R : List Pr) (xs : List Nat) : Prop where
  P : Proper R
  N : (R.map (·.n)).Nodup
  D : ∀ s e, s < 2 → deg R s e ≤ m
  H : ∀ p ∈ R, p.h ≤ m
  X : xs.Nodup
  I : ∀ p ∈ R, p.h = m ↔ p.n ∈ xs
  J : ∀ x ∈ xs, x ∈ R.map (·.n)
theorem Going.pair {m : Nat} {R : List Pr} {x : Nat} {xs : List Nat} (G : Going m R (x :: xs)) : ∃ p ∈ R, p.n = x ∧ p.h = m ∧ pairOf R x = some p ∧
    free (drop R x) 0 p.l m ≠ [] ∧ free (drop R x) 1 p.r m ≠ [] := by
  obtain ⟨p, hp, e⟩ := List.mem_map.mp (G.J x List.mem_cons_self)
  have e : p.n = x := e
  have hm : p.h = m := (G.I p hp).mpr (by rw [e]; exact List.mem_cons_self)
  refine ⟨p, hp, e, hm, by rw [← e]; exact pairOf_is G.N hp, free_some ?_, free_some ?_⟩
  · have a := G.D 0 p.l (by decide)
    rw [drop_deg G.N hp, if_pos (show p.e 0 = p.l from rfl), e] at a
    omega
  · have a := G.D 1 p.r (by decide)
    rw [drop_deg G.N hp, if_pos (show p.e 1 = p.r from rfl), e] at a
    omega
theorem Going.next_nlr {R : List Pr} {x m : Nat} (N : (R.map (·.n)).Nodup) {p : Pr} (hp : p ∈ R) (e : p.n = x) : ((place (drop R x) x p.l p.r m).2.map nlr).Perm (R.map nlr) := by
  rw [place_nlr]
  have := ((drop_perm N hp).map nlr).symm
  rw [List.map_append, e] at this
  have e2 : List.map nlr [p] = [(x, p.l, p.r)] := by
    rw [← e]
    rfl
  rw [e2] at this
  exact this
theorem Going.next {m : Nat} {R : List Pr} {x : Nat} {xs : List Nat} (G : Going m R (x :: xs)) {p : Pr} (hp : p ∈ R) (e : p.n = x) (hm : p.h = m)
    (f0 : free (drop R x) 0 p.l m ≠ []) (f1 : free (drop R x) 1 p.r m ≠ []) : Going m (place (drop R x) x p.l p.r m).2 xs := by
  obtain ⟨x1, x2⟩ := List.nodup_cons.mp G.X
  have pm := Going.next_nlr (m := m) G.N hp e
  have Nd := drop_nodup G.N x
  refine ⟨place_proper (G.P.sub fun q hq => (mem_drop.mp hq).1) Nd f0 f1, perm_nodup pm.symm G.N, fun s e hs => by rw [perm_deg pm]; exact G.D s e hs, fun q hq => ?_, x2, fun q hq => ?_, fun y hy => ?_⟩
  · rcases place_hues Nd f0 f1 hq with ⟨_, _, _, z⟩ | z | ⟨_, _, _, _, _, _, z⟩
    · omega
    · exact G.H q (mem_drop.mp z).1
    · omega
  · rcases place_hues Nd f0 f1 hq with ⟨z1, _, _, z⟩ | z | ⟨q', z0, z1, _, _, z3, z⟩
    · rw [z1]
      exact ⟨fun h => by omega, fun h => absurd h x1⟩
    · obtain ⟨a, b⟩ := mem_drop.mp z
      have := G.I q a
      rw [this, List.mem_cons]
      exact ⟨fun h => h.resolve_left b, .inr⟩
    · obtain ⟨a, b⟩ := mem_drop.mp z0
      have := G.I q' a
      rw [List.mem_cons, z1] at this
      exact ⟨fun h => by omega, fun h => absurd (this.mpr (.inr h)) (by omega)⟩
  · have := G.J y (List.mem_cons_of_mem _ hy)
    rw [map_n] at this ⊢
    exact (pm.map _).mem_iff.mpr this
theorem goL_ok {m : Nat} : ∀ {xs : List Nat} {R : List Pr}, Going m R xs → Going m (goL m R xs).2 [] ∧ ((goL m R xs).2.map nlr).Perm (R.map nlr)
  | [], R, G => ⟨G, List.Perm.refl _⟩
  | x :: xs, R, G => by
    obtain ⟨p, hp, e, hm, ho, f0, f1⟩ := G.pair
    rw [goL_cons ho]
    obtain ⟨a, b⟩ := goL_ok (G.next hp e hm f0 f1)
    exact ⟨a, b.trans (Going.next_nlr G.N hp e)⟩
def go (R : List Pr) (x : Nat) : List Told × List Pr := if cnt (drop R x) = cnt R then ([], drop R x) else goL (cnt (drop R x)) (drop R x) (ofHue (drop R x) (cnt (drop R x)))
theorem drop_cnt {R : List Pr} (N : (R.map (·.n)).Nodup) {x : Nat} (hx : x ∈ R.map (·.n)) : cnt (drop R x) ≤ cnt R ∧ cnt R ≤ cnt (drop R x) + 1 := by
  obtain ⟨p, hp, e⟩ := List.mem_map.mp hx
  have e : p.n = x := e
  rw [← e]
  refine ⟨cnt_deg fun s e _ => by rw [drop_deg N hp]; omega, ?_⟩
  rcases cnt_at R with ⟨z, _⟩ | ⟨s, e, hs, _, z⟩
  · omega
  · have a := drop_deg N hp s e
    have b := deg_le (drop R p.n) (s := s) (e := e) hs
    split at a <;> omega
theorem go_start {R : List Pr} (G : Good R) {x : Nat} (hx : x ∈ R.map (·.n)) (ne : cnt (drop R x) ≠ cnt R) : Going (cnt (drop R x)) (drop R x) (ofHue (drop R x) (cnt (drop R x))) := by
  obtain ⟨a, b⟩ := drop_cnt G.N hx
  refine ⟨G.P.sub fun q hq => (mem_drop.mp hq).1, drop_nodup G.N x, fun s e hs => deg_le _ hs, fun p hp => ?_, ofHue_nodup (drop_nodup G.N x) _, fun p hp => ?_, fun y hy => ?_⟩
  · have := G.H p (mem_drop.mp hp).1
    omega
  · rw [mem_ofHue]
    refine ⟨fun h => ⟨p, hp, rfl, h⟩, fun ⟨q, hq, e1, e2⟩ => ?_⟩
    rw [← n_inj (drop_nodup G.N x) hq hp e1]
    exact e2
  · obtain ⟨p, hp, e, _⟩ := mem_ofHue.mp hy
    exact List.mem_map.mpr ⟨p, hp, e⟩
theorem go_ok {R : List Pr} (G : Good R) {x : Nat} (hx : x ∈ R.map (·.n)) : Good (go R x).2 ∧ ((go R x).2.map nlr).Perm ((drop R x).map nlr) := by
  unfold go
  by_cases c : cnt (drop R x) = cnt R
  · rw [if_pos c]
    exact ⟨⟨G.P.sub fun q hq => (mem_drop.mp hq).1, drop_nodup G.N x, fun p hp => by show p.h < cnt (drop R x); rw [c]; exact G.H p (mem_drop.mp hp).1⟩, List.Perm.refl _⟩
  · rw [if_neg c]
    obtain ⟨a, b⟩ := goL_ok (go_start G hx c)
    refine ⟨⟨a.P, a.N, fun p hp => ?_⟩, b⟩
    have h1 := a.H p hp
    have h2 := a.I p hp
    rw [perm_cnt b]
    have : p.h ≠ cnt (drop R x) := fun z => by
      have := h2.mp z
      simp at this
    omega
/-! ### at each fullest end each hue is had -/
theorem Good.full {R : List Pr} (G : Good R) {s e h : Nat} (hs : s < 2) (hd : deg R s e = cnt R) (hh : h < cnt R) : ∃ p ∈ R, p.e s = e ∧ p.h = h := by
  by_cases c : ∃ p ∈ R, p.e s = e ∧ p.h = h
  · exact c
  · exfalso
    have nd : ((R.filter fun p => decide (p.e s = e)).map (·.h)).Nodup := by
      have nR : R.Nodup := by
        have := G.N
        rw [List.nodup_iff_pairwise_ne, List.pairwise_map] at this
        exact List.nodup_iff_pairwise_ne.mpr (this.imp fun h z => h (by rw [z]))
      rw [List.nodup_iff_pairwise_ne, List.pairwise_map]
      refine List.Pairwise.imp_of_mem (fun ha hb hn z => hn ?_) (List.nodup_iff_pairwise_ne.mp (List.filter_sublist.nodup nR))
      obtain ⟨a1, a2⟩ := List.mem_filter.mp ha
      obtain ⟨b1, b2⟩ := List.mem_filter.mp hb
      exact G.P _ a1 _ b1 s hs ((of_decide_eq_true a2).trans (of_decide_eq_true b2).symm) z
    have sub : ∀ x ∈ ((R.filter fun p => decide (p.e s = e)).map (·.h)), x ∈ (List.range (cnt R)).erase h := by
      intro x hx
      obtain ⟨p, hp, rfl⟩ := List.mem_map.mp hx
      obtain ⟨a1, a2⟩ := List.mem_filter.mp hp
      have ne : p.h ≠ h := fun z => c ⟨p, a1, of_decide_eq_true a2, z⟩
      exact (List.mem_erase_of_ne ne).mpr (List.mem_range.mpr (G.H p a1))
    have a := nodup_len nd sub
    rw [List.length_map, ← deg_filter, hd, List.length_erase_of_mem (List.mem_range.mpr hh), List.length_range] at a
    omega
end Mt

set_option Elab.async false
set_option linter.all false
set_option maxRecDepth 100000
set_option maxHeartbeats 1000000
namespace Own
open PySem PySem.Spec PyProof.Rows L2 StX
/-! more rules with the written part named -/
section
def rSortI (K : PySem.W.Frag) : List V → Hp → VK → Prop := fun xs H Q => ∃ (a : Addr) (kvs : List (Key × V)) (ks : List Int), xs = [.ref a] ∧ Rd H a (.dK kvs) ∧ kvs.map (·.1) = ks.map Sum.inl ∧ ks.length < 64 ∧
  ∀ (ys : List Int) (p : Addr), ys.Perm ks → ys.Pairwise (· ≤ ·) → H p = none → Q (.ref p) (upd H p (.lst (ys.map V.int)))
theorem sortD (K : PySem.W.Frag) {X : Cx} (hc : X.calm = true) : CallR X (.builtin "sorted") (rSortI K) := call_sortedDI hc
theorem sortL (K : PySem.W.Frag) {X : Cx} (h : X.K = K := by rfl) : CallR X (.builtin "sorted") (rSorted K) := by
  subst h
  exact cr_sorted
theorem allL (K : PySem.W.Frag) {X : Cx} (hc : X.calm = true) (h : X.K = K := by rfl) : CallR X (.builtin "all") (rAll K) := by
  subst h
  exact cr_all hc
theorem starC (K : PySem.W.Frag) {X : Cx} {e : Expr} {es : List Expr} {te : TE} {t : TA} {p : Pos} (he : PE X e te) (hr : PA X es t) (h : X.K = K := by rfl)
    (hs : starEach (.Starred e p :: es) X.env = (true, eval e X.env) :: starEach es X.env := by rfl) : PA X (.Starred e p :: es) (tStar K te t) := by
  subst h
  exact pa_star he hr hs
theorem typ1 (K : PySem.W.Frag) {X : Cx} (h : X.K = K := by rfl) : CallR X (.type "type") (rTyp K) := by
  subst h
  exact call_type1
end
/-! type(x) == T -/
def tyNames : List String := ["int", "str", "bool", "NoneType", "list", "tuple", "dict", "bytes"]
theorem ty_meta {T : String} (h : T ∈ tyNames) (s : Shared) : s.TypeIs (.type T) "type" := by
  simp only [tyNames, List.mem_cons, List.not_mem_nil, or_false] at h
  rcases h with rfl | rfl | rfl | rfl | rfl | rfl | rfl | rfl <;> (show typeOf _ = _; kernel_rfl)
theorem TyB.name {K : PySem.W.Frag} {H : Hp} {x : V} {T : String} (t : TyB K H x T) : T ∈ tyNames := by
  cases t <;> simp [tyNames]
def rEqTy : R2 := fun x y H Q => ∃ a b : String, x = .ty a ∧ y = .ty b ∧ a ∈ tyNames ∧ b ∈ tyNames ∧ Q (.bl (decide (a = b))) H
def rNeTy : R2 := fun x y H Q => ∃ a b : String, x = .ty a ∧ y = .ty b ∧ a ∈ tyNames ∧ b ∈ tyNames ∧ Q (.bl (!decide (a = b))) H
section
variable {X : Cx}
theorem op_eqTy : OpR X (compareOp .Eq) rEqTy := by
  intro pins s σ H x y v u Q I rx ry h
  obtain ⟨a, b, rfl, rfl, ha, hb, q⟩ := h
  cases (show v = Value.type a from rx)
  cases (show u = Value.type b from ry)
  by_cases e : a = b
  · subst e
    rw [decide_eq_true rfl] at q
    exact PySem.TypeEq.eq_type_same (ty_meta ha) ⟨.bl true, H, I, rfl, q⟩
  · rw [decide_eq_false e] at q
    exact PySem.TypeEq.eq_type_other (ty_meta ha) (ty_meta hb) (by rw [beq_eq_false_iff_ne]; intro z; injection z with z; exact e z) ⟨.bl false, H, I, rfl, q⟩
end
/-! exceptions of the program -/
structure ExcO (K : PySem.W.Frag) (mg : Str → Option Value) (x : Str) (C : Addr) : Prop where
  g : mg x = some (.ref C)
  x : PySem.W.excIn K C [.type "ValueError", .type "Exception", .type "BaseException", .type "object"] "ValueError.__new__" = true
  k : PySem.W.keepIn K (.ref C) = true
  b : PySem.W.subIn K (.ref C) (.type "BaseException") = some true
  t : PySem.W.typeIn K (.ref C) = some (.type "type")
end Own

set_option Elab.async false
set_option linter.all false
set_option maxRecDepth 100000
set_option maxHeartbeats 1000000
namespace Own
open PySem PySem.Spec PyProof.Rows L2 Mt
section
variable {X : Cx}
/-- a constant of the module, told up to its token -/
theorem pe_gi {x : Str} {i : Int} {pos : Pos} (hg : Gl X x) (hm : ∃ t, X.mg x = some (.int i t)) (hd : (x == ("__debug__" : Str)) = false := by decide) : PE X (.Name x pos) (tC (.int i)) := by
  obtain ⟨t, h⟩ := hm
  exact pe_glob hg h ⟨t, rfl⟩ hd
theorem pe_gs {x : Str} {z : Str} {pos : Pos} (hg : Gl X x) (hm : ∃ t, X.mg x = some (.str z t)) (hd : (x == ("__debug__" : Str)) = false := by decide) : PE X (.Name x pos) (tC (.str z)) := by
  obtain ⟨t, h⟩ := hm
  exact pe_glob hg h ⟨t, rfl⟩ hd
end
/-! what stands for pairs, tables -/
section
variable {K : PySem.W.Frag} {H H' : Hp} {W : Tbs} {S : List Addr}
theorem pget {α β : Type} {G : α → β → Prop} : ∀ {l : List α} {m : List β}, Paired G l m → ∀ {i : Nat} {b : β}, m[i]? = some b → ∃ a, l[i]? = some a ∧ G a b
  | _, _, .nil, i, b, h => by simp at h
  | _, _, .cons r t, 0, b, h => by
    cases h
    exact ⟨_, rfl, r⟩
  | _, _, .cons r t, i + 1, b, h => by
    obtain ⟨a, h1, h2⟩ := pget t (i := i) (b := b) (by simpa using h)
    exact ⟨a, by simpa using h1, h2⟩
theorem pon {α β : Type} {G : α → β → Prop} : ∀ {l : List α} {m : List β}, Paired G l m → ∀ {i : Nat} {a : α}, l[i]? = some a → ∃ b, m[i]? = some b ∧ G a b
  | _, _, .nil, i, b, h => by simp at h
  | _, _, .cons r t, 0, b, h => by
    cases h
    exact ⟨_, rfl, r⟩
  | _, _, .cons r t, i + 1, b, h => by
    obtain ⟨a, h1, h2⟩ := pon t (i := i) (a := b) (by simpa using h)
    exact ⟨a, by simpa using h1, h2⟩
theorem papp {α β : Type} {G : α → β → Prop} : ∀ {l l' : List α} {m m' : List β}, Paired G l m → Paired G l' m' → Paired G (l ++ l') (m ++ m')
  | _, _, _, _, .nil, h => h
  | _, _, _, _, .cons r t, h => .cons r (papp t h)
/-- an entry of the dict of the pairs -/
def DEnt (K : PySem.W.Frag) (H : Hp) (kv : Key × V) (p : Pr) : Prop := ∃ a : Addr, kv = (Sum.inl (p.n : Int), .ref a) ∧ SqT K H a [.int p.l, .int p.r, .int p.h]
abbrev DEach (K : PySem.W.Frag) (H : Hp) : List (Key × V) → List Pr → Prop := Paired (DEnt K H)
theorem Fx.deach (x : Fx W S H H') {kvs : List (Key × V)} {R : List Pr} (h : DEach K H kvs R) : DEach K H' kvs R :=
  Paired.mapP h fun _ _ ⟨a, e, t⟩ => ⟨a, e, x.tup t⟩
theorem DEach.len {kvs : List (Key × V)} {R : List Pr} (h : DEach K H kvs R) : kvs.length = R.length := Paired.length h
theorem DEach.keys : ∀ {kvs : List (Key × V)} {R : List Pr}, DEach K H kvs R → kvs.map (·.1) = R.map (fun p => (Sum.inl (p.n : Int) : Key))
  | _, _, .nil => rfl
  | _, _, .cons ⟨a, e, _⟩ t => by
    rw [List.map_cons, List.map_cons, DEach.keys t, e]
theorem DEach.val : ∀ {kvs : List (Key × V)} {R : List Pr} {x : Nat}, DEach K H kvs R → (pairOf R x = none ∧ valV kvs (Sum.inl (x : Int)) = none) ∨
    ∃ p a, pairOf R x = some p ∧ valV kvs (Sum.inl (x : Int)) = some (.ref a) ∧ SqT K H a [.int p.l, .int p.r, .int p.h]
  | _, _, x, .nil => .inl ⟨rfl, rfl⟩
  | _, _, x, .cons (b := p) ⟨a, e, t⟩ r => by
    by_cases c : p.n = x
    · refine .inr ⟨p, a, ?_, ?_, t⟩
      · unfold pairOf
        rw [List.find?_cons, decide_eq_true c]
      · rw [e]
        exact valV_pos (by rw [c])
    · have n1 : ¬ (Sum.inl (p.n : Int) : Key) = Sum.inl (x : Int) := fun z => c (by have := Sum.inl.inj z; omega)
      have h2 : ∀ qs, pairOf (p :: qs) x = pairOf qs x := fun qs => by
        unfold pairOf
        rw [List.find?_cons, decide_eq_false c]
      rw [e, h2, valV_neg n1]
      exact DEach.val r
theorem DEach.in {kvs : List (Key × V)} {R : List Pr} (h : DEach K H kvs R) {p : Pr} (N : (R.map (·.n)).Nodup) (hp : p ∈ R) :
    ∃ a, valV kvs (Sum.inl (p.n : Int)) = some (.ref a) ∧ SqT K H a [.int p.l, .int p.r, .int p.h] := by
  rcases h.val (x := p.n) with ⟨h1, _⟩ | ⟨q, a, h1, h2, h3⟩
  · rw [pairOf_is N hp] at h1
    cases h1
  · rw [pairOf_is N hp] at h1
    cases h1
    exact ⟨a, h2, h3⟩
theorem DEach.no {kvs : List (Key × V)} {R : List Pr} (h : DEach K H kvs R) {x : Nat} (hx : x ∉ R.map (·.n)) : valV kvs (Sum.inl (x : Int)) = none := by
  rcases h.val (x := x) with ⟨_, h2⟩ | ⟨p, a, h1, _⟩
  · exact h2
  · obtain ⟨h3, h4⟩ := pairOf_some h1
    exact absurd (List.mem_map.mpr ⟨p, h3, h4⟩) hx
theorem DEach.snoc {kvs : List (Key × V)} {R : List Pr} (h : DEach K H kvs R) {p : Pr} {a : Addr} (hp : p.n ∉ R.map (·.n)) (ha : SqT K H a [.int p.l, .int p.r, .int p.h]) :
    DEach K H (putK kvs (Sum.inl (p.n : Int)) (.ref a)) (R ++ [p]) := by
  rw [putK_new _ (h.no hp)]
  exact papp h (.cons ⟨a, rfl, ha⟩ .nil)
/-- the pair of the number x gets another hue, in its place -/
theorem DEach.set {kvs : List (Key × V)} {R : List Pr} (h : DEach K H kvs R) {q : Pr} {a : Addr} (hx : q.n ∈ R.map (·.n)) (ha : SqT K H a [.int q.l, .int q.r, .int q.h]) :
    DEach K H (putK kvs (Sum.inl (q.n : Int)) (.ref a)) (R.map fun p => if p.n = q.n then q else p) := by
  have e : (kvs.any fun kv => decide (kv.1 = (Sum.inl (q.n : Int) : Key))) = true := by
    rw [valV_any]
    rcases h.val (x := q.n) with ⟨h1, _⟩ | ⟨_, _, _, h2, _⟩
    · obtain ⟨p, hp, ep⟩ := List.mem_map.mp hx
      have := List.find?_eq_none.mp h1 p hp
      simp [ep] at this
    · rw [h2]
      rfl
  unfold putK
  rw [if_pos e]
  clear e hx
  induction h with
  | nil => exact .nil
  | @cons kv p ps qs g t ih =>
    rw [List.map_cons, List.map_cons]
    obtain ⟨b, rfl, tb⟩ := g
    refine .cons ?_ ih
    by_cases c : p.n = q.n
    · rw [if_pos c, if_pos (by rw [c])]
      exact ⟨a, by rw [c], ha⟩
    · rw [if_neg c, if_neg (fun z => c (by have := Sum.inl.inj z; omega))]
      exact ⟨b, rfl, tb⟩
theorem DEach.drop {kvs : List (Key × V)} {R : List Pr} (h : DEach K H kvs R) (x : Nat) : DEach K H (dropK kvs (Sum.inl (x : Int))) (Mt.drop R x) := by
  unfold dropK Mt.drop
  induction h with
  | nil => exact .nil
  | @cons kv p ps qs g t ih =>
    rw [List.filter_cons, List.filter_cons]
    obtain ⟨b, rfl, tb⟩ := g
    by_cases c : p.n = x
    · rw [if_neg (by simp [c]), if_neg (by simp [c])]
      exact ih
    · have n1 : ¬ (Sum.inl (p.n : Int) : Key) = Sum.inl (x : Int) := fun z => c (by have := Sum.inl.inj z; omega)
      rw [if_pos (decide_eq_true n1), if_pos (decide_eq_true c)]
      exact .cons ⟨b, rfl, tb⟩ ih
theorem DEach.vals : ∀ {kvs : List (Key × V)} {R : List Pr}, DEach K H kvs R → ∃ as : List Addr, kvs.map (·.2) = as.map V.ref ∧ Each K H as (R.map row)
  | _, _, .nil => ⟨[], rfl, .nil⟩
  | _, _, .cons ⟨a, e, t⟩ r => by
    obtain ⟨as, h1, h2⟩ := DEach.vals r
    exact ⟨a :: as, by rw [List.map_cons, h1, e]; rfl, .cons t h2⟩
/-- a table by (side, end, hue): for each key the number and the far end -/
abbrev key3 (s e h : Nat) : List Key := [Sum.inl (s : Int), Sum.inl (e : Int), Sum.inl (h : Int)]
structure TabOf (K : PySem.W.Frag) (H : Hp) (tk : List (List Key × V)) (R : List Pr) : Prop where
  no : ∀ s e h, s < 2 → at_ R s e h = none → valV tk (key3 s e h) = none
  so : ∀ s e h p, s < 2 → at_ R s e h = some p → ∃ a, valV tk (key3 s e h) = some (.ref a) ∧ SqT K H a [.int p.n, .int (p.e (1 - s))]
  len : tk.length ≤ 2 * R.length
theorem Fx.tabOf (x : Fx W S H H') {tk : List (List Key × V)} {R : List Pr} (h : TabOf K H tk R) : TabOf K H' tk R :=
  ⟨h.no, fun s e g p hs a => let ⟨b, h1, h2⟩ := h.so s e g p hs a; ⟨b, h1, x.tup h2⟩, h.len⟩
theorem TabOf.nil : TabOf K H [] [] := ⟨fun _ _ _ _ _ => rfl, fun s e h p _ a => (by rw [at_nil] at a; cases a), Nat.le_refl _⟩
theorem key3_inj {s e h s' e' h' : Nat} (z : key3 s e h = key3 s' e' h') : s = s' ∧ e = e' ∧ h = h' := by
  have h1 := List.cons.inj z
  have h2 := List.cons.inj h1.2
  have h3 := List.cons.inj h2.2
  have a := Sum.inl.inj h1.1
  have b := Sum.inl.inj h2.1
  have c := Sum.inl.inj h3.1
  omega
/-- one more pair is told at both of its ends -/
theorem TabOf.snoc {tk : List (List Key × V)} {R : List Pr} {p : Pr} {a b : Addr} (h : TabOf K H tk R) (ha : SqT K H a [.int p.n, .int p.r]) (hb : SqT K H b [.int p.n, .int p.l]) :
    TabOf K H (putK (putK tk (key3 0 p.l p.h) (.ref a)) (key3 1 p.r p.h) (.ref b)) (R ++ [p]) := by
  have look : ∀ s e g, valV (putK (putK tk (key3 0 p.l p.h) (.ref a)) (key3 1 p.r p.h) (.ref b)) (key3 s e g) =
      if s = 1 ∧ e = p.r ∧ g = p.h then some (.ref b) else if s = 0 ∧ e = p.l ∧ g = p.h then some (.ref a) else valV tk (key3 s e g) := by
    intro s e g
    rw [valV_put, valV_put]
    by_cases c1 : s = 1 ∧ e = p.r ∧ g = p.h
    · rw [if_pos c1, if_pos (by rw [c1.1, c1.2.1, c1.2.2])]
    · rw [if_neg c1, if_neg (fun z => c1 (key3_inj z))]
      by_cases c0 : s = 0 ∧ e = p.l ∧ g = p.h
      · rw [if_pos c0, if_pos (by rw [c0.1, c0.2.1, c0.2.2])]
      · rw [if_neg c0, if_neg (fun z => c0 (key3_inj z))]
  refine ⟨fun s e g hs h1 => ?_, fun s e g q hs h1 => ?_, ?_⟩
  · rw [at_snoc] at h1
    rw [look]
    have nc : ¬ (p.e s = e ∧ p.h = g) := fun c => by rw [if_pos c] at h1; cases h1
    rw [if_neg nc] at h1
    rw [if_neg, if_neg]
    · exact h.no s e g hs h1
    · rintro ⟨rfl, rfl, rfl⟩
      exact nc ⟨rfl, rfl⟩
    · rintro ⟨rfl, rfl, rfl⟩
      exact nc ⟨rfl, rfl⟩
  · rw [at_snoc] at h1
    rw [look]
    match s, hs with
    | 0, _ =>
      rw [if_neg (by omega)]
      by_cases c : p.e 0 = e ∧ p.h = g
      · rw [if_pos c] at h1
        cases h1
        rw [if_pos ⟨rfl, c.1.symm, c.2.symm⟩]
        exact ⟨a, rfl, ha⟩
      · rw [if_neg c] at h1
        rw [if_neg (fun z => c ⟨z.2.1.symm, z.2.2.symm⟩)]
        exact h.so 0 e g q (by decide) h1
    | 1, _ =>
      by_cases c : p.e 1 = e ∧ p.h = g
      · rw [if_pos c] at h1
        cases h1
        rw [if_pos ⟨rfl, c.1.symm, c.2.symm⟩]
        exact ⟨b, rfl, hb⟩
      · rw [if_neg c] at h1
        rw [if_neg (fun z => c ⟨z.2.1.symm, z.2.2.symm⟩), if_neg (by omega)]
        exact h.so 1 e g q (by decide) h1
  · have := h.len
    have := length_putK (putK tk (key3 0 p.l p.h) (.ref a)) (key3 1 p.r p.h) (.ref b)
    have := length_putK tk (key3 0 p.l p.h) (.ref a)
    rw [List.length_append, List.length_singleton]
    omega
end
theorem take_one {α : Type} {l : List α} {i : Nat} {x : α} (h : l[i]? = some x) : l.take (i + 1) = l.take i ++ [x] := by
  rw [List.take_add_one, h]
  rfl
theorem small1000' {n : Nat} (h : n ≤ 2000) : n < sizeLine := Nat.lt_of_le_of_lt h (by decide)
theorem at_sd {r : List Int} {sd : Nat} (h : sd < r.length) : atI (r.map V.int) (sd : Int) = some (V.int (r.getD sd 0)) := by
  refine atI_nat ?_
  rw [List.getElem?_map, List.getD_eq_getElem?_getD, List.getElem?_eq_getElem h]
  rfl
theorem in_ints (z : Int) : ∀ l : List Int, inV (.int z) (l.map V.int) = decide (z ∈ l)
  | [] => rfl
  | y :: r => by
    have h := in_ints z r
    unfold inV at h ⊢
    rw [List.map_cons, List.any_cons, h, Bool.eq_iff_iff]
    simp only [Bool.or_eq_true, decide_eq_true_eq, List.mem_cons]
    have e : eqV (V.int y) (V.int z) = true ↔ z = y := by
      show (y == z) = true ↔ _
      rw [beq_iff_eq]
      exact eq_comm
    rw [e]
theorem flat_ints (l : List Int) : (l.map V.int).all flatV = true := by
  rw [List.all_map, List.all_eq_true]
  intro x _
  rfl

/-- a list of Nats, as values -/
abbrev vN (l : List Nat) : List V := l.map fun n : Nat => V.int (n : Int)
theorem vN_ints (l : List Nat) : vN l = (l.map fun n : Nat => (n : Int)).map V.int := by
  rw [List.map_map]
  rfl
theorem vN_get {l : List Nat} {i : Nat} {y : V} (h : (vN l)[i]? = some y) : ∃ n, l[i]? = some n ∧ y = .int (n : Int) := by
  rw [List.getElem?_map] at h
  obtain ⟨n, h1, h2⟩ := Option.map_eq_some_iff.mp h
  exact ⟨n, h1, h2.symm⟩
theorem in_vN (n : Nat) (l : List Nat) : inV (.int (n : Int)) (vN l) = decide (n ∈ l) := by
  rw [vN_ints, in_ints, Bool.eq_iff_iff, decide_eq_true_eq, decide_eq_true_eq]
  constructor
  · intro h
    obtain ⟨m, h1, h2⟩ := List.mem_map.mp h
    have : m = n := by omega
    rw [← this]
    exact h1
  · exact fun h => List.mem_map.mpr ⟨n, h, rfl⟩
theorem flat_vN (l : List Nat) : (vN l).all flatV = true := by
  rw [vN_ints]
  exact flat_ints _
end Own

set_option Elab.async false
set_option linter.all false
set_option maxRecDepth 100000
namespace Own
open PySem PySem.Spec PyProof.Rows L2
/-! isinstance of the caught error, whatever class it turns out to be of -/
def rIsEg (K : PySem.W.Frag) (cls : Value) (d : Option Addr) (a : Addr) : List V → Hp → VK → Prop := fun xs H Q => ∃ D, cls = .ref D ∧ d = none ∧ ExcC K D ∧ rIsE K D a xs H Q
theorem isEg (K : PySem.W.Frag) {X : Cx} {a : Addr} {cls : Value} {d : Option Addr} {oe : Obj} {pn : List (Addr × Obj)} (hz : Zc cls d oe) (hf : ∃ vs, oe.data = .fields vs) (h : X.K = K := by rfl) :
    CallR (X.suite a ((a, oe) :: pn)) (.builtin "isinstance") (rIsEg K cls d a) := by
  subst h
  intro pins s σ H xs us Q I r h
  obtain ⟨D, rfl, rfl, C, q⟩ := h
  exact call_isE C hz hf pins s σ H xs us Q I r q
/-! a tuple as the target of a comprehension -/
theorem pg_tupK (K : PySem.W.Frag) (n : Nat) {X : Cx} {es : List Expr} {k : Nat} {pos : Pos} {t : TGs} (hc : X.calm = true) (h : PGs X es t) (hK : X.K = K := by rfl)
    (hn : (assignEach es X.env).length = n := by rfl) (hst : (assignEach es X.env).findIdx? (·.1) = none := by rfl) : PG X (.Tuple es k pos) (gTup K n t) := by
  subst hK
  exact pg_tup hc h hn hst
end Own

set_option Elab.async false
set_option linter.all false
set_option maxRecDepth 100000
set_option maxHeartbeats 4000000
namespace My
open PySem PySem.Spec PyProof.Rows L2 Own
def topS (i : Nat) : Stmt := PySem.Challenge.pw_pairhues_k01_what_is_refused.main.body.getD i (.Pass ⟨0, 0, 0, 0⟩)
abbrev s_count_of : Stmt := topS 4
abbrev N_count_of : List Str := ["rows"]
theorem sc_count_of : FnScope N_count_of ["rows"] (defScope s_count_of) := ⟨rfl, rfl, rfl, by decide +kernel, rfl, by decide +kernel, by decide +kernel⟩
abbrev s_most_at : Stmt := topS 5
abbrev N_most_at : List Str := ["rows", "side", "met", "row", "end"]
theorem sc_most_at : FnScope N_most_at ["rows", "side"] (defScope s_most_at) := ⟨rfl, rfl, rfl, by decide +kernel, rfl, by decide +kernel, by decide +kernel⟩
abbrev s_table_of : Stmt := topS 7
abbrev N_table_of : List Str := ["rows", "table", "number", "left", "right", "hue"]
theorem sc_table_of : FnScope N_table_of ["rows"] (defScope s_table_of) := ⟨rfl, rfl, rfl, by decide +kernel, rfl, by decide +kernel, by decide +kernel⟩
abbrev s_free_at : Stmt := topS 8
abbrev N_free_at : List Str := ["table", "side", "end", "many", "hue"]
theorem sc_free_at : FnScope N_free_at ["table", "side", "end", "many"] (defScope s_free_at) := ⟨rfl, rfl, rfl, by decide +kernel, rfl, by decide +kernel, by decide +kernel⟩
abbrev s_chain_at : Stmt := topS 9
abbrev N_chain_at : List Str := ["table", "side", "end", "one", "other", "chain", "hue", "number", "far"]
theorem sc_chain_at : FnScope N_chain_at ["table", "side", "end", "one", "other"] (defScope s_chain_at) := ⟨rfl, rfl, rfl, by decide +kernel, rfl, by decide +kernel, by decide +kernel⟩
abbrev s_place : Stmt := topS 10
abbrev N_place : List Str := ["rows", "number", "left", "right", "many", "table", "at_left", "at_right", "at_both", "hue", "other", "chain", "ways"]
theorem sc_place : FnScope N_place ["rows", "number", "left", "right", "many"] (defScope s_place) := ⟨rfl, rfl, rfl, by decide +kernel, rfl, by decide +kernel, by decide +kernel⟩
abbrev s_far_side : Stmt := topS 11
abbrev N_far_side : List Str := ["side"]
theorem sc_far_side : FnScope N_far_side ["side"] (defScope s_far_side) := ⟨rfl, rfl, rfl, by decide +kernel, rfl, by decide +kernel, by decide +kernel⟩
abbrev s_ways : Stmt := topS 12
abbrev N_ways : List Str := ["table", "left", "right", "at_left", "at_right", "ways", "left_hue", "right_hue", "right_chain", "left_chain"]
theorem sc_ways : FnScope N_ways ["table", "left", "right", "at_left", "at_right"] (defScope s_ways) := ⟨rfl, rfl, rfl, by decide +kernel, rfl, by decide +kernel, by decide +kernel⟩
abbrev s_turn : Stmt := topS 13
abbrev N_turn : List Str := ["rows", "chain", "one", "other", "number", "left", "right", "had"]
theorem sc_turn : FnScope N_turn ["rows", "chain", "one", "other"] (defScope s_turn) := ⟨rfl, rfl, rfl, by decide +kernel, rfl, by decide +kernel, by decide +kernel⟩
abbrev s_Hall_init : Stmt := inClass (topS 27) 0
abbrev N_Hall_init : List Str := ["self", "lefts", "rights"]
theorem sc_Hall_init : FnScope N_Hall_init ["self", "lefts", "rights"] (defScope s_Hall_init) := ⟨rfl, rfl, rfl, by decide +kernel, rfl, by decide +kernel, by decide +kernel⟩
abbrev s_Hall_come : Stmt := inClass (topS 27) 1
abbrev N_Hall_come : List Str := ["self", "left", "right", "many", "number"]
theorem sc_Hall_come : FnScope N_Hall_come ["self", "left", "right"] (defScope s_Hall_come) := ⟨rfl, rfl, rfl, by decide +kernel, rfl, by decide +kernel, by decide +kernel⟩
abbrev s_Hall_go : Stmt := inClass (topS 27) 2
abbrev N_Hall_go : List Str := ["self", "number", "before", "many", "told", "left_over"]
theorem sc_Hall_go : FnScope N_Hall_go ["self", "number"] (defScope s_Hall_go) := ⟨rfl, rfl, rfl, by decide +kernel, rfl, by decide +kernel, by decide +kernel⟩
abbrev s_Hall_count : Stmt := inClass (topS 27) 3
abbrev N_Hall_count : List Str := ["self"]
theorem sc_Hall_count : FnScope N_Hall_count ["self"] (defScope s_Hall_count) := ⟨rfl, rfl, rfl, by decide +kernel, rfl, by decide +kernel, by decide +kernel⟩
abbrev s_Hall_pairs : Stmt := inClass (topS 27) 4
abbrev N_Hall_pairs : List Str := ["self", "number"]
theorem sc_Hall_pairs : FnScope N_Hall_pairs ["self"] (defScope s_Hall_pairs) := ⟨rfl, rfl, rfl, by decide +kernel, rfl, by decide +kernel, by decide +kernel⟩
abbrev s_Hall_hue_of : Stmt := inClass (topS 27) 5
abbrev N_Hall_hue_of : List Str := ["self", "number"]
theorem sc_Hall_hue_of : FnScope N_Hall_hue_of ["self", "number"] (defScope s_Hall_hue_of) := ⟨rfl, rfl, rfl, by decide +kernel, rfl, by decide +kernel, by decide +kernel⟩
abbrev s_Hall_of_hue : Stmt := inClass (topS 27) 6
abbrev N_Hall_of_hue : List Str := ["self", "hue"]
theorem sc_Hall_of_hue : FnScope N_Hall_of_hue ["self", "hue"] (defScope s_Hall_of_hue) := ⟨rfl, rfl, rfl, by decide +kernel, rfl, by decide +kernel, by decide +kernel⟩
abbrev s_Hall_free : Stmt := inClass (topS 27) 7
abbrev N_Hall_free : List Str := ["self", "side", "end", "at"]
theorem sc_Hall_free : FnScope N_Hall_free ["self", "side", "end"] (defScope s_Hall_free) := ⟨rfl, rfl, rfl, by decide +kernel, rfl, by decide +kernel, by decide +kernel⟩
abbrev s_Hall_fullest : Stmt := inClass (topS 27) 8
abbrev N_Hall_fullest : List Str := ["self", "many"]
theorem sc_Hall_fullest : FnScope N_Hall_fullest ["self"] (defScope s_Hall_fullest) := ⟨rfl, rfl, rfl, by decide +kernel, rfl, by decide +kernel, by decide +kernel⟩
abbrev s_Hall_chain : Stmt := inClass (topS 27) 9
abbrev N_Hall_chain : List Str := ["self", "side", "end", "one", "other", "at", "table"]
theorem sc_Hall_chain : FnScope N_Hall_chain ["self", "side", "end", "one", "other"] (defScope s_Hall_chain) := ⟨rfl, rfl, rfl, by decide +kernel, rfl, by decide +kernel, by decide +kernel⟩
abbrev s_Hall_check_end : Stmt := inClass (topS 27) 10
abbrev N_Hall_check_end : List Str := ["self", "side", "end"]
theorem sc_Hall_check_end : FnScope N_Hall_check_end ["self", "side", "end"] (defScope s_Hall_check_end) := ⟨rfl, rfl, rfl, by decide +kernel, rfl, by decide +kernel, by decide +kernel⟩
abbrev s_Hall_check_number : Stmt := inClass (topS 27) 11
abbrev N_Hall_check_number : List Str := ["self", "number"]
theorem sc_Hall_check_number : FnScope N_Hall_check_number ["self", "number"] (defScope s_Hall_check_number) := ⟨rfl, rfl, rfl, by decide +kernel, rfl, by decide +kernel, by decide +kernel⟩
abbrev s_Hall_check_hue : Stmt := inClass (topS 27) 12
abbrev N_Hall_check_hue : List Str := ["self", "hue"]
theorem sc_Hall_check_hue : FnScope N_Hall_check_hue ["self", "hue"] (defScope s_Hall_check_hue) := ⟨rfl, rfl, rfl, by decide +kernel, rfl, by decide +kernel, by decide +kernel⟩
abbrev s_Hall_numbers_of : Stmt := inClass (topS 27) 13
abbrev N_Hall_numbers_of : List Str := ["self", "hue", "number"]
theorem sc_Hall_numbers_of : FnScope N_Hall_numbers_of ["self", "hue"] (defScope s_Hall_numbers_of) := ⟨rfl, rfl, rfl, by decide +kernel, rfl, by decide +kernel, by decide +kernel⟩
abbrev s_Hall_place_anew : Stmt := inClass (topS 27) 14
abbrev N_Hall_place_anew : List Str := ["self", "number", "many", "left", "right", "_"]
theorem sc_Hall_place_anew : FnScope N_Hall_place_anew ["self", "number", "many"] (defScope s_Hall_place_anew) := ⟨rfl, rfl, rfl, by decide +kernel, rfl, by decide +kernel, by decide +kernel⟩
abbrev s_Hall_as_full : Stmt := inClass (topS 27) 15
abbrev N_Hall_as_full : List Str := ["self", "side", "many", "met", "row", "end"]
theorem sc_Hall_as_full : FnScope N_Hall_as_full ["self", "side", "many"] (defScope s_Hall_as_full) := ⟨rfl, rfl, rfl, by decide +kernel, rfl, by decide +kernel, by decide +kernel⟩
abbrev s_is_whole : Stmt := topS 28
abbrev N_is_whole : List Str := ["worth"]
theorem sc_is_whole : FnScope N_is_whole ["worth"] (defScope s_is_whole) := ⟨rfl, rfl, rfl, by decide +kernel, rfl, by decide +kernel, by decide +kernel⟩
abbrev s_is_within : Stmt := topS 29
abbrev N_is_within : List Str := ["worth", "low", "high"]
theorem sc_is_within : FnScope N_is_within ["worth", "low", "high"] (defScope s_is_within) := ⟨rfl, rfl, rfl, by decide +kernel, rfl, by decide +kernel, by decide +kernel⟩
abbrev s_side_of : Stmt := topS 30
abbrev N_side_of : List Str := ["word"]
theorem sc_side_of : FnScope N_side_of ["word"] (defScope s_side_of) := ⟨rfl, rfl, rfl, by decide +kernel, rfl, by decide +kernel, by decide +kernel⟩
abbrev s_hued : Stmt := topS 32
abbrev N_hued : List Str := ["lefts", "rights", "pairs", "hall", "left", "right", "number", "hue"]
theorem sc_hued : FnScope N_hued ["lefts", "rights", "pairs"] (defScope s_hued) := ⟨rfl, rfl, rfl, by decide +kernel, rfl, by decide +kernel, by decide +kernel⟩
abbrev s_deed_of : Stmt := topS 37
abbrev N_deed_of : List Str := ["line", "word", "numbers", "text"]
theorem sc_deed_of : FnScope N_deed_of ["line"] (defScope s_deed_of) := ⟨rfl, rfl, rfl, by decide +kernel, rfl, by decide +kernel, by decide +kernel⟩
abbrev s_play : Stmt := topS 38
abbrev N_play : List Str := ["lefts", "rights", "lines", "hall", "told", "line"]
theorem sc_play : FnScope N_play ["lefts", "rights", "lines"] (defScope s_play) := ⟨rfl, rfl, rfl, by decide +kernel, rfl, by decide +kernel, by decide +kernel⟩
abbrev s_answer : Stmt := topS 39
abbrev N_answer : List Str := ["hall", "line", "told", "row"]
theorem sc_answer : FnScope N_answer ["hall", "line"] (defScope s_answer) := ⟨rfl, rfl, rfl, by decide +kernel, rfl, by decide +kernel, by decide +kernel⟩
abbrev s_done : Stmt := topS 40
abbrev N_done : List Str := ["hall", "deed"]
theorem sc_done : FnScope N_done ["hall", "deed"] (defScope s_done) := ⟨rfl, rfl, rfl, by decide +kernel, rfl, by decide +kernel, by decide +kernel⟩
abbrev s_text_of : Stmt := topS 41
abbrev N_text_of : List Str := ["row", "number", "hue", "other", "chain"]
theorem sc_text_of : FnScope N_text_of ["row"] (defScope s_text_of) := ⟨rfl, rfl, rfl, by decide +kernel, rfl, by decide +kernel, by decide +kernel⟩
abbrev s_spaced : Stmt := topS 42
abbrev N_spaced : List Str := ["parts", "part"]
theorem sc_spaced : FnScope N_spaced ["parts"] (defScope s_spaced) := ⟨rfl, rfl, rfl, by decide +kernel, rfl, by decide +kernel, by decide +kernel⟩
abbrev s_many_behind : Stmt := topS 43
abbrev N_many_behind : List Str := ["word"]
theorem sc_many_behind : FnScope N_many_behind ["word"] (defScope s_many_behind) := ⟨rfl, rfl, rfl, by decide +kernel, rfl, by decide +kernel, by decide +kernel⟩
abbrev s_is_number : Stmt := topS 44
abbrev N_is_number : List Str := ["text", "sign"]
theorem sc_is_number : FnScope N_is_number ["text"] (defScope s_is_number) := ⟨rfl, rfl, rfl, by decide +kernel, rfl, by decide +kernel, by decide +kernel⟩
abbrev s_l_cell_at : Stmt := topS 46
abbrev N_l_cell_at : List Str := ["_law_script", "_law_k"]
theorem sc_l_cell_at : FnScope N_l_cell_at ["_law_script", "_law_k"] (defScope s_l_cell_at) := ⟨rfl, rfl, rfl, by decide +kernel, rfl, by decide +kernel, by decide +kernel⟩
abbrev s_l_mixed : Stmt := topS 47
abbrev N_l_mixed : List Str := ["_law_cell", "_law_k"]
theorem sc_l_mixed : FnScope N_l_mixed ["_law_cell", "_law_k"] (defScope s_l_mixed) := ⟨rfl, rfl, rfl, by decide +kernel, rfl, by decide +kernel, by decide +kernel⟩
abbrev s_l_kind : Stmt := topS 49
abbrev N_l_kind : List Str := ["_law_error", "_law_found"]
theorem sc_l_kind : FnScope N_l_kind ["_law_error"] (defScope s_l_kind) := ⟨rfl, rfl, rfl, by decide +kernel, rfl, by decide +kernel, by decide +kernel⟩
abbrev s_l_made : Stmt := topS 50
abbrev N_l_made : List Str := ["_law_way", "_law_lefts", "_law_rights", "_law_error"]
theorem sc_l_made : FnScope N_l_made ["_law_way", "_law_lefts", "_law_rights"] (defScope s_l_made) := ⟨rfl, rfl, rfl, by decide +kernel, rfl, by decide +kernel, by decide +kernel⟩
abbrev s_l_asked : Stmt := topS 51
abbrev N_l_asked : List Str := ["_law_hall", "_law_way", "_law_one", "_law_other", "_law_third", "_law_error"]
theorem sc_l_asked : FnScope N_l_asked ["_law_hall", "_law_way", "_law_one", "_law_other", "_law_third"] (defScope s_l_asked) := ⟨rfl, rfl, rfl, by decide +kernel, rfl, by decide +kernel, by decide +kernel⟩
abbrev s_l_state : Stmt := topS 52
abbrev N_l_state : List Str := ["_law_hall"]
theorem sc_l_state : FnScope N_l_state ["_law_hall"] (defScope s_l_state) := ⟨rfl, rfl, rfl, by decide +kernel, rfl, by decide +kernel, by decide +kernel⟩
abbrev s_l_counts_refused : Stmt := topS 53
abbrev N_l_counts_refused : List Str := ["_law_cell", "_law_bad", "_law_good", "_law_way"]
theorem sc_l_counts_refused : FnScope N_l_counts_refused ["_law_cell"] (defScope s_l_counts_refused) := ⟨rfl, rfl, rfl, by decide +kernel, rfl, by decide +kernel, by decide +kernel⟩
abbrev s_l_ends_refused : Stmt := topS 54
abbrev N_l_ends_refused : List Str := ["_law_hall", "_law_sizes", "_law_cell", "_law_far", "_law_bads", "_law_size", "_law_some", "_law_before", "_law_side", "_law_name"]
theorem sc_l_ends_refused : FnScope N_l_ends_refused ["_law_hall", "_law_sizes", "_law_cell"] (defScope s_l_ends_refused) := ⟨rfl, rfl, rfl, by decide +kernel, rfl, by decide +kernel, by decide +kernel⟩
abbrev s_l_numbers_refused : Stmt := topS 55
abbrev N_l_numbers_refused : List Str := ["_law_hall", "_law_came", "_law_gone", "_law_count", "_law_cell", "_law_far", "_law_before", "_law_number", "_law_hue", "_law_last", "_law_pair"]
theorem sc_l_numbers_refused : FnScope N_l_numbers_refused ["_law_hall", "_law_came", "_law_gone", "_law_count", "_law_cell"] (defScope s_l_numbers_refused) := ⟨rfl, rfl, rfl, by decide +kernel, rfl, by decide +kernel, by decide +kernel⟩
abbrev s_l_full : Stmt := topS 56
abbrev N_l_full : List Str := ["_law_cell", "_law_hall", "_law_k", "_law_found"]
theorem sc_l_full : FnScope N_l_full ["_law_cell"] (defScope s_l_full) := ⟨rfl, rfl, rfl, by decide +kernel, rfl, by decide +kernel, by decide +kernel⟩
abbrev s_law : Stmt := topS 57
abbrev N_law : List Str := ["_law_script", "_law_cell", "_law_sizes", "_law_hall", "_law_many", "_law_gone", "_law_k"]
theorem sc_law : FnScope N_law ["_law_script"] (defScope s_law) := ⟨rfl, rfl, rfl, by decide +kernel, rfl, by decide +kernel, by decide +kernel⟩
/-- a def, called by its name -/
structure Df (K : PySem.W.Frag) (mg : Str → Option Value) (x : Str) (st : Stmt) (ps : List Str) (f : Addr) (fd : FuncData) : Prop where
  F : Fun K x x st f fd
  g : mg x = some (.ref f)
  b : Binds K fd ps []
/-- a method -/
structure Dm (K : PySem.W.Frag) (C : Addr) (x qual : Str) (st : Stmt) (ps : List Str) (f : Addr) (fd : FuncData) : Prop where
  F : Fun K x qual st f fd
  m : Meth K C x f
  b : Binds K fd ps []
structure Txt (K : PySem.W.Frag) (mg : Str → Option Value) where
  C_Hall : Addr
  E_PairError : Addr
  E_BadCount : Addr
  E_BadSide : Addr
  E_BadEnd : Addr
  E_TooMany : Addr
  E_NoPair : Addr
  E_BadHue : Addr
  E_NotFree : Addr
  E_BadLine : Addr
  f_count_of : Addr
  d_count_of : FuncData
  f_most_at : Addr
  d_most_at : FuncData
  f_table_of : Addr
  d_table_of : FuncData
  f_free_at : Addr
  d_free_at : FuncData
  f_chain_at : Addr
  d_chain_at : FuncData
  f_place : Addr
  d_place : FuncData
  f_far_side : Addr
  d_far_side : FuncData
  f_ways : Addr
  d_ways : FuncData
  f_turn : Addr
  d_turn : FuncData
  f_Hall_init : Addr
  d_Hall_init : FuncData
  f_Hall_come : Addr
  d_Hall_come : FuncData
  f_Hall_go : Addr
  d_Hall_go : FuncData
  f_Hall_count : Addr
  d_Hall_count : FuncData
  f_Hall_pairs : Addr
  d_Hall_pairs : FuncData
  f_Hall_hue_of : Addr
  d_Hall_hue_of : FuncData
  f_Hall_of_hue : Addr
  d_Hall_of_hue : FuncData
  f_Hall_free : Addr
  d_Hall_free : FuncData
  f_Hall_fullest : Addr
  d_Hall_fullest : FuncData
  f_Hall_chain : Addr
  d_Hall_chain : FuncData
  f_Hall_check_end : Addr
  d_Hall_check_end : FuncData
  f_Hall_check_number : Addr
  d_Hall_check_number : FuncData
  f_Hall_check_hue : Addr
  d_Hall_check_hue : FuncData
  f_Hall_numbers_of : Addr
  d_Hall_numbers_of : FuncData
  f_Hall_place_anew : Addr
  d_Hall_place_anew : FuncData
  f_Hall_as_full : Addr
  d_Hall_as_full : FuncData
  f_is_whole : Addr
  d_is_whole : FuncData
  f_is_within : Addr
  d_is_within : FuncData
  f_side_of : Addr
  d_side_of : FuncData
  f_hued : Addr
  d_hued : FuncData
  f_deed_of : Addr
  d_deed_of : FuncData
  f_play : Addr
  d_play : FuncData
  f_answer : Addr
  d_answer : FuncData
  f_done : Addr
  d_done : FuncData
  f_text_of : Addr
  d_text_of : FuncData
  f_spaced : Addr
  d_spaced : FuncData
  f_many_behind : Addr
  d_many_behind : FuncData
  f_is_number : Addr
  d_is_number : FuncData
  f_l_cell_at : Addr
  d_l_cell_at : FuncData
  f_l_mixed : Addr
  d_l_mixed : FuncData
  f_l_kind : Addr
  d_l_kind : FuncData
  f_l_made : Addr
  d_l_made : FuncData
  f_l_asked : Addr
  d_l_asked : FuncData
  f_l_state : Addr
  d_l_state : FuncData
  f_l_counts_refused : Addr
  d_l_counts_refused : FuncData
  f_l_ends_refused : Addr
  d_l_ends_refused : FuncData
  f_l_numbers_refused : Addr
  d_l_numbers_refused : FuncData
  f_l_full : Addr
  d_l_full : FuncData
  f_law : Addr
  d_law : FuncData
  k_place : Addr
  p_place : Addr
  D_count_of : Df K mg "count_of" s_count_of ["rows"] f_count_of d_count_of
  D_most_at : Df K mg "_most_at" s_most_at ["rows", "side"] f_most_at d_most_at
  D_table_of : Df K mg "table_of" s_table_of ["rows"] f_table_of d_table_of
  D_free_at : Df K mg "free_at" s_free_at ["table", "side", "end", "many"] f_free_at d_free_at
  D_chain_at : Df K mg "chain_at" s_chain_at ["table", "side", "end", "one", "other"] f_chain_at d_chain_at
  D_place : Df K mg "place" s_place ["rows", "number", "left", "right", "many"] f_place d_place
  D_far_side : Df K mg "_far_side" s_far_side ["side"] f_far_side d_far_side
  D_ways : Df K mg "_ways" s_ways ["table", "left", "right", "at_left", "at_right"] f_ways d_ways
  D_turn : Df K mg "_turn" s_turn ["rows", "chain", "one", "other"] f_turn d_turn
  F_Hall_init : Fun K "__init__" "Hall.__init__" s_Hall_init f_Hall_init d_Hall_init
  b_Hall_init : Binds K d_Hall_init ["self", "lefts", "rights"] []
  D_Hall_come : Dm K C_Hall "come" "Hall.come" s_Hall_come ["self", "left", "right"] f_Hall_come d_Hall_come
  D_Hall_go : Dm K C_Hall "go" "Hall.go" s_Hall_go ["self", "number"] f_Hall_go d_Hall_go
  D_Hall_count : Dm K C_Hall "count" "Hall.count" s_Hall_count ["self"] f_Hall_count d_Hall_count
  D_Hall_pairs : Dm K C_Hall "pairs" "Hall.pairs" s_Hall_pairs ["self"] f_Hall_pairs d_Hall_pairs
  D_Hall_hue_of : Dm K C_Hall "hue_of" "Hall.hue_of" s_Hall_hue_of ["self", "number"] f_Hall_hue_of d_Hall_hue_of
  D_Hall_of_hue : Dm K C_Hall "of_hue" "Hall.of_hue" s_Hall_of_hue ["self", "hue"] f_Hall_of_hue d_Hall_of_hue
  D_Hall_free : Dm K C_Hall "free" "Hall.free" s_Hall_free ["self", "side", "end"] f_Hall_free d_Hall_free
  D_Hall_fullest : Dm K C_Hall "fullest" "Hall.fullest" s_Hall_fullest ["self"] f_Hall_fullest d_Hall_fullest
  D_Hall_chain : Dm K C_Hall "chain" "Hall.chain" s_Hall_chain ["self", "side", "end", "one", "other"] f_Hall_chain d_Hall_chain
  D_Hall_check_end : Dm K C_Hall "_check_end" "Hall._check_end" s_Hall_check_end ["self", "side", "end"] f_Hall_check_end d_Hall_check_end
  D_Hall_check_number : Dm K C_Hall "_check_number" "Hall._check_number" s_Hall_check_number ["self", "number"] f_Hall_check_number d_Hall_check_number
  D_Hall_check_hue : Dm K C_Hall "_check_hue" "Hall._check_hue" s_Hall_check_hue ["self", "hue"] f_Hall_check_hue d_Hall_check_hue
  D_Hall_numbers_of : Dm K C_Hall "_numbers_of" "Hall._numbers_of" s_Hall_numbers_of ["self", "hue"] f_Hall_numbers_of d_Hall_numbers_of
  D_Hall_place_anew : Dm K C_Hall "_place_anew" "Hall._place_anew" s_Hall_place_anew ["self", "number", "many"] f_Hall_place_anew d_Hall_place_anew
  D_Hall_as_full : Dm K C_Hall "_as_full" "Hall._as_full" s_Hall_as_full ["self", "side", "many"] f_Hall_as_full d_Hall_as_full
  D_is_whole : Df K mg "_is_whole" s_is_whole ["worth"] f_is_whole d_is_whole
  D_is_within : Df K mg "_is_within" s_is_within ["worth", "low", "high"] f_is_within d_is_within
  D_side_of : Df K mg "_side_of" s_side_of ["word"] f_side_of d_side_of
  D_hued : Df K mg "hued" s_hued ["lefts", "rights", "pairs"] f_hued d_hued
  D_deed_of : Df K mg "deed_of" s_deed_of ["line"] f_deed_of d_deed_of
  D_play : Df K mg "play" s_play ["lefts", "rights", "lines"] f_play d_play
  D_answer : Df K mg "_answer" s_answer ["hall", "line"] f_answer d_answer
  D_done : Df K mg "_done" s_done ["hall", "deed"] f_done d_done
  D_text_of : Df K mg "_text_of" s_text_of ["row"] f_text_of d_text_of
  D_spaced : Df K mg "_spaced" s_spaced ["parts"] f_spaced d_spaced
  D_many_behind : Df K mg "_many_behind" s_many_behind ["word"] f_many_behind d_many_behind
  D_is_number : Df K mg "_is_number" s_is_number ["text"] f_is_number d_is_number
  D_l_cell_at : Df K mg "_law_cell_at" s_l_cell_at ["_law_script", "_law_k"] f_l_cell_at d_l_cell_at
  D_l_mixed : Df K mg "_law_mixed" s_l_mixed ["_law_cell", "_law_k"] f_l_mixed d_l_mixed
  D_l_kind : Df K mg "_law_kind" s_l_kind ["_law_error"] f_l_kind d_l_kind
  D_l_made : Df K mg "_law_made" s_l_made ["_law_way", "_law_lefts", "_law_rights"] f_l_made d_l_made
  D_l_asked : Df K mg "_law_asked" s_l_asked ["_law_hall", "_law_way", "_law_one", "_law_other", "_law_third"] f_l_asked d_l_asked
  D_l_state : Df K mg "_law_state" s_l_state ["_law_hall"] f_l_state d_l_state
  D_l_counts_refused : Df K mg "_law_counts_refused" s_l_counts_refused ["_law_cell"] f_l_counts_refused d_l_counts_refused
  D_l_ends_refused : Df K mg "_law_ends_refused" s_l_ends_refused ["_law_hall", "_law_sizes", "_law_cell"] f_l_ends_refused d_l_ends_refused
  D_l_numbers_refused : Df K mg "_law_numbers_refused" s_l_numbers_refused ["_law_hall", "_law_came", "_law_gone", "_law_count", "_law_cell"] f_l_numbers_refused d_l_numbers_refused
  D_l_full : Df K mg "_law_full" s_l_full ["_law_cell"] f_l_full d_l_full
  D_law : Df K mg "law" s_law ["_law_script"] f_law d_law
  FC_place : FunC K "place" "place" s_place f_place d_place k_place
  z_ValueError : mg "ValueError" = none
  z_all : mg "all" = none
  z_int : mg "int" = none
  z_isinstance : mg "isinstance" = none
  z_len : mg "len" = none
  z_list : mg "list" = none
  z_max : mg "max" = none
  z_min : mg "min" = none
  z_range : mg "range" = none
  z_sorted : mg "sorted" = none
  z_str : mg "str" = none
  z_tuple : mg "tuple" = none
  z_type : mg "type" = none
  c_HUE : ∃ t, mg "HUE" = some (.int 2 t)
  c_LEFT : ∃ t, mg "LEFT" = some (.int 0 t)
  c_MOST_ENDS : ∃ t, mg "MOST_ENDS" = some (.int 8 t)
  c_MOST_PAIRS : ∃ t, mg "MOST_PAIRS" = some (.int 40 t)
  c_RIGHT : ∃ t, mg "RIGHT" = some (.int 1 t)
  c_COME : ∃ t, mg "_COME" = some (.str "come" t)
  c_GO : ∃ t, mg "_GO" = some (.str "go" t)
  c_MOST_FIGURES : ∃ t, mg "_MOST_FIGURES" = some (.int 30 t)
  cl_Hall : Cls K C_Hall
  g_Hall : mg "Hall" = some (.ref C_Hall)
  M_Hall : Mk K C_Hall f_Hall_init
  nA_ends : NoAttr K C_Hall "_ends"
  nA_rows : NoAttr K C_Hall "_rows"
  nA_next : NoAttr K C_Hall "_next"
  x_PairError : ExcO K mg "PairError" E_PairError
  x_BadCount : ExcO K mg "BadCount" E_BadCount
  x_BadSide : ExcO K mg "BadSide" E_BadSide
  x_BadEnd : ExcO K mg "BadEnd" E_BadEnd
  x_TooMany : ExcO K mg "TooMany" E_TooMany
  x_NoPair : ExcO K mg "NoPair" E_NoPair
  x_BadHue : ExcO K mg "BadHue" E_BadHue
  x_NotFree : ExcO K mg "NotFree" E_NotFree
  x_BadLine : ExcO K mg "BadLine" E_BadLine
  q_BadCount : ExcC K E_BadCount
  q_BadSide : ExcC K E_BadSide
  q_BadEnd : ExcC K E_BadEnd
  q_TooMany : ExcC K E_TooMany
  q_NoPair : ExcC K E_NoPair
  q_BadHue : ExcC K E_BadHue
  q_NotFree : ExcC K E_NotFree
  i_BadCount_BadCount : PySem.W.kitOne K (.ref E_BadCount) (.ref E_BadCount) = some true
  i_BadCount_BadSide : PySem.W.kitOne K (.ref E_BadCount) (.ref E_BadSide) = some false
  i_BadCount_BadEnd : PySem.W.kitOne K (.ref E_BadCount) (.ref E_BadEnd) = some false
  i_BadCount_TooMany : PySem.W.kitOne K (.ref E_BadCount) (.ref E_TooMany) = some false
  i_BadCount_NoPair : PySem.W.kitOne K (.ref E_BadCount) (.ref E_NoPair) = some false
  i_BadCount_BadHue : PySem.W.kitOne K (.ref E_BadCount) (.ref E_BadHue) = some false
  i_BadCount_NotFree : PySem.W.kitOne K (.ref E_BadCount) (.ref E_NotFree) = some false
  i_BadCount_BadLine : PySem.W.kitOne K (.ref E_BadCount) (.ref E_BadLine) = some false
  i_BadSide_BadCount : PySem.W.kitOne K (.ref E_BadSide) (.ref E_BadCount) = some false
  i_BadSide_BadSide : PySem.W.kitOne K (.ref E_BadSide) (.ref E_BadSide) = some true
  i_BadSide_BadEnd : PySem.W.kitOne K (.ref E_BadSide) (.ref E_BadEnd) = some false
  i_BadSide_TooMany : PySem.W.kitOne K (.ref E_BadSide) (.ref E_TooMany) = some false
  i_BadSide_NoPair : PySem.W.kitOne K (.ref E_BadSide) (.ref E_NoPair) = some false
  i_BadSide_BadHue : PySem.W.kitOne K (.ref E_BadSide) (.ref E_BadHue) = some false
  i_BadSide_NotFree : PySem.W.kitOne K (.ref E_BadSide) (.ref E_NotFree) = some false
  i_BadSide_BadLine : PySem.W.kitOne K (.ref E_BadSide) (.ref E_BadLine) = some false
  i_BadEnd_BadCount : PySem.W.kitOne K (.ref E_BadEnd) (.ref E_BadCount) = some false
  i_BadEnd_BadSide : PySem.W.kitOne K (.ref E_BadEnd) (.ref E_BadSide) = some false
  i_BadEnd_BadEnd : PySem.W.kitOne K (.ref E_BadEnd) (.ref E_BadEnd) = some true
  i_BadEnd_TooMany : PySem.W.kitOne K (.ref E_BadEnd) (.ref E_TooMany) = some false
  i_BadEnd_NoPair : PySem.W.kitOne K (.ref E_BadEnd) (.ref E_NoPair) = some false
  i_BadEnd_BadHue : PySem.W.kitOne K (.ref E_BadEnd) (.ref E_BadHue) = some false
  i_BadEnd_NotFree : PySem.W.kitOne K (.ref E_BadEnd) (.ref E_NotFree) = some false
  i_BadEnd_BadLine : PySem.W.kitOne K (.ref E_BadEnd) (.ref E_BadLine) = some false
  i_TooMany_BadCount : PySem.W.kitOne K (.ref E_TooMany) (.ref E_BadCount) = some false
  i_TooMany_BadSide : PySem.W.kitOne K (.ref E_TooMany) (.ref E_BadSide) = some false
  i_TooMany_BadEnd : PySem.W.kitOne K (.ref E_TooMany) (.ref E_BadEnd) = some false
  i_TooMany_TooMany : PySem.W.kitOne K (.ref E_TooMany) (.ref E_TooMany) = some true
  i_TooMany_NoPair : PySem.W.kitOne K (.ref E_TooMany) (.ref E_NoPair) = some false
  i_TooMany_BadHue : PySem.W.kitOne K (.ref E_TooMany) (.ref E_BadHue) = some false
  i_TooMany_NotFree : PySem.W.kitOne K (.ref E_TooMany) (.ref E_NotFree) = some false
  i_TooMany_BadLine : PySem.W.kitOne K (.ref E_TooMany) (.ref E_BadLine) = some false
  i_NoPair_BadCount : PySem.W.kitOne K (.ref E_NoPair) (.ref E_BadCount) = some false
  i_NoPair_BadSide : PySem.W.kitOne K (.ref E_NoPair) (.ref E_BadSide) = some false
  i_NoPair_BadEnd : PySem.W.kitOne K (.ref E_NoPair) (.ref E_BadEnd) = some false
  i_NoPair_TooMany : PySem.W.kitOne K (.ref E_NoPair) (.ref E_TooMany) = some false
  i_NoPair_NoPair : PySem.W.kitOne K (.ref E_NoPair) (.ref E_NoPair) = some true
  i_NoPair_BadHue : PySem.W.kitOne K (.ref E_NoPair) (.ref E_BadHue) = some false
  i_NoPair_NotFree : PySem.W.kitOne K (.ref E_NoPair) (.ref E_NotFree) = some false
  i_NoPair_BadLine : PySem.W.kitOne K (.ref E_NoPair) (.ref E_BadLine) = some false
  i_BadHue_BadCount : PySem.W.kitOne K (.ref E_BadHue) (.ref E_BadCount) = some false
  i_BadHue_BadSide : PySem.W.kitOne K (.ref E_BadHue) (.ref E_BadSide) = some false
  i_BadHue_BadEnd : PySem.W.kitOne K (.ref E_BadHue) (.ref E_BadEnd) = some false
  i_BadHue_TooMany : PySem.W.kitOne K (.ref E_BadHue) (.ref E_TooMany) = some false
  i_BadHue_NoPair : PySem.W.kitOne K (.ref E_BadHue) (.ref E_NoPair) = some false
  i_BadHue_BadHue : PySem.W.kitOne K (.ref E_BadHue) (.ref E_BadHue) = some true
  i_BadHue_NotFree : PySem.W.kitOne K (.ref E_BadHue) (.ref E_NotFree) = some false
  i_BadHue_BadLine : PySem.W.kitOne K (.ref E_BadHue) (.ref E_BadLine) = some false
  i_NotFree_BadCount : PySem.W.kitOne K (.ref E_NotFree) (.ref E_BadCount) = some false
  i_NotFree_BadSide : PySem.W.kitOne K (.ref E_NotFree) (.ref E_BadSide) = some false
  i_NotFree_BadEnd : PySem.W.kitOne K (.ref E_NotFree) (.ref E_BadEnd) = some false
  i_NotFree_TooMany : PySem.W.kitOne K (.ref E_NotFree) (.ref E_TooMany) = some false
  i_NotFree_NoPair : PySem.W.kitOne K (.ref E_NotFree) (.ref E_NoPair) = some false
  i_NotFree_BadHue : PySem.W.kitOne K (.ref E_NotFree) (.ref E_BadHue) = some false
  i_NotFree_NotFree : PySem.W.kitOne K (.ref E_NotFree) (.ref E_NotFree) = some true
  i_NotFree_BadLine : PySem.W.kitOne K (.ref E_NotFree) (.ref E_BadLine) = some false
  i_BadCount_ValueError : PySem.W.kitOne K (.ref E_BadCount) (.type "ValueError") = some true
  i_BadSide_ValueError : PySem.W.kitOne K (.ref E_BadSide) (.type "ValueError") = some true
  i_BadEnd_ValueError : PySem.W.kitOne K (.ref E_BadEnd) (.type "ValueError") = some true
  i_TooMany_ValueError : PySem.W.kitOne K (.ref E_TooMany) (.type "ValueError") = some true
  i_NoPair_ValueError : PySem.W.kitOne K (.ref E_NoPair) (.type "ValueError") = some true
  i_BadHue_ValueError : PySem.W.kitOne K (.ref E_BadHue) (.type "ValueError") = some true
  i_NotFree_ValueError : PySem.W.kitOne K (.ref E_NotFree) (.type "ValueError") = some true
  r_c : PySem.W.findIn K (.ref C_Hall) "__class__" = some (some (.builtin "object.__class__"))
  r_n : PySem.W.specialIn K (.builtin "object.__class__") "__get__" = some (some (.builtin "getset_descriptor.__get__"))
  r_t : PySem.W.takesIn K (.builtin "object.__class__") = some true
  r_m : PySem.W.mroIn K C_Hall (.type "object") = some true
  r_k : PySem.W.kitOne K (.ref C_Hall) (.type "tuple") = some false
  e_BadCount_PairError : PySem.W.exmOne K (.ref E_BadCount) (.ref E_PairError) = some true
  e_BadSide_PairError : PySem.W.exmOne K (.ref E_BadSide) (.ref E_PairError) = some true
  e_BadEnd_PairError : PySem.W.exmOne K (.ref E_BadEnd) (.ref E_PairError) = some true
  e_TooMany_PairError : PySem.W.exmOne K (.ref E_TooMany) (.ref E_PairError) = some true
  e_NoPair_PairError : PySem.W.exmOne K (.ref E_NoPair) (.ref E_PairError) = some true
  e_BadHue_PairError : PySem.W.exmOne K (.ref E_BadHue) (.ref E_PairError) = some true
  e_NotFree_PairError : PySem.W.exmOne K (.ref E_NotFree) (.ref E_PairError) = some true
end My

set_option Elab.async false
set_option linter.all false
set_option maxRecDepth 100000
namespace K08
open PySem PySem.Spec PyProof.Rows L2
/-- what the dict holds when the ends pre were met -/
structure Tally (kvs : List (Key × V)) (pre : List Int) : Prop where
  of : ∀ p ∈ kvs, ∃ k : Int, p = (Sum.inl k, V.int (pre.count k : Nat)) ∧ k ∈ pre
  all : ∀ k ∈ pre, ∃ p ∈ kvs, p.1 = Sum.inl k
  len : kvs.length ≤ pre.length
theorem Tally.nil : Tally [] [] := ⟨fun p h => absurd h (by simp), fun k h => absurd h (by simp), Nat.le_refl _⟩
theorem Tally.look {kvs : List (Key × V)} {pre : List Int} (t : Tally kvs pre) (k : Int) : (valV kvs (Sum.inl k)).getD (.int 0) = .int (pre.count k : Nat) := by
  unfold valV
  cases e : kvs.find? fun kv => decide (kv.1 = (Sum.inl k : Key)) with
  | none =>
    have n : k ∉ pre := fun h => by
      obtain ⟨p, hp, q⟩ := t.all k h
      have := List.find?_eq_none.mp e p hp
      rw [q] at this
      simp at this
    rw [List.count_eq_zero.mpr n]
    rfl
  | some p =>
    have h1 := List.mem_of_find?_eq_some e
    have h2 : p.1 = (Sum.inl k : Key) := by simpa using List.find?_some e
    obtain ⟨j, hj, _⟩ := t.of p h1
    rw [hj] at h2
    have ej : j = k := Sum.inl.inj h2
    rw [hj, ej]
    rfl
theorem Tally.put {kvs : List (Key × V)} {pre : List Int} (t : Tally kvs pre) (k : Int) : Tally (putK kvs (Sum.inl k) (.int ((pre.count k : Nat) + 1))) (pre ++ [k]) := by
  have ck : ((pre ++ [k]).count k : Nat) = pre.count k + 1 := by simp [List.count_append]
  have cj : ∀ j, j ≠ k → ((pre ++ [k]).count j : Nat) = pre.count j := fun j h => by
    rw [List.count_append, List.count_singleton]
    simp [Ne.symm h]
  refine ⟨fun p hp => ?_, fun j hj => ?_, ?_⟩
  · unfold putK at hp
    split at hp
    · obtain ⟨q, hq, e⟩ := List.mem_map.mp hp
      obtain ⟨j, hj, mj⟩ := t.of q hq
      by_cases z : q.1 = (Sum.inl k : Key)
      · rw [if_pos z] at e
        refine ⟨k, ?_, by simp⟩
        rw [← e, z, ck]
        rfl
      · rw [if_neg z] at e
        have nj : j ≠ k := fun y => z (by rw [hj, y])
        refine ⟨j, ?_, List.mem_append_left _ mj⟩
        rw [← e, hj, cj j nj]
    · rcases List.mem_append.mp hp with h | h
      · obtain ⟨j, hj, mj⟩ := t.of p h
        rename_i na
        have nj : j ≠ k := fun y => na (List.any_eq_true.mpr ⟨p, h, by rw [hj, y]; simp⟩)
        exact ⟨j, by rw [hj, cj j nj], List.mem_append_left _ mj⟩
      · refine ⟨k, ?_, by simp⟩
        rw [List.mem_singleton.mp h, ck]
        rfl
  · unfold putK
    split
    · rename_i ha
      rcases List.mem_append.mp hj with h | h
      · obtain ⟨p, hp, e⟩ := t.all j h
        refine ⟨if p.1 = (Sum.inl k : Key) then (p.1, V.int ((pre.count k : Nat) + 1)) else p, List.mem_map.mpr ⟨p, hp, rfl⟩, ?_⟩
        split <;> exact e
      · rw [List.mem_singleton.mp h]
        obtain ⟨p, hp, e⟩ := List.any_eq_true.mp ha
        have e' := of_decide_eq_true e
        exact ⟨_, List.mem_map.mpr ⟨p, hp, rfl⟩, by rw [if_pos e']; exact e'⟩
    · rcases List.mem_append.mp hj with h | h
      · obtain ⟨p, hp, e⟩ := t.all j h
        exact ⟨p, List.mem_append_left _ hp, e⟩
      · exact ⟨_, List.mem_append_right _ (List.mem_singleton.mpr rfl), by rw [List.mem_singleton.mp h]⟩
  · have := length_putK kvs (Sum.inl k) (.int ((pre.count k : Nat) + 1))
    have := t.len
    rw [List.length_append, List.length_singleton]
    omega
def vals (kvs : List (Key × V)) : List Int := kvs.map fun p => match p.2 with | .int z => z | _ => 0
theorem Tally.vals {kvs : List (Key × V)} {pre : List Int} (t : Tally kvs pre) : kvs.map (·.2) = (vals kvs).map V.int := by
  unfold K08.vals
  rw [List.map_map]
  refine List.map_congr_left fun p hp => ?_
  obtain ⟨k, hk, _⟩ := t.of p hp
  rw [hk]
  rfl
theorem Tally.most {kvs : List (Key × V)} {pre : List Int} (t : Tally kvs pre) {m : Int} (h : (K08.vals kvs = [] ∧ m = 0) ∨ (m ∈ K08.vals kvs ∧ ∀ j ∈ K08.vals kvs, j ≤ m)) : m = (K08.most pre : Nat) := by
  have back : ∀ k ∈ pre, ((pre.count k : Nat) : Int) ∈ K08.vals kvs := fun k hk => by
    obtain ⟨p, hp, e⟩ := t.all k hk
    obtain ⟨j, hj, _⟩ := t.of p hp
    have ej : j = k := by
      rw [hj] at e
      exact Sum.inl.inj e
    refine List.mem_map.mpr ⟨p, hp, ?_⟩
    rw [hj, ej]
  refine most_is (fun e => ?_) fun ne => ?_
  · rcases h with ⟨_, h⟩ | ⟨h, _⟩
    · exact h
    · exfalso
      have : kvs = [] := List.length_eq_zero_iff.mp (by have := t.len; rw [e] at this; simpa using this)
      rw [this] at h
      cases h
  · rcases h with ⟨h, _⟩ | ⟨h, g⟩
    · exfalso
      cases pre with
      | nil => exact ne rfl
      | cons k r =>
        have := back k List.mem_cons_self
        rw [h] at this
        cases this
    · refine ⟨?_, fun e he => g _ (back e he)⟩
      obtain ⟨p, hp, e⟩ := List.mem_map.mp h
      obtain ⟨k, hk, mk⟩ := t.of p hp
      rw [hk] at e
      exact ⟨k, mk, e.symm⟩
end K08

set_option Elab.async false
set_option linter.all false
set_option maxRecDepth 100000
set_option maxHeartbeats 4000000
namespace My
open PySem PySem.Spec PyProof.Rows L2 Own Mt
theorem vN_snoc (l : List Nat) (x : Nat) : vN (l ++ [x]) = vN l ++ [V.int (x : Nat)] := by
  unfold vN
  rw [List.map_append]
  rfl
section
variable {P : Program} {w : World} {K : PySem.W.Frag} {mg : Str → Option Value} {base : Heap} {W : Tbs}
/-! what the law reads from its draw -/
def spDraw (K : PySem.W.Frag) : Sp := fun vs H Q _ => ∃ (a : Addr) (ns : List Int) (k : Nat), vs = [.ref a, .int (k : Nat)] ∧ SqL K H a (ns.map V.int) ∧ Q (.int (ns.getD k 0)) H
theorem ok_l_cell_at (T : Txt K mg) : FnOk P w K mg base CX0 1 T.f_l_cell_at T.d_l_cell_at ["_law_script", "_law_k"] (spDraw K) := by
  refine T.D_l_cell_at.F.ok sc_l_cell_at (fun vs H Q E h => ?_) (fun cdv A outer s H vs Q E hr h => ?_)
  · obtain ⟨a, ns, k, rfl, _⟩ := h
    rfl
  · obtain ⟨a, ns, k, rfl, hS, q⟩ := h
    refine ⟨_, (pss_cons (ps_if (pt_cmpR op_lt (pv 1) (pe_callB (lenQ K) (by rfl) T.z_len PySem.boot_len (pa_cons (pv 0) pa_nil)) (nomark _)) 
      (pss_one (ps_ret (pe_ix (ixL K) (pv 0) (pv 1) (fun _ _ => rfl)))) pss_nil)
    (pss_one (ps_ret pe_int))), ?_⟩
    refine ⟨_, rfl, _, rfl, a, _, rfl, .inl hS, _, _, rfl, rfl, _, rfl, ite2 (fun h => ?_) (fun h => ?_)⟩
    · have lt : k < ns.length := by
        have := of_decide_eq_true h
        rw [List.length_map] at this
        omega
      refine ⟨_, rfl, _, rfl, a, _, _, _, rfl, rfl, hS, atI_nat (j := k) (by rw [List.getElem?_map, List.getElem?_eq_getElem lt]; rfl), ?_⟩
      rw [List.getD_eq_getElem?_getD, List.getElem?_eq_getElem lt] at q
      exact q
    · have ge : ns.length ≤ k := by
        by_cases lt : k < ns.length
        · exact absurd (decide_eq_true (by rw [List.length_map]; omega)) h
        · omega
      rw [List.getD_eq_getElem?_getD, List.getElem?_eq_none ge] at q
      exact q
def mixI (c k : Int) : Int := (c * 48271 + 7919 * k * k + 31 * k) % 2147483647 / 7
theorem mixI_nn (c k : Int) : 0 ≤ mixI c k := by
  unfold mixI
  have := Int.emod_nonneg (c * 48271 + 7919 * k * k + 31 * k) (show (2147483647 : Int) ≠ 0 by decide)
  omega
def spMix : Sp := fun vs H Q _ => ∃ (c k : Int), vs = [.int c, .int k] ∧ 0 ≤ k ∧ k ≤ 1000 ∧ Q (.int (mixI c k)) H
theorem ok_l_mixed (T : Txt K mg) : FnOk P w K mg base CX0 1 T.f_l_mixed T.d_l_mixed ["_law_cell", "_law_k"] spMix := by
  refine T.D_l_mixed.F.ok sc_l_mixed (fun vs H Q E h => ?_) (fun cdv A outer s H vs Q E hr h => ?_)
  · obtain ⟨c, k, rfl, _⟩ := h
    rfl
  · obtain ⟨c, k, rfl, h0, h1, q⟩ := h
    refine ⟨_, (pss_one (ps_ret (pe_op op_fdiv (pe_op op_mod (pe_op op_add (pe_op op_add (pe_op op_mul (pv 0) pe_int) (pe_op op_mul (pe_op op_mul pe_int (pv 1)) (pv 1))) (pe_op op_mul pe_int (pv 1))) pe_int) pe_int))), ?_⟩
    refine ⟨_, rfl, _, _, rfl, rfl, .inr ⟨by decide, by decide⟩, ?_⟩
    refine ⟨_, rfl, _, _, rfl, rfl, .inl ⟨by decide, by decide⟩, ?_⟩
    refine ⟨_, rfl, _, _, rfl, rfl, .inr ⟨by omega, by omega⟩, ?_⟩
    refine ⟨_, _, rfl, rfl, ?_⟩
    refine ⟨_, rfl, _, _, rfl, rfl, .inl ⟨by decide, by decide⟩, ?_⟩
    refine ⟨_, _, rfl, rfl, ?_⟩
    refine ⟨_, _, rfl, rfl, (by show (0 : Int) < 2147483647; decide), ?_⟩
    refine ⟨_, _, rfl, rfl, ⟨by decide, by decide⟩, ?_⟩
    exact q
end
end My

set_option Elab.async false
set_option linter.all false
set_option maxRecDepth 100000
set_option maxHeartbeats 1000000
namespace Own
open PySem PySem.Spec PyProof.Rows L2
/-! a list unpacked: x, *rest = xs -/
/-- a list's iterator, walked on from its place k -/
theorem walks_from {prog : Program} {w : World} {A : Around} (hh : A.handled = none) (I ax : Addr) (hne : ax ≠ I) (items : Array Value) (k : Nat) (hk : k ≤ items.size) :
    Walks prog w A I [I, ax] [I] (items.size - k) (fun i v => items[k + i]? = some v) (fun i h => h.IsListIter I ax (k + i) ∧ h.IsList ax items) where
  sub := fun b hb => by simp at hb; simp [hb]
  frame := fun _ _ _ st hk => ⟨st.1.at fun o e => hk I (by simp) o e, st.2.at fun o e => hk ax (by simp) o e⟩
  item := fun i s Q E hi st hQ => by
    have lt : k + i < items.size := by omega
    refine wpAny_pyNext_list_item st.1 st.2 (x := items[k + i]) (by simp [lt]) fun h' hit' hs' => ?_
    exact hQ _ h' s.toks (by simp [lt]) ⟨hit', st.2.extBut hs'.extBut hne⟩ fun b o hb e => hs'.extBut b o (fun h => hb (by simp [h])) e
  done := fun s Q E st hQ => wpAny_pyNext_list_end hh st.1 st.2 (by simp; omega) fun h' he' => hQ h' s.toks fun b o hb e => he' b o (fun h => hb (by simp [h])) e
  self := fun _ _ _ _ st hQ => wpAny_pyIter_listiter st.1 hQ
section
variable {prog : Program} {w : World} {A : Around} {E : Value → Shared → Prop} {s : Shared}
theorem items_from {items : Array Value} {k : Nat} {acc : Array Value} (hk : k ≤ items.size) (h : ItemsOf (fun i v => items[k + i]? = some v) acc (items.size - k)) : acc.toList = items.toList.drop k := by
  obtain ⟨h1, h2⟩ := h
  refine List.ext_getElem? fun i => ?_
  rw [List.getElem?_drop, Array.getElem?_toList, Array.getElem?_toList]
  by_cases c : i < acc.size
  · have e := Array.getElem?_eq_getElem c
    rw [e, h2 i _ e]
  · rw [Array.getElem?_eq_none (by omega), Array.getElem?_eq_none (by omega)]
theorem unpack_star {t : Addr} {items : Array Value} {x : Value} {Q : List Value → Shared → Prop} (hh : A.handled = none) (ht : s.heap.IsList t items) (hx : items[0]? = some x) (hz : items.size ≤ sizeLine)
    (hQ : ∀ h' (r : Addr) tk, s.heap.get? r = none → (∀ b o, s.heap.get? b = some o → h'.get? b = some o) → h'.get? r = some { cls := .type "list", data := .seq (items.toList.drop 1).toArray } → Q [x, .ref r] { s with heap := h', toks := tk }) :
    wpAny (model prog w) A (unpackItems (.ref t) 2 (some 1)) Q E s := by
  have hlt : t ≠ s.heap.objs.size := by obtain ⟨o, ho, _⟩ := ht; exact Nat.ne_of_lt (Heap.lt_size ho)
  have lz : 1 ≤ items.size := by
    have := (Array.getElem?_eq_some_iff.mp hx).1
    omega
  unfold unpackItems
  refine wpAny_bind ?_
  unfold notIterableAtAll
  refine wpAny_bind (wpAny_specialOf ht.typeIs F.slot_list_iter.lookup ?_)
  refine wpAny_pure ?_
  simp only [Bool.false_eq_true, if_false]
  refine wpAny_bind (wpAny_holding (wpAny_pyIter_list ht ?_))
  have hit0 : (s.heap.push { cls := .type "list_iterator", data := .fields #[.ref t, .int 0 0] }).IsListIter s.heap.objs.size t 0 := ⟨_, Heap.get?_push_size _ rfl, rfl, rfl⟩
  have ht0 := ht.push { cls := .type "list_iterator", data := .fields #[.ref t, .int 0 0] }
  refine wpAny_bind (wpAny_holding ?_)
  show wpAny _ _ (pyNext (.ref s.heap.objs.size) >>= _) _ _ _
  refine wpAny_bind (wpAny_pyNext_list_item hit0 ht0 hx fun h1 hit1 hs1 => ?_)
  show wpAny _ _ (holding [x] (draw (.ref s.heap.objs.size) 0) >>= _) _ _ _
  refine wpAny_bind (wpAny_holding (wpAny_pure (wpAny_pure ?_)))
  have ht1 : h1.IsList t items := ht0.extBut hs1.extBut hlt
  have z1 : h1.objs.size = s.heap.objs.size + 1 := by rw [hs1.1, Heap.size_push]
  show wpAny _ _ (holding [x] (collect (.ref s.heap.objs.size)) >>= _) _ _ _
  refine wpAny_bind (wpAny_holding ?_)
  have W := (walks_from (prog := prog) (w := w) (A := A.in1) (by simp [hh]) s.heap.objs.size t hlt items 1 lz).toS
  refine wpAny_collect_iter (T := "list_iterator") (.inr (.inr (.inl rfl))) W (fun i s' st => ?_) ⟨hit1, ht1⟩ ?_ (by simp) (fun s' acc hm hacc => ?_) (by omega)
  · obtain ⟨o, e, c, _⟩ := st.1
    exact ⟨o, e, c⟩
  · intro b hb
    simp only [List.mem_cons, List.mem_singleton, List.not_mem_nil, or_false] at hb
    show b < h1.objs.size
    rw [z1]
    rcases hb with rfl | rfl
    · exact Nat.lt_succ_self _
    · obtain ⟨o, ho, _⟩ := ht
      exact Nat.lt_succ_of_lt (Heap.lt_size ho)
  · have ea := items_from lz hacc
    rw [ea]
    obtain ⟨h', g', d', tk', os'⟩ := s'
    obtain rfl : g' = s.gens := hm.gens
    obtain rfl : d' = s.drawn := hm.drawn
    obtain rfl : os' = s.os := hm.os
    have keep : ∀ b o, s.heap.get? b = some o → h'.get? b = some o := fun b o e => by
      have lt := Heap.lt_size e
      have nb : b ≠ s.heap.objs.size := Nat.ne_of_lt lt
      exact hm.heap b o (by simpa using nb) (hs1.extBut b o nb (Heap.get?_push_of_some _ e))
    show wpAny _ _ (newList ((items.toList.drop 1).take ((items.toList.drop 1).length - 0)) >>= _) _ _ _
    rw [Nat.sub_zero, List.take_length]
    refine wpAny_bind (wpAny_newList ?_ (by rw [List.length_drop, Array.length_toList]; omega))
    have ed : (items.toList.drop 1).drop (items.toList.drop 1).length = [] := List.drop_length
    rw [ed]
    refine wpAny_pure (hQ _ h'.objs.size tk' ?_ (fun b o e => Heap.get?_push_of_some _ (keep b o e)) (Heap.get?_push_size _ rfl))
    cases e : s.heap.get? h'.objs.size with
    | none => rfl
    | some o => exact absurd (Heap.lt_size (keep _ _ e)) (Nat.lt_irrefl _)
end
/-- x, *rest = a list that is not empty -/
def gStar (K : PySem.W.Frag) (g1 g2 : TG) : TG := fun v σ H Q => ∃ (a : Addr) (y : V) (ys : List V), v = .ref a ∧ SqL K H a (y :: ys) ∧ ∀ r, H r = none → g1 y σ (upd H r (.lst ys)) fun σ1 H1 => g2 (.ref r) σ1 H1 Q
theorem pg_star (K : PySem.W.Frag) {X : Cx} {e1 e2 : Expr} {p pos : Pos} {k : Nat} {g1 g2 : TG} (hc : X.calm = true) (h1 : PG X e1 g1) (h2 : PG X e2 g2) (hK : X.K = K := by rfl)
    (ha : assignEach [e1, .Starred e2 p] X.env = [(false, assign e1 X.env), (true, assign e2 X.env)] := by rfl) : PG X (.Tuple [e1, .Starred e2 p] k pos) (gStar K g1 g2) := by
  subst hK
  refine ⟨fun pins s σ H v u Q I r hw => ?_⟩
  obtain ⟨a, y, ys, rfl, hq, hw⟩ := hw
  cases r
  obtain ⟨its, rv, pl, hz⟩ := I.list hq
  cases rv with
  | @cons _ u _ us ry rys =>
    rw [assign_Tuple]
    refine wpAny_bind (wpAny_standAt ?_)
    unfold unpack
    rw [ha]
    have lz : us.length = ys.length := rys.length.symm
    refine wpAny_bind (wpAny_holding (unpack_star (x := u) (I.ok.hd hc) pl.isList rfl ?_ fun h' r tk hr hk ho => ?_))
    · rw [List.size_toArray, List.length_cons, lz]
      exact hz
    · have hn : H r = none := I.hok.gone hr
      have new : ObjOk X.prog X.w (upd H r (.lst ys)) h' r (.lst ys) := ⟨by rw [List.length_cons] at hz; omega, us, _, rys, ho⟩
      have J : Inv X pins σ (upd H r (.lst ys)) { s with heap := h', toks := tk } := I.laidN (t' := tk) hk hr hn new
      refine assignInOrder_cons (thn (h1.run pins _ σ _ y u _ J ry (hw r hn)) fun _ s1 ⟨σ1, H1, I1, q1⟩ => ?_)
      exact assignInOrder_cons (thn (h2.run pins s1 σ1 H1 (.ref r) (.ref r) Q I1 rfl q1) fun _ s2 ⟨σ2, H2, I2, q2⟩ => assignInOrder_nil ⟨σ2, H2, I2, q2⟩)
end Own

set_option Elab.async false
set_option linter.all false
set_option maxRecDepth 100000
set_option maxHeartbeats 2000000
namespace Own
open PySem PySem.Spec PyProof.Rows L2 StX
open Sem (wp)
/-! type(x) != T -/
theorem slot_tyNe : Slot "type" (cmpInfo .NotEq).2.1 "object.__ne__" :=
  .of (owner := "object") (n := "__ne__") (by rw [typeLookup_type, builtinLookup_eq_fast]; kernel_rfl) (by decide +kernel) (by decide +kernel) (by decide +kernel)
    (by first | exact .inl (by decide +kernel) | exact .inr (by decide +kernel)) (by rw [isSubtype_type]; kernel_rfl)
theorem slot_tyNeR : Slot "type" (cmpInfo .NotEq).2.2 "object.__ne__" :=
  .of (owner := "object") (n := "__ne__") (by rw [typeLookup_type, builtinLookup_eq_fast]; kernel_rfl) (by decide +kernel) (by decide +kernel) (by decide +kernel)
    (by first | exact .inl (by decide +kernel) | exact .inr (by decide +kernel)) (by rw [isSubtype_type]; kernel_rfl)
theorem slot_tyEq : Slot "type" "__eq__" "object.__eq__" := PySem.TypeEq.slot_type_eq
section
variable {prog : Program} {w : World} {A : Around} {E : Value → Shared → Prop} {s : Shared}
theorem tyNe_same {X : String} (hX : ∀ s' : Shared, s'.TypeIs (.type X) "type") {Q : Fin → Shared → Prop} (hq : Q (.done (.ret (.bool false))) s) :
    wpAny (model prog w) A (Builtin.«object.__ne__» ⟨[.type X, .type X], []⟩) Q E s := by
  have hc : wpAny (model prog w) A (call (.builtin "object.__eq__") [.type X, .type X]) (fun v s' => v = .bool true ∧ s' = s) E s :=
    call_gives slot_tyEq (hX s) F.entry_object_eq (F.args_object_eq_2 _ _) (PySem.TypeEq.object_eq_same rfl (by simp)) ⟨rfl, rfl⟩
  unfold Builtin.«object.__ne__»
  repeat (first
    | (refine wpAny_bind (m := callSpecialIfBound? (.type X) (Str.ofString "__eq__") [.type X]) (wpAny_callSpecialIfBound?_slot (hX s) slot_tyEq (wpAny_mono hc (fun r s' hr => by
        obtain ⟨rfl, rfl⟩ := hr
        repeat (first | exact hq | exact wpAny_pure hq | exact wpAny_truthy_bool hq | (refine wpAny_bind (m := truthy (.bool _)) (wpAny_truthy_bool ?_)) | wp_step)) fun _ _ e => e)))
    | wp_step)
theorem tyNe_other {X Y : String} (hX : ∀ s' : Shared, s'.TypeIs (.type X) "type") (hne : (Value.type X == Value.type Y) = false) {Q : Fin → Shared → Prop} (hq : Q (.done (.ret .notImplemented)) s) :
    wpAny (model prog w) A (Builtin.«object.__ne__» ⟨[.type X, .type Y], []⟩) Q E s := by
  have hc : wpAny (model prog w) A (call (.builtin "object.__eq__") [.type X, .type Y]) (fun v s' => v = .notImplemented ∧ s' = s) E s :=
    call_gives slot_tyEq (hX s) F.entry_object_eq (F.args_object_eq_2 _ _) (PySem.TypeEq.object_eq_other rfl hne) ⟨rfl, rfl⟩
  unfold Builtin.«object.__ne__»
  repeat (first
    | (refine wpAny_bind (m := callSpecialIfBound? (.type X) (Str.ofString "__eq__") [.type Y]) (wpAny_callSpecialIfBound?_slot (hX s) slot_tyEq (wpAny_mono hc (fun r s' hr => by
        obtain ⟨rfl, rfl⟩ := hr
        repeat (first | exact hq | exact wpAny_pure hq | wp_step)) fun _ _ e => e)))
    | wp_step)
theorem call_tyNe {X Y : String} (hX : ∀ s' : Shared, s'.TypeIs (.type X) "type") {Q : Value → Shared → Prop}
    (h : wpAny (model prog w) A.in1 (Builtin.«object.__ne__» ⟨[.type X, .type Y], []⟩) (fun f s' => ∃ v, f = .done (.ret v) ∧ Q v s') E s) :
    wpAny (model prog w) A (call (.builtin "object.__ne__") [.type X, .type Y]) Q E s := by
  refine wpAny_call (codeAny_call_builtin slot_tyNe.plain F.cmpEntry_ne (slot_tyNe.check _ _ _ _ _ _ _ _ (hX s) (F.cmpArgs_ne _ _) ?_))
  refine wpAny_mono h (fun f s' hf => ?_) fun _ _ e => e
  obtain ⟨v, rfl, q⟩ := hf
  exact q
theorem ne_decline {a b : Value} {T id : String} {k : Bool} {Q : Value → Shared → Prop} (ha : ∀ s' : Shared, s'.TypeIs a T) (hb : ∀ s' : Shared, s'.TypeIs b T)
    (h1 : Slot T (cmpInfo .NotEq).2.1 id) (h2 : Slot T (cmpInfo .NotEq).2.2 id) (hv : [a, b].any Value.onHeap = false) (hk : isSame a b = pure k)
    (hc : wpAny (model prog w) A (call (.builtin id) [a, b]) (fun v s₁ => v = .notImplemented ∧ wpAny (model prog w) A (call (.builtin id) [b, a]) (fun v s₂ => v = .notImplemented ∧ Q (.bool (!k)) s₂) E s₁) E s) :
    wpAny (model prog w) A (richCompare .NotEq a b) Q E s := by
  rcases hi : cmpInfo CmpOp.NotEq with ⟨sym, f, r⟩
  rw [hi] at h1 h2
  simp only [richCompare, hi, (ha s).oneThing_none]
  try with_reducible refine wpAny_holding ?_
  refine wpAny_bind (wpAny_cRoomFor_or (.inl hv) ?_)
  refine wpAny_bind (wpAny_typeOf (ha s) (wpAny_bind (wpAny_typeOf (hb s) ?_)))
  simp only [bne_self_eq_false, Bool.false_eq_true, if_false, pure_bind, Bool.not_false, if_true]
  refine wpAny_bind (m := tryCompare a _ b) (wpAny_tryCompare_declines (ha s) h1 (wpAny_mono hc (fun v s₁ h₁ => ⟨h₁.1, ?_⟩) fun _ _ x => x))
  refine wpAny_bind (m := tryCompare b _ a) (wpAny_tryCompare_declines (hb s₁) h2 (wpAny_mono h₁.2 (fun v s₂ h₂ => ⟨h₂.1, ?_⟩) fun _ _ x => x))
  refine wpAny_bind (wpAny_rule (wpAny_bind (wpAny_of_eq hk (wpAny_pure h₂.2))))
end
section
variable {X : Cx}
theorem op_neTy : OpR X (compareOp .NotEq) rNeTy := by
  intro pins s σ H x y v u Q I rx ry h
  obtain ⟨a, b, rfl, rfl, ha, hb, q⟩ := h
  cases (show v = Value.type a from rx)
  cases (show u = Value.type b from ry)
  by_cases e : a = b
  · subst e
    rw [decide_eq_true rfl] at q
    show wpAny _ _ (richCompare .NotEq _ _) _ _ _
    exact wpAny_richCompare_same (T := "type") (ty_meta ha s) (ty_meta ha s) slot_tyNe (call_tyNe (ty_meta ha) (tyNe_same (ty_meta ha) ⟨_, rfl, (fun e => by cases e), .bl false, H, I, rfl, q⟩))
  · rw [decide_eq_false e] at q
    have hne : (Value.type a == Value.type b) = false := by rw [beq_eq_false_iff_ne]; intro z; injection z with z; exact e z
    have hne' : (Value.type b == Value.type a) = false := by rw [beq_eq_false_iff_ne]; intro z; injection z with z; exact e z.symm
    show wpAny _ _ (richCompare .NotEq _ _) _ _ _
    exact ne_decline (T := "type") (k := false) (ty_meta ha) (ty_meta hb) slot_tyNe slot_tyNeR rfl (by rw [isSame_plain rfl, hne])
      (call_tyNe (ty_meta ha) (tyNe_other (ty_meta ha) hne ⟨_, rfl, rfl, call_tyNe (ty_meta hb) (tyNe_other (ty_meta hb) hne' ⟨_, rfl, rfl, .bl true, H, I, rfl, q⟩)⟩))
end
end Own

set_option Elab.async false
set_option linter.all false
set_option maxRecDepth 100000
set_option maxHeartbeats 1000000
namespace Own
open PySem PySem.Spec PyProof.Rows L2
/-! isinstance of the caught error and a tuple of classes -/
def rIsEgT (K : PySem.W.Frag) (cls : Value) (d : Option Addr) (a : Addr) : List V → Hp → VK → Prop := fun xs H Q => ∃ (D tp : Addr) (cs : List V) (us : List Value) (b : Bool), cls = .ref D ∧ d = none ∧ ExcC K D ∧ xs = [.ref a, .ref tp] ∧
  H tp = some (.tup cs) ∧ Paired ClsV cs us ∧ PySem.W.kitAny K (.ref D) us = some b ∧ Q (.bl b) H
theorem isEgT (K : PySem.W.Frag) {X : Cx} {a : Addr} {cls : Value} {d : Option Addr} {oe : Obj} {pn : List (Addr × Obj)} (hz : Zc cls d oe) (hf : ∃ vs, oe.data = .fields vs) (h : X.K = K := by rfl) :
    CallR (X.suite a ((a, oe) :: pn)) (.builtin "isinstance") (rIsEgT K cls d a) := by
  subst h
  intro pins s σ H xs us Q I r h
  obtain ⟨D, tp, cs, ws, b, rfl, rfl, C, rfl, hT, k, e, q⟩ := h
  obtain ⟨u1, u2, rfl, r1, r2⟩ := vals2 r
  cases (show u1 = Value.ref a from r1)
  cases (show u2 = Value.ref tp from r2)
  obtain ⟨hget, _⟩ := I.pin (a, oe) (List.mem_append.mpr (.inl List.mem_cons_self))
  obtain ⟨vs, hv⟩ := hf
  have J : PySem.W.InstAt s.heap a oe D none := by
    obtain ⟨oc, od, oda, osl⟩ := oe
    obtain ⟨h1, h2⟩ := hz
    dsimp only at h1 h2 hv
    subst h1 h2 hv
    exact ⟨hget, rfl, rfl, trivial⟩
  obtain ⟨_, its, rv, o, h1, h2, n, h3⟩ := (show ObjOk X.prog X.w H s.heap tp (.tup cs) from I.hok tp _ hT)
  have e3 := ClsV.all k rv
  subst e3
  obtain ⟨oc, od, dt, sl⟩ := o
  simp only at h2 h3
  subst h2 h3
  exact PySem.W.kia_tup (PySem.W.handS_kitx_exc C.hg C.hk C.hs C.hd C.ha C.hn C.ht C.hm) I.kIn J h1 e (fun z => nomatch z) fun tk => ⟨.bl b, H, I.tok tk, rfl, q⟩
/-- str(x), x an int or a text -/
theorem strV {X : Cx} : CallR X (.type "str") (fun xs H Q => (∃ i, xs = [.int i] ∧ i.natAbs.log2 < 1920 ∧ Q (.str (toString i)) H) ∨ ∃ a, xs = [.str a] ∧ Q (.str a) H) := by
  intro pins s σ H xs us Q I r h
  rcases h with h | h
  · exact call_str_int pins s σ H xs us Q I r h
  · exact SkE.call_str_str pins s σ H xs us Q I r h
def rJoin (K : PySem.W.Frag) : V → List V → Hp → VK → Prop := fun x xs H Q => ∃ a p, ∃ ys : List Str, x = .str a ∧ xs = [.ref p] ∧ (SqL K H p (ys.map V.str) ∨ SqT K H p (ys.map V.str)) ∧
  (ys.map (·.length)).sum + ys.length * a.length ≤ 16777216 ∧ Q (.str (Txt.join a ys)) H
theorem joinK (K : PySem.W.Frag) {X : Cx} {e : Expr} {to te : TE} (p : PE X e (tM1 (rJoin X.K) to te)) (h : X.K = K := by rfl) : PE X e (tM1 (rJoin K) to te) := by
  subst h
  exact p
def rTupOf (K : PySem.W.Frag) : List V → Hp → VK → Prop := fun xs H Q => ∃ p ys, xs = [.ref p] ∧ ((SqL K H p ys ∧ ∀ l, H l = none → Q (.ref l) (upd H l (.tup ys))) ∨ (SqT K H p ys ∧ Q (.ref p) H))
theorem tupOf (K : PySem.W.Frag) {X : Cx} (h : X.K = K := by rfl) : CallR X (.type "tuple") (rTupOf K) := by
  subst h
  exact call_tuple_of
/-- a comprehension whose reading takes its form from the text first -/
theorem pe_lcX {X : Cx} {elt tg iter : Expr} {ifs : List Expr} {scope : Scope} {own : List (Str × Nat)} {pos : Pos} {wi : TI} {g : TG} {tt : TT} {te : TE} (hc : X.calm = true) (hN : X.N.Nodup) (hi : PI X tg iter wi) (ok : BlkOk X.N X.env.scope scope own)
    (hg : ∀ (s : Shared) (H : Hp) (C : Addr) (cl : List (Str × Addr)) (fp : List Addr), PG (X.blk s H scope (compEnvC scope cl C X.env) fp) tg g) (ht : ∀ (s : Shared) (H : Hp) (C : Addr) (cl : List (Str × Addr)) (fp : List Addr), PTs (X.blk s H scope (compEnvC scope cl C X.env) fp) ifs tt)
    (he : ∀ (s : Shared) (H : Hp) (C : Addr) (cl : List (Str × Addr)) (fp : List Addr), PE (X.blk s H scope (compEnvC scope cl C X.env) fp) elt te) (hs : ∀ x, foldedSetIterable iter X.env x = pure x) :
    PE X (.ListComp elt [⟨tg, iter, ifs, 0⟩] scope pos) (tLc wi g tt te (own.map (·.2))) := pe_lc hc hN hi ok hg ht he hs
/-! numbers as texts -/
open TL
def dig (c : Nat) : Bool := decide (48 ≤ c) && decide (c ≤ 57)
theorem digits_tl : tl (Str.ofString "0123456789") = [48, 49, 50, 51, 52, 53, 54, 55, 56, 57] := by
  rw [tl_ofString]
  rfl
theorem in_digits (c : Nat) : decide (c ∈ (Str.ofString "0123456789").cps.toList) = dig c := by
  rw [show (Str.ofString "0123456789").cps.toList = [48, 49, 50, 51, 52, 53, 54, 55, 56, 57] from digits_tl]
  unfold dig
  rw [Bool.eq_iff_iff, decide_eq_true_eq, Bool.and_eq_true, decide_eq_true_eq, decide_eq_true_eq]
  simp only [List.mem_cons, List.not_mem_nil, or_false]
  omega
def z0 : Str := Str.ofString "0"
theorem z0_is : z0 = ⟨#[48]⟩ := ext_tl (by
  show tl (Str.ofString "0") = [48]
  rw [tl_ofString]
  rfl)
theorem starts0 (x : Str) : Txt.startswith x z0 = decide ((tl x)[0]? = some 48) := by
  have h := StrLaws.subAt_one x 48 0
  rw [← z0_is] at h
  unfold Txt.startswith
  rw [Bool.eq_iff_iff, Bool.and_eq_true, decide_eq_true_eq, decide_eq_true_eq]
  exact h
/-- a number as the notation has it -/
def okN (x : Str) : Bool := decide (1 ≤ x.length) && decide (x.length ≤ 30) && !(Txt.startswith x z0 && !decide (x = z0)) && (tl x).all dig
def numV (x : Str) : Int := (intText? x).getD 0
theorem dig_all {l : List Nat} (h : l.all dig = true) : NumText.AllDigits l := fun c hc => by
  have := List.all_eq_true.mp h c hc
  unfold dig at this
  rw [Bool.and_eq_true, decide_eq_true_eq, decide_eq_true_eq] at this
  exact this
theorem all_dig {l : List Nat} (h : NumText.AllDigits l) : l.all dig = true := List.all_eq_true.mpr fun c hc => by
  have := h c hc
  unfold dig
  rw [Bool.and_eq_true, decide_eq_true_eq, decide_eq_true_eq]
  exact this
theorem digs_num {x : Str} (h0 : 1 ≤ x.length) (h1 : x.length ≤ 30) (h : (tl x).all dig = true) : intText? x = some (numV x) := by
  have e := intText_digits (x := x) (dig_all h) (by
    intro z
    rw [len_tl] at h0
    rw [show tl x = [] from z] at h0
    exact absurd h0 (by decide)) (by omega)
  unfold numV
  rw [e]
  rfl
theorem okN_num {x : Str} (h : okN x = true) : intText? x = some (numV x) ∧ x.length ≤ 30 := by
  unfold okN at h
  rw [Bool.and_eq_true, Bool.and_eq_true, Bool.and_eq_true, decide_eq_true_eq, decide_eq_true_eq] at h
  exact ⟨digs_num h.1.1.1 h.1.1.2 h.2, h.1.1.2⟩
def num (n : Nat) : Str := Str.ofString (toString ((n : Nat) : Int))
theorem num_tl (n : Nat) : tl (num n) = numL n := tl_num n
theorem numL_head {n : Nat} (h : (numL n)[0]? = some 48) : n = 0 := by
  induction n using Nat.strongRecOn with
  | _ n ih =>
    by_cases c : n < 10
    · rw [numL_lt c] at h
      have := Option.some.inj h
      omega
    · rw [numL_step (by omega)] at h
      have ne := numL_ne (n / 10)
      have l : 0 < (numL (n / 10)).length := List.length_pos_iff.mpr ne
      rw [List.getElem?_append_left l] at h
      have := ih (n / 10) (by omega) h
      omega
theorem num0 : num 0 = z0 := ext_tl (by
  rw [num_tl, numL_lt (by decide), z0_is])
theorem num_len {n : Nat} (h : n < 10 ^ 30) : (num n).length ≤ 30 := by
  rw [len_tl, num_tl]
  exact numL_len (by decide) h
theorem num_ok {n : Nat} (h : n < 10 ^ 30) : okN (num n) = true := by
  have l1 : 1 ≤ (num n).length := by
    rw [len_tl, num_tl]
    exact List.length_pos_iff.mpr (numL_ne n)
  unfold okN
  rw [decide_eq_true l1, decide_eq_true (num_len h), num_tl, all_dig (numL_digits n), starts0, num_tl]
  cases c : decide ((numL n)[0]? = some 48) with
  | false => rfl
  | true =>
    have := numL_head (of_decide_eq_true c)
    subst this
    rw [num0, decide_eq_true rfl]
    rfl
theorem num_val {n : Nat} (h : n < 10 ^ 30) : numV (num n) = (n : Int) := by
  unfold numV num
  rw [int_num (by have := num_len h; rw [len_tl, num_tl] at this; omega)]
  rfl
/-! a line of the notation -/
def wCome : Str := Str.ofString "come"
def wGo : Str := Str.ofString "go"
def sp1 : Str := Str.ofString " "
theorem sp1_tl : tl sp1 = [32] := by
  show tl (Str.ofString " ") = [32]
  rw [tl_ofString]
  rfl
def many (w : Str) : V := if w = wCome then .int 2 else if w = wGo then .int 1 else .non
def parseW : List Str → Option (Str × List Int)
  | [] => none
  | w :: r => if (decide (V.int (r.length : Nat) = many w) && r.all okN) = true then some (w, r.map numV) else none
def parse (x : Str) : Option (Str × List Int) := parseW (Txt.split x sp1)
theorem split_some (x : Str) : ∃ w r, Txt.split x sp1 = w :: r := by
  have h := split_spl x sp1 (by rw [sp1_tl]; exact List.cons_ne_nil _ _) (kind_ok (by
    show sp1.cps.all (· < 256) = true
    rw [← Array.all_toList, show sp1.cps.toList = [32] from sp1_tl]
    rfl))
  cases e : Txt.split x sp1 with
  | cons w r => exact ⟨w, r, rfl⟩
  | nil =>
    rw [e] at h
    have : ∀ (S : List Nat) (l : List Nat) (k : Nat) (acc : List Nat), spl S k acc l ≠ [] := by
      intro S l
      induction l with
      | nil =>
        intro k acc
        rw [spl_nil]
        exact List.cons_ne_nil _ _
      | cons c r ih =>
        intro k acc
        cases k with
        | zero =>
          cases hp : pre S (c :: r) with
          | true =>
            rw [spl_hit hp]
            exact List.cons_ne_nil _ _
          | false =>
            rw [spl_miss hp]
            exact ih _ _
        | succ k =>
          rw [spl_pass]
          intro z
          rw [← spl_pass] at z
          exact absurd z (by
            show spl S k acc r ≠ []
            exact ih _ _)
    exact absurd h.symm (this _ _ _ _)
theorem parse_join {w : Str} {ns : List Nat} (hw : 32 ∉ tl w) (hm : many w = .int (ns.length : Nat)) (h : ∀ n ∈ ns, n < 10 ^ 30) : parse (Txt.join sp1 (w :: ns.map num)) = some (w, ns.map fun n : Nat => (n : Int)) := by
  unfold parse
  rw [split_join (y := sp1) (s := 32) (S := []) sp1_tl (by
    rw [← Array.all_toList, show sp1.cps.toList = [32] from sp1_tl]
    rfl) (List.cons_ne_nil _ _) (fun p hp => by
      rcases List.mem_cons.mp hp with rfl | hp
      · exact hw
      · obtain ⟨n, _, rfl⟩ := List.mem_map.mp hp
        rw [num_tl]
        exact numL_free (.inl (by decide)))]
  show (if (decide (V.int (((ns.map num).length : Nat) : Int) = many w) && (ns.map num).all okN) = true then some (w, (ns.map num).map numV) else none) = _
  rw [List.length_map, hm, decide_eq_true rfl, Bool.true_and, if_pos (List.all_eq_true.mpr fun x hx => by
    obtain ⟨n, hn, rfl⟩ := List.mem_map.mp hx
    exact num_ok (h n hn)), List.map_map]
  congr 2
  refine List.map_congr_left fun n hn => ?_
  exact num_val (h n hn)
end Own

set_option Elab.async false
set_option linter.all false
set_option maxRecDepth 100000
set_option maxHeartbeats 1000000
namespace Own
open PySem PySem.Spec PyProof.Rows L2
/-! a method that may raise, in a try: what may come out is told slot by slot -/
def tMethAt (C : Addr) (m : Str) (sp : Sp) (E : L2.St → XK) (ta : TE) (t : TA) : TE := fun σ H Q => ta σ H fun x H1 => ∃ a dx fs, x = .ref a ∧ H1 a = some (.ins C dx fs) ∧ fs.lookup m = none ∧
  t σ H1 fun vs H2 => sp (x :: vs) H2 Q (E σ)
section
variable {X : Cx} {CX : CXT} {k : Nat} {C f : Addr} {fd : FuncData} {ps : List Str} {sp : Sp} {E : L2.St → XK} {m : Str} {o e : Expr} {es : List Expr} {ta : TE} {t : TA} {apos pos : Pos}
theorem pe_methAt {pl : Sem Bool} (he : PE X o ta) (c : Cls X.K C) (hm : Meth X.K C m f) (F : FnOk X.prog X.w X.K X.mg X.base CX k f fd ps sp) (hr : Room k X.A) (hb : Binds X.K fd ps []) (hx : ∀ σ, PassesAt CX X σ (E σ)) (ha : PA X (e :: es) t)
    (hst : starEach (e :: es) X.env = (false, eval e X.env) :: starEach es X.env := by rfl) (hpl : (backTo pos (starEach es X.env)).any (·.1) = false := by rfl)
    (ht : eval (.Call (.Attribute o m apos) (e :: es) [] pos) X.env = (do
      let ov ← eval o X.env
      standAt apos.atName
      let (f, first) ← holding [ov] (getMethod ov m pl)
      callWith pos f first (backTo pos (starEach (e :: es) X.env)) (backToKw pos (keywordEach [] X.env))) := by rfl) :
    PE X (.Call (.Attribute o m apos) (e :: es) [] pos) (tMethAt C m sp E ta t) := by
  refine ⟨fun pins s σ H Q I h => ?_⟩
  refine PySem.W.methodCall_KW (pl := pl) (thn (he.run pins s σ H _ I h) fun u s1 ⟨x, H1, I1, rx, a, dx, fs, ex, ea, l, q⟩ => ?_) ht
  subst ex
  obtain rfl : u = Value.ref a := rx
  refine getmeth_ok I1 ea c hm l ?_
  refine PySem.W.callWith_K (first := [.ref a]) (h₀ := X.base) I.ok.mod.kin hm.kp (thn (ha.run pos pins s1 σ H1 _ I1 q) fun us s2 ⟨vs, H2, I2, r, q2⟩ => ⟨I2.kIn, ?_⟩) hst hpl
  exact run_fnS (us := .ref a :: us) (vs := .ref a :: vs) F hr hb (hx σ) I2 (.cons rfl r) q2
end
end Own

set_option Elab.async false
set_option linter.all false
set_option maxRecDepth 100000
set_option maxHeartbeats 1000000
namespace Own
open PySem PySem.Spec PyProof.Rows L2
/-! a text once or not at all -/
def rMulS : R2 := fun x y H Q => ∃ (a : Str) (b : Bool), x = .str a ∧ y = .int (if b = true then 1 else 0) ∧ a.length ≤ 16 ∧ Q (.str (if b = true then a else Str.empty)) H
theorem op_mul_str {X : Cx} : OpR X (binaryOp .Mult) rMulS := by
  intro pins s σ H x y v u Q I rx ry h
  obtain ⟨a, b, rfl, rfl, la, q⟩ := h
  obtain ⟨t, rfl⟩ := rx
  obtain ⟨t2, rfl⟩ := ry
  have em : ∀ t' : Tok, Value.str (Txt.mul a (if b = true then 1 else 0)) t' = Value.str (if b = true then a else Str.empty) t' := fun t' => by
    cases b with
    | true =>
      show Value.str (Txt.mul a 1) t' = Value.str a t'
      rfl
    | false =>
      show Value.str (Txt.mul a 0) t' = Value.str Str.empty t'
      rfl
  refine PySem.W.KXi.mul rfl la (by cases b <;> decide) (by cases b <;> decide) fun t' k _ _ => ?_
  rw [em t']
  exact ⟨.str (if b = true then a else Str.empty), H, I.tok _, ⟨t', rfl⟩, q⟩
/-! an item of a list or of a tuple -/
def rIxLT (K : PySem.W.Frag) : R2 := fun x y H Q => rIxL K x y H Q ∨ rIxT K x y H Q
theorem ixLT (K : PySem.W.Frag) {X : Cx} (h : X.K = K := by rfl) : IxR X (rIxLT K) := by
  intro value slice pins s σ H x y v u Q I rx ry h1 hs
  rcases h1 with h1 | h1
  · exact ixL K h value slice pins s σ H x y v u Q I rx ry h1 hs
  · exact ixT K h value slice pins s σ H x y v u Q I rx ry h1 hs
/-! isinstance of a pinned exception -/
theorem isiP (K : PySem.W.Frag) {X : Cx} {a D : Addr} {oe : Obj} (C : ExcC K D) (hp : (a, oe) ∈ X.pn) (hz : Zc (.ref D) none oe) (hf : ∃ vs, oe.data = .fields vs) (h : X.K = K := by rfl) :
    CallR X (.builtin "isinstance") (rIsE K D a) := by
  subst h
  intro pins s σ H xs us Q I r h
  obtain ⟨c, cv, b, rfl, hcv, e, q⟩ := h
  obtain ⟨u1, u2, rfl, r1, r2⟩ := vals2 r
  cases (show u1 = Value.ref a from r1)
  cases hcv _ r2
  have hget := (I.pin (a, oe) (List.mem_append_left _ hp)).1
  obtain ⟨vs, hv⟩ := hf
  have J : PySem.W.InstAt s.heap a oe D none := by
    obtain ⟨oc, od, oda, osl⟩ := oe
    obtain ⟨h1, h2⟩ := hz
    dsimp only at h1 h2 hv
    subst h1 h2 hv
    exact ⟨hget, rfl, rfl, trivial⟩
  exact PySem.W.kia_one (PySem.W.handS_kitx_exc C.hg C.hk C.hs C.hd C.ha C.hn C.ht C.hm) I.kIn J e (fun z => nomatch z) fun tk => ⟨.bl b, H, I.kept (t' := tk) fun _ _ z => z, rfl, q⟩
/-! a def called within an except suite, that raises nothing: the exception stays pinned in its body -/
structure FnQ (P : Program) (w : World) (K : PySem.W.Frag) (mg : Str → Option Value) (base : Heap) (k : Nat) (f : Addr) (fd : FuncData) (ps : List Str) (sp : Sp) (p : Addr × Obj) : Prop where
  len : ∀ vs H Q, sp vs H Q E0 → vs.length = ps.length
  run : ∀ (A : Around) (outer : List Env) (s : Shared) (H : Hp) (args : Args) (us : List Value) (vs : List V) (Q : VK), L2H.RoomH k A → L2H.PinOk outer H s p → Env0 P w K mg base A outer s H → BindsTo s fd args (ps.zip us) → Vals vs us → sp vs H Q E0 →
    codeAny (model P w) A (.call (.ref f) args) (CR CX0 outer P w H s Q E0) s
section
variable {P : Program} {w : World} {K : PySem.W.Frag} {mg : Str → Option Value} {base : Heap}
theorem okQ {x qual : Str} {st : Stmt} {f : Addr} {fd : FuncData} {N ps : List Str} {k : Nat} {sp : Sp} {p : Addr × Obj} (F : Fun K x qual st f fd) (S : FnScope N ps (defScope st)) (len : ∀ vs H Q, sp vs H Q E0 → vs.length = ps.length)
    (body : ∀ (cdv : Value) (A : Around) (outer : List Env) (s : Shared) (H : Hp) (vs : List V) (Q : VK), sp vs H Q E0 →
      ∃ t, PSs (L2H.cxH CX0 P w K mg base N qual (defScope st) f cdv A outer s H E0 p).nox (defBody st) t ∧ t { nx := fun _ H' => Q .non H', rt := Q } (L2.start N vs) H) : FnQ P w K mg base (k + 1) f fd ps sp p := by
  obtain ⟨oc, od, kV, doc, pm, an, cdv, ct, osl, rfl, lk, hcd⟩ := F.ex
  refine ⟨len, fun A outer s H args us vs Q hr hpin env hb r hsp => ?_⟩
  have up : ∀ b o, base.get? b = some o → s.heap.get? b = some o := fun b o e => (env.bs b o e).1
  have KX := env.mod.kin.keeps up
  have hkind : ∀ y ∈ ps.zip us, (defScope st).names.lookup y.1 = some .local ∨ ((defScope st).names.lookup y.1 = some .cell ∧ ((cellsFrom (s.heap.objs.size + 1) (defScope st).names []).lookup y.1).isSome = true) := by
    rintro ⟨n, v⟩ hy
    have hn := S.par n (List.of_mem_zip hy).1
    exact hn.imp id fun q => ⟨q, PySem.W.cellsFrom_some _ _ _ (.inl q)⟩
  refine codeAny_call_function hr.depth (KX _ _ lk) rfl S.co S.gen rfl (PySem.W.codeRec_of KX hcd) (hb _ _ _ _ ?_)
  refine wpAny_newFunctionEnv_cells S.kind hkind fun e he s1 x => ?_
  subst he
  refine ⟨(env.mod.nolimit.keeps up).keeps x.toInCall.keep, codeAny_func ?_⟩
  obtain ⟨t, ht, hq⟩ := body cdv A outer s H vs Q hsp
  have I := L2H.inv_startH (CX := CX0) (f := f) (cd := cdv) (E := E0) S hpin env (len _ _ _ hsp) r x
  refine wpAny_mono (ht.nox.run [] s1 (L2.start N vs) H _ I hq) (fun fl s2 hs => ?_) fun _ _ h => h
  cases fl with
  | ret u =>
    obtain ⟨v, σ', H', J, rv, z⟩ := hs
    exact ⟨v, H', J.os, J.bare, J.base, J.hok, rv, z⟩
  | next =>
    obtain ⟨σ', H', J, z⟩ := hs
    exact ⟨.non, H', J.os, J.bare, J.base, J.hok, rfl, z⟩
  | brk =>
    obtain ⟨_, _, _, z⟩ := hs
    exact z.elim
  | cont =>
    obtain ⟨_, _, _, z⟩ := hs
    exact z.elim
end
section
variable {X : Cx} {k : Nat} {f : Addr} {fd : FuncData} {ps : List Str} {α : Type} {R : α → Prop} {spf : α → Sp} {x : Str} {p pos : Pos} {e : Expr} {es : List Expr} {t : TA} {a : Addr} {oe : Obj}
def tCallE (R : α → Prop) (spf : α → Sp) (t : TA) : TE := fun σ H Q => t σ H fun vs H1 => ∃ al, R al ∧ spf al vs H1 Q E0
theorem pe_callE (hp : (a, oe) ∈ X.pn) (F : ∀ al : α, R al → FnQ X.prog X.w X.K X.mg X.base k f fd ps (spf al) (a, oe)) (hr : L2H.RoomH k X.A) (hg : Gl X x) (hm : X.mg x = some (.ref f)) (hk : PySem.W.keepIn X.K (.ref f) = true) (hb : Binds X.K fd ps [])
    (ha : PA X (e :: es) t) (hdb : (x == ("__debug__" : Str)) = false := by decide) (he : starEach (e :: es) X.env = (false, eval e X.env) :: starEach es X.env := by rfl) (hpl : (backTo pos (starEach es X.env)).any (·.1) = false := by rfl) :
    PE X (.Call (.Name x p) (e :: es) [] pos) (tCallE R spf t) := by
  refine ⟨fun pins s σ H Q I h => ?_⟩
  refine wpAny_Call_Name_kw (ld_glob I hg hm ?_ hdb)
  refine PySem.W.callWith_K (h₀ := X.base) I.ok.mod.kin hk (thn (ha.run pos pins s σ H _ I h) fun us s1 ⟨vs, H1, I1, r, al, hR, q⟩ => ⟨I1.kIn, ?_⟩) he hpl
  have F1 := F al hR
  have b := hb s1 us I1.kIn (by
    rw [List.append_nil, ← r.length]
    exact F1.len _ _ _ q)
  rw [List.append_nil] at b
  have pin := I1.pin (a, oe) (List.mem_append_left _ hp)
  have hpin : L2H.PinOk X.stack H1 s1 (a, oe) := ⟨pin.1, pin.2.1, fun hm => (List.mem_cons.mp (I1.stkSub a hm)).elim pin.2.2.1 pin.2.2.2.1, pin.2.2.2.2⟩
  refine wpAny_call (codeAny_mono (F1.run X.A X.stack s1 H1 ⟨us, []⟩ us vs Q hr hpin I1.env0 b r q) fun res s2 hq => ?_)
  cases res with
  | error e => exact hq.elim
  | ok fl =>
    cases fl with
    | ret u => exact I1.after hq
    | next => exact hq.elim
    | brk => exact hq.elim
    | cont => exact hq.elim
end
end Own
namespace Own
open PySem PySem.Spec PyProof.Rows L2
/-! a class called in a try: what its __init__ may let out is told slot by slot -/
def tMakeAt (C : Addr) (sp : Sp) (E : L2.St → XK) (t : TA) : TE := fun σ H Q => t σ H fun vs H1 => ∀ x dx, H1 x = none → H1 dx = none → dx ≠ x →
  sp (.ref x :: vs) (upd (upd H1 dx (.own x)) x (.ins C dx [])) (fun v H2 => v = .non ∧ Q (.ref x) H2) (E σ)
section
variable {X : Cx} {CX : CXT} {k : Nat} {C f : Addr} {fd : FuncData} {ps : List Str} {sp : Sp} {E : L2.St → XK} {x : Str} {p pos : Pos} {e : Expr} {es : List Expr} {t : TA}
theorem makeAt {pins : List (Addr × Obj)} {σ : L2.St} {H : Hp} {s : Shared} {Q : VK} {us : List Value} {vs : List V} (M : Mk X.K C f) (F : FnOk X.prog X.w X.K X.mg X.base CX k f fd ps sp) (hr : Room (k + 1) X.A) (hb : Binds X.K fd ps [])
    (hx : PassesAt CX X σ (E σ)) (I : Inv X pins σ H s) (r : Vals vs us)
    (h : ∀ x dx, H x = none → H dx = none → dx ≠ x → sp (.ref x :: vs) (upd (upd H dx (.own x)) x (.ins C dx [])) (fun v H2 => v = .non ∧ Q (.ref x) H2) (E σ)) :
    wpAny (model X.prog X.w) X.A (call (.ref C) us) (EP X pins σ Q) X.xe s := by
  obtain ⟨n, en⟩ : ∃ n, n = s.heap.objs.size := ⟨_, rfl⟩
  have sp1 := h (s.heap.objs.size + 1) s.heap.objs.size (I.hok.fresh (Nat.le_succ _)) (I.hok.fresh (Nat.le_refl _)) (Nat.ne_of_lt (Nat.lt_succ_self _))
  have J := Inv.made (C := C) I
  have rs : Vals (V.ref (s.heap.objs.size + 1) :: vs) (Value.ref (s.heap.objs.size + 1) :: us) := .cons rfl r
  have bd := hb _ (Value.ref (s.heap.objs.size + 1) :: us) J.kIn (by
    rw [List.append_nil, ← rs.length]
    exact F.len _ _ _ _ sp1)
  rw [List.append_nil] at bd
  have run := F.run _ X.stack _ _ ⟨Value.ref (s.heap.objs.size + 1) :: us, []⟩ _ _ _ (E σ) (hr.make C us []) (J.env0.make C us []) bd rs sp1
  refine wpAny_call (make_map (f := f) I.kIn M.makes M.init (beq_iff_eq.mp M.fn) (codeAny_mono run fun res s2 hq => ?_))
  cases res with
  | error e => exact hx pins _ _ e s2 J hq
  | ok fl =>
    cases fl with
    | ret u =>
      obtain ⟨v, H2, J2, rv, ev, q3⟩ := J.after hq
      subst ev
      exact ⟨rv, V.ref (s.heap.objs.size + 1), H2, J2, rfl, q3⟩
    | next => exact hq.elim
    | brk => exact hq.elim
    | cont => exact hq.elim
theorem pe_makeAt (M : Mk X.K C f) (F : FnOk X.prog X.w X.K X.mg X.base CX k f fd ps sp) (hr : Room (k + 1) X.A) (hg : Gl X x) (hm : X.mg x = some (.ref C)) (hb : Binds X.K fd ps []) (hx : ∀ σ, PassesAt CX X σ (E σ)) (ha : PA X (e :: es) t)
    (hdb : (x == ("__debug__" : Str)) = false := by decide) (he : starEach (e :: es) X.env = (false, eval e X.env) :: starEach es X.env := by rfl) (hpl : (backTo pos (starEach es X.env)).any (·.1) = false := by rfl) :
    PE X (.Call (.Name x p) (e :: es) [] pos) (tMakeAt C sp E t) := by
  refine ⟨fun pins s σ H Q I h => ?_⟩
  refine wpAny_Call_Name_kw (ld_glob I hg hm ?_ hdb)
  exact PySem.W.callWith_K (h₀ := X.base) I.ok.mod.kin M.kp (thn (ha.run pos pins s σ H _ I h) fun us s1 ⟨vs, H1, I1, r, q⟩ => ⟨I1.kIn, makeAt M F hr hb (hx σ) I1 r q⟩) he hpl
end
end Own
namespace Own
open PySem PySem.Spec PyProof.Rows L2
theorem roomS {k j : Nat} {X : Cx} {a : Addr} {pn : List (Addr × Obj)} (r : Room j X.A) (h : k ≤ j) : L2H.RoomH k (X.suite a pn).A := ⟨by
  have := r.dp
  show X.A.depth + 3 * k + 5 < _
  omega, by
  have := r.un
  show X.A.units + 16 * k + 200 < _
  omega⟩
end Own

set_option Elab.async false
set_option linter.all false
set_option maxRecDepth 100000
set_option maxHeartbeats 4000000
namespace My
open PySem PySem.Spec PyProof.Rows L2 Own TL Mt
def onceS (s : String) (b : Bool) : Str := if b = true then Str.ofString s else Str.empty
section
variable {P : Program} {w : World} {K : PySem.W.Frag} {mg : Str → Option Value} {base : Heap} {W : Tbs}
/-- the class at D is a refusal whose kind is the text t -/
structure KindOf (T : Txt K mg) (D : Addr) (t : Str) : Prop where
  c : ExcC K D
  v : PySem.W.kitOne K (.ref D) (.type "ValueError") = some true
  b : ∃ b1 b2 b3 b4 b5 b6 b7 b8 : Bool, PySem.W.kitOne K (.ref D) (.ref T.E_BadCount) = some b1 ∧ PySem.W.kitOne K (.ref D) (.ref T.E_BadSide) = some b2 ∧ PySem.W.kitOne K (.ref D) (.ref T.E_BadEnd) = some b3 ∧ PySem.W.kitOne K (.ref D) (.ref T.E_TooMany) = some b4 ∧
    PySem.W.kitOne K (.ref D) (.ref T.E_NoPair) = some b5 ∧ PySem.W.kitOne K (.ref D) (.ref T.E_BadHue) = some b6 ∧ PySem.W.kitOne K (.ref D) (.ref T.E_NotFree) = some b7 ∧ PySem.W.kitOne K (.ref D) (.ref T.E_BadLine) = some b8 ∧
    t = onceS "count" b1 ++ onceS "side" b2 ++ onceS "end" b3 ++ onceS "many" b4 ++ onceS "pair" b5 ++ onceS "hue" b6 ++ onceS "free" b7 ++ onceS "line" b8 ∧ t.length ≤ 100
theorem kind_count (T : Txt K mg) : KindOf T T.E_BadCount (Str.ofString "count") := ⟨T.q_BadCount, T.i_BadCount_ValueError, _, _, _, _, _, _, _, _, T.i_BadCount_BadCount, T.i_BadCount_BadSide, T.i_BadCount_BadEnd, T.i_BadCount_TooMany, T.i_BadCount_NoPair, T.i_BadCount_BadHue, T.i_BadCount_NotFree, T.i_BadCount_BadLine, by decide +kernel⟩
theorem kind_side (T : Txt K mg) : KindOf T T.E_BadSide (Str.ofString "side") := ⟨T.q_BadSide, T.i_BadSide_ValueError, _, _, _, _, _, _, _, _, T.i_BadSide_BadCount, T.i_BadSide_BadSide, T.i_BadSide_BadEnd, T.i_BadSide_TooMany, T.i_BadSide_NoPair, T.i_BadSide_BadHue, T.i_BadSide_NotFree, T.i_BadSide_BadLine, by decide +kernel⟩
theorem kind_end (T : Txt K mg) : KindOf T T.E_BadEnd (Str.ofString "end") := ⟨T.q_BadEnd, T.i_BadEnd_ValueError, _, _, _, _, _, _, _, _, T.i_BadEnd_BadCount, T.i_BadEnd_BadSide, T.i_BadEnd_BadEnd, T.i_BadEnd_TooMany, T.i_BadEnd_NoPair, T.i_BadEnd_BadHue, T.i_BadEnd_NotFree, T.i_BadEnd_BadLine, by decide +kernel⟩
theorem kind_many (T : Txt K mg) : KindOf T T.E_TooMany (Str.ofString "many") := ⟨T.q_TooMany, T.i_TooMany_ValueError, _, _, _, _, _, _, _, _, T.i_TooMany_BadCount, T.i_TooMany_BadSide, T.i_TooMany_BadEnd, T.i_TooMany_TooMany, T.i_TooMany_NoPair, T.i_TooMany_BadHue, T.i_TooMany_NotFree, T.i_TooMany_BadLine, by decide +kernel⟩
theorem kind_pair (T : Txt K mg) : KindOf T T.E_NoPair (Str.ofString "pair") := ⟨T.q_NoPair, T.i_NoPair_ValueError, _, _, _, _, _, _, _, _, T.i_NoPair_BadCount, T.i_NoPair_BadSide, T.i_NoPair_BadEnd, T.i_NoPair_TooMany, T.i_NoPair_NoPair, T.i_NoPair_BadHue, T.i_NoPair_NotFree, T.i_NoPair_BadLine, by decide +kernel⟩
theorem kind_hue (T : Txt K mg) : KindOf T T.E_BadHue (Str.ofString "hue") := ⟨T.q_BadHue, T.i_BadHue_ValueError, _, _, _, _, _, _, _, _, T.i_BadHue_BadCount, T.i_BadHue_BadSide, T.i_BadHue_BadEnd, T.i_BadHue_TooMany, T.i_BadHue_NoPair, T.i_BadHue_BadHue, T.i_BadHue_NotFree, T.i_BadHue_BadLine, by decide +kernel⟩
theorem kind_free (T : Txt K mg) : KindOf T T.E_NotFree (Str.ofString "free") := ⟨T.q_NotFree, T.i_NotFree_ValueError, _, _, _, _, _, _, _, _, T.i_NotFree_BadCount, T.i_NotFree_BadSide, T.i_NotFree_BadEnd, T.i_NotFree_TooMany, T.i_NotFree_NoPair, T.i_NotFree_BadHue, T.i_NotFree_NotFree, T.i_NotFree_BadLine, by decide +kernel⟩
def spKind (W : Tbs) (a : Addr) (t : Str) : Sp := fun vs H Q _ => vs = [.ref a] ∧ ∀ H', Ext W H H' → Q (.str t) H'
theorem ok_l_kind (T : Txt K mg) {a D : Addr} {t : Str} {oe : Obj} (kd : KindOf T D t) (hz : Zc (.ref D) none oe) (hf : ∃ vs, oe.data = .fields vs) : FnQ P w K mg base 1 T.f_l_kind T.d_l_kind ["_law_error"] (spKind W a t) (a, oe) := by
  have hC := kd.c
  have hB : (a, oe) ∈ ([(a, oe)] : List (Addr × Obj)) := List.mem_cons_self
  refine okQ T.D_l_kind.F sc_l_kind (fun vs H Q h => ?_) (fun cdv A outer s H vs Q h => ?_)
  · rw [h.1]
    rfl
  · obtain ⟨rfl, q⟩ := h
    obtain ⟨b1, b2, b3, b4, b5, b6, b7, b8, k1, k2, k3, k4, k5, k6, k7, k8, et, lt⟩ := kd.b
    refine ⟨_, (pss_cons (ps_set (i := 1) sc_l_kind.nd rfl (.inl rfl) (pe_op op_add_str (pe_op op_mul_str pe_str (pe_callTy call_int1 (by rfl) T.z_int (by decide +kernel) (pa_cons (pe_callB (isiP K hC hB hz hf) (by rfl) T.z_isinstance (by decide +kernel) (pa_cons (pv 0) (pa_cons (pe_glob (v := .ref T.E_BadCount) rfl T.x_BadCount.g rfl) pa_nil))) pa_nil))) (pe_op op_mul_str pe_str (pe_callTy call_int1 (by rfl) T.z_int (by decide +kernel) (pa_cons (pe_callB (isiP K hC hB hz hf) (by rfl) T.z_isinstance (by decide +kernel) (pa_cons (pv 0) (pa_cons (pe_glob (v := .ref T.E_BadSide) rfl T.x_BadSide.g rfl) pa_nil))) pa_nil)))))
    (pss_cons (ps_set (i := 1) sc_l_kind.nd rfl (.inl rfl) (pe_op op_add_str (pe_op op_add_str (pv 1) (pe_op op_mul_str pe_str (pe_callTy call_int1 (by rfl) T.z_int (by decide +kernel) (pa_cons (pe_callB (isiP K hC hB hz hf) (by rfl) T.z_isinstance (by decide +kernel) (pa_cons (pv 0) (pa_cons (pe_glob (v := .ref T.E_BadEnd) rfl T.x_BadEnd.g rfl) pa_nil))) pa_nil)))) (pe_op op_mul_str pe_str (pe_callTy call_int1 (by rfl) T.z_int (by decide +kernel) (pa_cons (pe_callB (isiP K hC hB hz hf) (by rfl) T.z_isinstance (by decide +kernel) (pa_cons (pv 0) (pa_cons (pe_glob (v := .ref T.E_TooMany) rfl T.x_TooMany.g rfl) pa_nil))) pa_nil)))))
    (pss_cons (ps_set (i := 1) sc_l_kind.nd rfl (.inl rfl) (pe_op op_add_str (pe_op op_add_str (pv 1) (pe_op op_mul_str pe_str (pe_callTy call_int1 (by rfl) T.z_int (by decide +kernel) (pa_cons (pe_callB (isiP K hC hB hz hf) (by rfl) T.z_isinstance (by decide +kernel) (pa_cons (pv 0) (pa_cons (pe_glob (v := .ref T.E_NoPair) rfl T.x_NoPair.g rfl) pa_nil))) pa_nil)))) (pe_op op_mul_str pe_str (pe_callTy call_int1 (by rfl) T.z_int (by decide +kernel) (pa_cons (pe_callB (isiP K hC hB hz hf) (by rfl) T.z_isinstance (by decide +kernel) (pa_cons (pv 0) (pa_cons (pe_glob (v := .ref T.E_BadHue) rfl T.x_BadHue.g rfl) pa_nil))) pa_nil)))))
    (pss_cons (ps_set (i := 1) sc_l_kind.nd rfl (.inl rfl) (pe_op op_add_str (pe_op op_add_str (pv 1) (pe_op op_mul_str pe_str (pe_callTy call_int1 (by rfl) T.z_int (by decide +kernel) (pa_cons (pe_callB (isiP K hC hB hz hf) (by rfl) T.z_isinstance (by decide +kernel) (pa_cons (pv 0) (pa_cons (pe_glob (v := .ref T.E_NotFree) rfl T.x_NotFree.g rfl) pa_nil))) pa_nil)))) (pe_op op_mul_str pe_str (pe_callTy call_int1 (by rfl) T.z_int (by decide +kernel) (pa_cons (pe_callB (isiP K hC hB hz hf) (by rfl) T.z_isinstance (by decide +kernel) (pa_cons (pv 0) (pa_cons (pe_glob (v := .ref T.E_BadLine) rfl T.x_BadLine.g rfl) pa_nil))) pa_nil)))))
    (pss_one (ps_ret (pe_ix (ixL K) (pe_lst (pa_cons (pv 1) (pa_cons pe_str pa_nil))) (pe_callTy call_int1 (by rfl) T.z_int (by decide +kernel) (pa_cons (pe_not (pe_callB (isiP K hC hB hz hf) (by rfl) T.z_isinstance (by decide +kernel) (pa_cons (pv 0) (pa_cons (pe_bltn (v := .ty "ValueError") (by rfl) T.z_ValueError (by decide +kernel) rfl) pa_nil)))) pa_nil)) (fun _ _ => rfl)))))))), ?_⟩
    have own : ∀ {D : Addr} {u : Value}, RelV (.ref D) u → u = .ref D := fun h => h
    have ol : ∀ (s : String) (b : Bool), (Str.ofString s).length ≤ 16 → (onceS s b).length ≤ 16 := fun s b h => by
      cases b with
      | true => exact h
      | false => exact Nat.zero_le _
    have l1 := ol "count" b1 (by decide +kernel)
    have l2 := ol "side" b2 (by decide +kernel)
    have l3 := ol "end" b3 (by decide +kernel)
    have l4 := ol "many" b4 (by decide +kernel)
    have l5 := ol "pair" b5 (by decide +kernel)
    have l6 := ol "hue" b6 (by decide +kernel)
    have l7 := ol "free" b7 (by decide +kernel)
    have l8 := ol "line" b8 (by decide +kernel)
    have sz : ∀ {n : Nat}, n ≤ 1000 → n ≤ sizeLine := fun h => Nat.le_trans h (by decide)
    have la : ∀ a b : Str, (a ++ b).length = a.length + b.length := fun a b => Str.length_append ..
    refine ⟨_, rfl, _, _, _, rfl, fun u h => h, k1, .inr ⟨_, rfl, _, b1, rfl, rfl, by decide +kernel, _, rfl, _, _, _, rfl, fun u h => h, k2, .inr ⟨_, rfl, _, b2, rfl, rfl, by decide +kernel, _, _, rfl, rfl, ?_, ?_⟩⟩⟩
    · show (onceS "count" b1).length + (onceS "side" b2).length ≤ sizeLine
      exact sz (by omega)
    obtain ⟨s2, es2⟩ : ∃ s2, s2 = onceS "count" b1 ++ onceS "side" b2 := ⟨_, rfl⟩
    have ls2 : s2.length ≤ 32 := by rw [es2, la]; omega
    refine ⟨_, rfl, _, rfl, _, _, _, rfl, fun u h => h, k3, .inr ⟨_, rfl, _, b3, rfl, rfl, by decide +kernel, _, _, rfl, rfl, ?_, _, rfl, _, _, _, rfl, fun u h => h, k4, .inr ⟨_, rfl, _, b4, rfl, rfl, by decide +kernel, _, _, rfl, rfl, ?_, ?_⟩⟩⟩
    · show (onceS "count" b1 ++ onceS "side" b2).length + (onceS "end" b3).length ≤ sizeLine
      rw [← es2]
      exact sz (by omega)
    · show (onceS "count" b1 ++ onceS "side" b2 ++ onceS "end" b3).length + (onceS "many" b4).length ≤ sizeLine
      rw [← es2, la]
      exact sz (by omega)
    obtain ⟨s4, es4⟩ : ∃ s4, s4 = onceS "count" b1 ++ onceS "side" b2 ++ onceS "end" b3 ++ onceS "many" b4 := ⟨_, rfl⟩
    have ls4 : s4.length ≤ 64 := by rw [es4, la, la, la]; omega
    refine ⟨_, rfl, _, rfl, _, _, _, rfl, fun u h => h, k5, .inr ⟨_, rfl, _, b5, rfl, rfl, by decide +kernel, _, _, rfl, rfl, ?_, _, rfl, _, _, _, rfl, fun u h => h, k6, .inr ⟨_, rfl, _, b6, rfl, rfl, by decide +kernel, _, _, rfl, rfl, ?_, ?_⟩⟩⟩
    · show (onceS "count" b1 ++ onceS "side" b2 ++ onceS "end" b3 ++ onceS "many" b4).length + (onceS "pair" b5).length ≤ sizeLine
      rw [← es4]
      exact sz (by omega)
    · show (onceS "count" b1 ++ onceS "side" b2 ++ onceS "end" b3 ++ onceS "many" b4 ++ onceS "pair" b5).length + (onceS "hue" b6).length ≤ sizeLine
      rw [← es4, la]
      exact sz (by omega)
    obtain ⟨s6, es6⟩ : ∃ s6, s6 = onceS "count" b1 ++ onceS "side" b2 ++ onceS "end" b3 ++ onceS "many" b4 ++ onceS "pair" b5 ++ onceS "hue" b6 := ⟨_, rfl⟩
    have ls6 : s6.length ≤ 96 := by rw [es6, ← es4, la, la]; omega
    refine ⟨_, rfl, _, rfl, _, _, _, rfl, fun u h => h, k7, .inr ⟨_, rfl, _, b7, rfl, rfl, by decide +kernel, _, _, rfl, rfl, ?_, _, rfl, _, _, _, rfl, fun u h => h, k8, .inr ⟨_, rfl, _, b8, rfl, rfl, by decide +kernel, _, _, rfl, rfl, ?_, ?_⟩⟩⟩
    · show (onceS "count" b1 ++ onceS "side" b2 ++ onceS "end" b3 ++ onceS "many" b4 ++ onceS "pair" b5 ++ onceS "hue" b6).length + (onceS "free" b7).length ≤ sizeLine
      rw [← es6]
      exact sz (by omega)
    · show (onceS "count" b1 ++ onceS "side" b2 ++ onceS "end" b3 ++ onceS "many" b4 ++ onceS "pair" b5 ++ onceS "hue" b6 ++ onceS "free" b7).length + (onceS "line" b8).length ≤ sizeLine
      rw [← es6, la]
      exact sz (by omega)
    refine ⟨_, rfl, by show 2 ≤ sizeLine; decide, fun p np => ?_⟩
    refine newO W (H := H) (p := p) np fun H1 x1 hp => ?_
    refine ⟨_, rfl, _, _, _, rfl, fun u h => h, kd.v, _, rfl, .inr ⟨_, rfl, p, _, _, _, rfl, rfl, SqL.of hp, atI_nat (j := 0) rfl, ?_⟩⟩
    rw [et] at q
    exact q H1 x1
theorem kindE (T : Txt K mg) {a : Addr} {oe : Obj} {cls : Value} {d : Option Addr} (hz : Zc cls d oe) (hf : ∃ vs, oe.data = .fields vs) (al : Addr × Str) (h : cls = .ref al.1 ∧ d = none ∧ KindOf T al.1 al.2) :
    FnQ P w K mg base 1 T.f_l_kind T.d_l_kind ["_law_error"] (spKind W a al.2) (a, oe) := by
  obtain ⟨rfl, rfl, kd⟩ := h
  exact ok_l_kind T kd hz hf
/-- what an except suite does that tells the kind -/
theorem hand (T : Txt K mg) {D u : Addr} {t : Str} {i : Nat} {σ : L2.St} {H : Hp} {N : Ends} (kd : KindOf T D t) (hu : σ[i]? = some (some (.ref u))) (q : ∀ p H', Ext W H H' → H' p = some (.tup [.str t]) → N.rt (.ref p) H') :
    tRet (tTup (tCons (tCallE (fun al : Addr × Str => Value.ref D = Value.ref al.1 ∧ (none : Option Addr) = none ∧ KindOf T al.1 al.2) (fun al => spKind W u al.2) (tCons (tVar i) tNil)) tNil)) N σ H := by
  refine ⟨_, hu, (D, t), ⟨rfl, rfl, kd⟩, rfl, fun H1 x1 => ⟨by show 1 ≤ sizeLine; decide, fun p np => ?_⟩⟩
  refine newO W (H := H1) (p := p) np fun H2 x2 hp => ?_
  exact q p H2 (x1.trans x2) hp
end
end My

set_option Elab.async false
set_option linter.all false
set_option maxRecDepth 100000
set_option maxHeartbeats 4000000
namespace My
open PySem PySem.Spec PyProof.Rows L2 Own Mt
section
variable {P : Program} {w : World} {K : PySem.W.Frag} {mg : Str → Option Value} {base : Heap} {W : Tbs}
def spFar : Sp := fun vs H Q _ => ∃ s : Nat, vs = [.int (s : Nat)] ∧ s < 2 ∧ Q (.int ((1 - s : Nat) : Int)) H
theorem ok_far_side (T : Txt K mg) : FnOk P w K mg base CX0 1 T.f_far_side T.d_far_side ["side"] spFar := by
  refine T.D_far_side.F.ok sc_far_side (fun vs H Q E h => ?_) (fun cdv A outer s H vs Q E hr h => ?_)
  · obtain ⟨s, rfl, _⟩ := h
    rfl
  · obtain ⟨sd, rfl, hs, q⟩ := h
    refine ⟨_, (pss_one (ps_ret (pe_ifExp (pt_cmpR op_eq (pv 0) (pe_gi rfl T.c_LEFT) (nomark _)) (pe_gi rfl T.c_RIGHT) (pe_gi rfl T.c_LEFT)))), ?_⟩
    refine ⟨_, rfl, rfl, _, rfl, ?_⟩
    match sd, hs with
    | 0, _ => exact iteT q
    | 1, _ => exact iteF q
def spTable (K : PySem.W.Frag) (W : Tbs) : Sp := fun vs H Q _ => ∃ (d : Addr) (kvs : List (Key × V)) (R : List Pr), vs = [.ref d] ∧ H d = some (.dK kvs) ∧ DEach K H kvs R ∧ R.length ≤ 100 ∧
  ∀ p tk H', H p = none → Ext W H H' → H' p = some (.dT tk) → TabOf K H' tk R → Q (.ref p) H'
theorem ok_table_of (T : Txt K mg) : FnOk P w K mg base CX0 1 T.f_table_of T.d_table_of ["rows"] (spTable K W) := by
  refine T.D_table_of.F.ok sc_table_of (fun vs H Q E h => ?_) (fun cdv A outer s H vs Q E hr h => ?_)
  · obtain ⟨d, kvs, R, rfl, _⟩ := h
    rfl
  · obtain ⟨d, kvs, R, rfl, hd, hE, few, q⟩ := h
    refine ⟨_, (pss_cons (ps_set (i := 1) sc_table_of.nd rfl (.inl rfl) pe_dnewT)
    (pss_cons (ps_lock (ps_for PassesOwn.never rfl (pi_items (pv 0)) (pg_tup rfl (pgs_cons (pg_name (i := 2) sc_table_of.nd rfl (.inl rfl)) (pgs_cons (pg_tup rfl (pgs_cons (pg_name (i := 3) sc_table_of.nd rfl (.inl rfl)) (pgs_cons (pg_name (i := 4) sc_table_of.nd rfl (.inl rfl)) (pgs_cons (pg_name (i := 5) sc_table_of.nd rfl (.inl rfl)) pgs_nil)))) pgs_nil))) 
      (pss_cons (ps_dput (hu_of hr) (pv 1) (pe_tup (pa_cons (pe_gi rfl T.c_LEFT) (pa_cons (pv 3) (pa_cons (pv 5) pa_nil)))) (pe_tup (pa_cons (pv 2) (pa_cons (pv 4) pa_nil))) rfl)
      (pss_one (ps_dput (hu_of hr) (pv 1) (pe_tup (pa_cons (pe_gi rfl T.c_RIGHT) (pa_cons (pv 4) (pa_cons (pv 5) pa_nil)))) (pe_tup (pa_cons (pv 2) (pa_cons (pv 3) pa_nil))) rfl)))))
    (pss_one (ps_ret (pv 1))))), ?_⟩
    intro p np
    refine newO W np fun H0 x0 hp => ?_
    have hd0 := x0.dk hd
    have hE0 := x0.deach hE
    have npd : p ≠ d := (ne_of_none hd np).symm
    refine ⟨d, _, hd0, trivial, fun od => ?_⟩
    refine ⟨_, rfl, d, od, kvs, rfl, upd_same, for_it walk_items (fun i σ H2 => ∃ (v2 v3 v4 v5 : Option V) (tk : List (List Key × V)), σ = [some (.ref d), some (.ref p), v2, v3, v4, v5] ∧
      Fx W [p] (upd H0 d (.frz od (.dK kvs))) H2 ∧ H2 p = some (.dT tk) ∧ TabOf K H2 tk (R.take i))
      ⟨none, none, none, none, [], rfl, .refl, by rw [upd_ne npd]; exact hp, .nil⟩ (fun i σ H2 _ ⟨_, _, _, _, _, _, x, _⟩ => x.fz upd_same (by simpa using npd.symm)) ?_ ?_⟩
    · rintro i y σ H2 H3 hi ⟨v2, v3, v4, v5, tk, rfl, x, hp2, hT⟩ ⟨T0, a, b, rfl, nT0, rfl, ha, hb⟩
      obtain ⟨kv, hkv, rfl⟩ := Option.map_eq_some_iff.mp ha
      have hb : Option.map Prod.snd kvs[i]? = some b := hb
      rw [hkv] at hb
      cases hb
      obtain ⟨pr, hpr, c, e, hc⟩ := pon hE0 hkv
      rw [e]
      have hl : tk.length < sizeLine := by
        have h1 := hT.len
        have h2 := (List.getElem?_eq_some_iff.mp hpr).1
        rw [List.length_take] at h1
        exact small1000 (by omega)
      have hl2 : ∀ v, (putK tk (key3 0 pr.l pr.h) v).length < sizeLine := fun v => by
        have h1 := hT.len
        have h2 := (List.getElem?_eq_some_iff.mp hpr).1
        have h3 := length_putK tk (key3 0 pr.l pr.h) v
        rw [List.length_take] at h1
        exact small1000 (by omega)
      refine newO W (H := H2) (p := T0) nT0 fun H4 x4 hT0 => ?_
      have hcd : SqT K (upd H0 d (.frz od (.dK kvs))) c [.int pr.l, .int pr.r, .int pr.h] := tup_upd hd0 (fun _ z => by cases z) (fun _ _ z => by cases z) hc
      have hc4 := x4.tup (x.tup hcd)
      refine ⟨T0, _, rfl, .inl (.inl hT0), rfl, _, _, rfl, _, _, rfl, c, _, rfl, hc4, rfl, _, _, rfl, _, _, rfl, _, _, rfl, rfl, rfl, ?_⟩
      -- table[LEFT, left, hue] = (number, right)
      refine ⟨_, rfl, _, rfl, by show 2 ≤ sizeLine; decide, fun t1 nt1 => ?_⟩
      refine newO W (H := H4) (p := t1) nt1 fun H5 x5 ht1 => ?_
      refine ⟨_, rfl, _, rfl, _, rfl, by show 3 ≤ sizeLine; decide, fun k1 nk1 => ?_⟩
      refine newO W (H := H5) (p := k1) nk1 fun H6 x6 hk1 => ?_
      have hp6 := x6.dt (x5.dt (x4.dt hp2))
      refine ⟨p, _, rfl, DPut.t (k := key3 0 pr.l pr.h) hp6 hk1 hl, ?_⟩
      have x46 : Ext W H2 H6 := x4.trans (x5.trans x6)
      have y6 := (x.trans x46.up).put (p := p) (o := .dT (putK tk (key3 0 pr.l pr.h) (.ref t1))) (.inr (by simp)) hp6
      have hp7 : (upd H6 p (.dT (putK tk (key3 0 pr.l pr.h) (.ref t1)))) p = _ := upd_same
      have z7 : Fx W [p] H6 (upd H6 p (.dT (putK tk (key3 0 pr.l pr.h) (.ref t1)))) := Fx.refl.put (.inr (by simp)) hp6
      revert y6 hp7 z7
      generalize upd H6 p (.dT (putK tk (key3 0 pr.l pr.h) (.ref t1))) = H7
      intro y7 hp7 z7
      -- table[RIGHT, right, hue] = (number, left)
      refine ⟨_, rfl, _, rfl, by show 2 ≤ sizeLine; decide, fun t2 nt2 => ?_⟩
      refine newO W (H := H7) (p := t2) nt2 fun H8 x8 ht2 => ?_
      refine ⟨_, rfl, _, rfl, _, rfl, by show 3 ≤ sizeLine; decide, fun k2 nk2 => ?_⟩
      refine newO W (H := H8) (p := k2) nk2 fun H9 x9 hk2 => ?_
      have hp9 := x9.dt (x8.dt hp7)
      refine ⟨p, _, rfl, DPut.t (k := key3 1 pr.r pr.h) hp9 hk2 (hl2 _), ?_⟩
      have x79 : Ext W H7 H9 := x8.trans x9
      have y9 := (y7.trans x79.up).put (p := p) (o := .dT (putK (putK tk (key3 0 pr.l pr.h) (.ref t1)) (key3 1 pr.r pr.h) (.ref t2))) (.inr (by simp)) hp9
      have z9 : Fx W [p] H9 (upd H9 p (.dT (putK (putK tk (key3 0 pr.l pr.h) (.ref t1)) (key3 1 pr.r pr.h) (.ref t2)))) := Fx.refl.put (.inr (by simp)) hp9
      have zz : Fx W [p] H2 (upd H9 p (.dT (putK (putK tk (key3 0 pr.l pr.h) (.ref t1)) (key3 1 pr.r pr.h) (.ref t2)))) := (x46.up.trans z7).trans (x79.up.trans z9)
      refine ⟨_, _, _, _, _, rfl, y9, upd_same, ?_⟩
      rw [take_one hpr]
      refine TabOf.snoc (zz.tabOf hT) ?_ ?_
      · exact (x79.up.trans z9).tup (z7.tup (x6.tup (.inl (.inl ht1))))
      · exact z9.tup (x9.tup (.inl (.inl ht2)))
    · rintro σ H2 ⟨v2, v3, v4, v5, tk, rfl, x, hp2, hT⟩
      have hd2 := x.fz upd_same (by simpa using npd.symm)
      refine ⟨hd2, ?_⟩
      refine ⟨_, rfl, ?_⟩
      have el : R.take kvs.length = R := List.take_of_length_le (by rw [hE.len]; exact Nat.le_refl _)
      rw [el] at hT
      have y := Fx.locked hd0 rfl rfl x hd2
      have z : Fx W [d] H2 (upd H2 d (.dK kvs)) := Fx.refl.put (.inr (by simp)) hd2
      refine q p tk _ np ((x0.up.trans y).down fun b hb => by rw [List.mem_singleton.mp hb]; exact np) (by rw [upd_ne npd]; exact hp2) (z.tabOf hT)
def spFree (K : PySem.W.Frag) (W : Tbs) : Sp := fun vs H Q _ => ∃ (p : Addr) (tk : List (List Key × V)) (R : List Pr) (s e m : Nat), vs = [.ref p, .int (s : Nat), .int (e : Nat), .int (m : Nat)] ∧ H p = some (.dT tk) ∧ TabOf K H tk R ∧ s < 2 ∧ m ≤ 1000 ∧
  ∀ a H', H a = none → Ext W H H' → H' a = some (.lst (vN (free R s e m))) → Q (.ref a) H'
theorem ok_free_at (T : Txt K mg) : FnOk P w K mg base CX0 1 T.f_free_at T.d_free_at ["table", "side", "end", "many"] (spFree K W) := by
  refine T.D_free_at.F.ok sc_free_at (fun vs H Q E h => ?_) (fun cdv A outer s H vs Q E hr h => ?_)
  · obtain ⟨p, tk, R, sd, e, m, rfl, _⟩ := h
    rfl
  · obtain ⟨p, tk, R, sd, e, m, rfl, hp, hT, hs, hm, q⟩ := h
    refine ⟨_, (pss_one (ps_ret (pe_lc rfl sc_free_at.nd (own := [("hue", 4)]) (pi_range1 rfl T.z_range (pa_cons (pv 3) pa_nil)) (blkOk_by (N := N_free_at) (sc := defScope s_free_at) (by decide +kernel)) (fun _ _ _ _ _ => (pg_name (i := 4) sc_free_at.nd rfl (.inl rfl))) (fun _ _ _ _ _ => (pts_one (pt_cmp (pc_dnotin (hu_of hr) (pe_tup (pa_cons (pv 1) (pa_cons (pv 2) (pa_cons (pv 4) pa_nil)))) (pv 0))))) (fun _ _ _ _ _ => (pv 4))))), ?_⟩
    refine ⟨_, rfl, _, rfl, by omega, by omega, ?_⟩
    have en : ((m : Nat) : Int).toNat = m := by omega
    rw [en]
    refine fun D nD => lc_range (lo := 0) (n := m) (fun j H2 => Ext W H H2 ∧ H2 D = some (.lst (vN (free R sd e j)))) ⟨.new nD, upd_same⟩ ?_ ?_
    · rintro j H2 hj ⟨x, hD⟩
      have ej : ((0 : Int) + (j : Nat)) = (j : Nat) := by omega
      rw [ej]
      refine ⟨rfl, ?_⟩
      refine ⟨_, rfl, _, rfl, _, rfl, by show 3 ≤ sizeLine; decide, fun k nk => ?_⟩
      refine newO W (H := H2) (p := k) nk fun H3 x3 hk => ?_
      have x13 : Ext W H H3 := x.trans x3
      refine ⟨_, rfl, p, _, rfl, DGet.t (k := key3 sd e j) (x13.dt hp) hk, _, rfl, ?_⟩
      have fs : free R sd e (j + 1) = free R sd e j ++ if (at_ R sd e j).isNone then [j] else [] := by
        unfold free
        rw [List.range_succ, List.filter_append]
        simp only [List.filter_cons, List.filter_nil]
      have hD3 := x3.lst hD
      cases ha : at_ R sd e j with
      | none =>
        rw [hT.no sd e j hs ha]
        refine iteT ?_
        refine ⟨_, rfl, _, hD3, ?_, x13.put (.inl nD) hD3, ?_⟩
        · rw [List.length_map]
          refine small1000 ?_
          have : (free R sd e j).length ≤ j := by
            unfold free
            exact Nat.le_trans (List.length_filter_le _ _) (by rw [List.length_range]; exact Nat.le_refl _)
          omega
        · rw [upd_same, fs, ha]
          show _ = some (HO.lst (vN (free R sd e j ++ [j])))
          unfold vN
          rw [List.map_append]
          rfl
      | some pr =>
        obtain ⟨b, h1, h2⟩ := hT.so sd e j pr hs ha
        rw [h1]
        refine iteF ?_
        refine ⟨x13, ?_⟩
        rw [fs, ha]
        show _ = some (HO.lst (vN (free R sd e j ++ [])))
        rw [List.append_nil]
        exact hD3
    · rintro H2 ⟨x, hD⟩
      exact q D H2 nD x hD
def spChain (K : PySem.W.Frag) (W : Tbs) : Sp := fun vs H Q _ => ∃ (p : Addr) (tk : List (List Key × V)) (R : List Pr) (s e one other : Nat), vs = [.ref p, .int (s : Nat), .int (e : Nat), .int (one : Nat), .int (other : Nat)] ∧ H p = some (.dT tk) ∧ TabOf K H tk R ∧ s < 2 ∧ R.length ≤ 100 ∧
  Proper R ∧ other ≠ one ∧ at_ R s e one = none ∧
  ∀ a H', H a = none → Ext W H H' → H' a = some (.lst (vN ((chain R s e one other).map (·.n)))) → Q (.ref a) H'
theorem ok_chain_at (T : Txt K mg) : FnOk P w K mg base CX0 2 T.f_chain_at T.d_chain_at ["table", "side", "end", "one", "other"] (spChain K W) := by
  have ok_far_side : FnOk P w K mg base CX0 1 T.f_far_side T.d_far_side ["side"] spFar := ok_far_side T
  refine T.D_chain_at.F.ok sc_chain_at (fun vs H Q E h => ?_) (fun cdv A outer s H vs Q E hr h => ?_)
  · obtain ⟨p, tk, R, sd, e, one, other, rfl, _⟩ := h
    rfl
  · obtain ⟨p, tk, R, sd, e, one, other, rfl, hp, hT, hs, few, hP, ho, hfr, q⟩ := h
    refine ⟨_, (pss_cons (ps_set (i := 5) sc_chain_at.nd rfl (.inl rfl) (pe_lst pa_nil))
    (pss_cons (ps_set (i := 6) sc_chain_at.nd rfl (.inl rfl) (pv 4))
    (pss_cons (ps_while PassesOwn.never (pt_cmp (pc_din (hu_of hr) (pe_tup (pa_cons (pv 1) (pa_cons (pv 2) (pa_cons (pv 6) pa_nil)))) (pv 0))) 
      (pss_cons (ps_asg (pe_dget (hu_of hr) (pv 0) (pe_tup (pa_cons (pv 1) (pa_cons (pv 2) (pa_cons (pv 6) pa_nil)))) (fun _ _ => rfl)) (pg_tup rfl (pgs_cons (pg_name (i := 7) sc_chain_at.nd rfl (.inl rfl)) (pgs_cons (pg_name (i := 8) sc_chain_at.nd rfl (.inl rfl)) pgs_nil))))
      (pss_cons (ps_expr (bmC K (pe_bm PySem.F.plainAttrs_list PySem.F.slot_list_append PySem.F.type_list_append mt_append (pv 5) (pa_cons (pv 7) pa_nil))))
      (pss_cons (ps_par (i := 1) (j := 2) (by rfl) sc_chain_at.nd rfl rfl (by decide) rfl rfl (pa_cons (pe_call ok_far_side (hr.mono (by decide)) rfl T.D_far_side.g T.D_far_side.F.kp T.D_far_side.b .nil pass0 (pa_cons (pv 1) pa_nil)) (pa_cons (pv 8) pa_nil)) (by rfl))
      (pss_one (ps_set (i := 6) sc_chain_at.nd rfl (.inl rfl) (pe_ifExp (pt_cmpR op_eq (pv 6) (pv 4) (nomark _)) (pv 3) (pv 4))))))))
    (pss_one (ps_ret (pv 5)))))), ?_⟩
    refine ⟨by show 0 ≤ sizeLine; decide, fun D nD => ?_⟩
    refine newO W (H := H) (p := D) nD fun H1 x1 hD1 => ?_
    refine ⟨_, rfl, ?_⟩
    -- the chain so far, and where it leads on
    refine while_by (fun σ H2 => ∃ (v7 v8 : Option V) (s' e' h' g' : Nat) (vs : List Pr), σ = [some (.ref p), some (.int (s' : Nat)), some (.int (e' : Nat)), some (.int (one : Nat)), some (.int (other : Nat)), some (.ref D), some (.int (h' : Nat)), v7, v8] ∧
      Ext W H H2 ∧ H2 D = some (.lst (vN (vs.map (·.n)))) ∧ s' < 2 ∧ ((h' = other ∧ g' = one) ∨ (h' = one ∧ g' = other)) ∧ ∀ k, chainF R (vs.length + k) sd e other one = vs ++ chainF R k s' e' h' g')
      (fun σ H2 => match H2 D with | some (.lst xs) => 200 - xs.length | _ => 0)
      ⟨none, none, sd, e, other, one, [], rfl, x1, hD1, hs, .inl ⟨rfl, rfl⟩, fun k => by simp⟩ ?_ ?_
    · rintro σ H2 ⟨v7, v8, s', e', h', g', vs, rfl, x, hD, hs', hg, hc⟩
      have short : vs.length ≤ R.length := by
        have := chainF_le (k := vs.length) hP hs ho (at_none hfr)
        have c0 := hc 0
        rw [Nat.add_zero] at c0
        rw [c0] at this
        simp [chainF] at this
        exact this
      refine ⟨_, rfl, _, rfl, _, rfl, by show 3 ≤ sizeLine; decide, fun k nk => ?_⟩
      refine newO W (H := H2) (p := k) nk fun H3 x3 hk => ?_
      have x13 : Ext W H H3 := x.trans x3
      refine ⟨_, rfl, p, _, rfl, DGet.t (k := key3 s' e' h') (x13.dt hp) hk, _, rfl, ?_⟩
      have hD3 := x3.lst hD
      cases ha : at_ R s' e' h' with
      | none =>
        rw [hT.no s' e' h' hs' ha]
        refine iteF ?_
        refine ⟨_, rfl, ?_⟩
        refine q D H3 nD x13 ?_
        have : chain R sd e one other = vs := by
          unfold chain
          have := hc (R.length + 1 - vs.length)
          rw [show vs.length + (R.length + 1 - vs.length) = R.length + 1 by omega] at this
          rw [this]
          have e0 : R.length + 1 - vs.length = (R.length - vs.length) + 1 := by omega
          rw [e0, chainF, ha]
          simp
        rw [this]
        exact hD3
      | some pr =>
        obtain ⟨b, h1, h2⟩ := hT.so s' e' h' pr hs' ha
        rw [h1]
        refine iteT ?_
        -- number, far = table[side, end, hue]
        refine ⟨_, rfl, _, rfl, _, rfl, _, rfl, by show 3 ≤ sizeLine; decide, fun k2 nk2 => ?_⟩
        refine newO W (H := H3) (p := k2) nk2 fun H4 x4 hk2 => ?_
        have x14 : Ext W H H4 := x13.trans x4
        refine ⟨p, .ref b, rfl, ?_, ?_⟩
        · have := DGet.t (k := key3 s' e' h') (x14.dt hp) hk2
          rw [h1] at this
          exact this
        refine ⟨b, _, rfl, x14.tup h2, rfl, _, _, rfl, _, _, rfl, rfl, ?_⟩
        -- chain.append(number)
        have hD4 := x4.lst hD3
        refine ⟨_, rfl, .inl ⟨rfl, _, SqL.of hD4⟩, _, rfl, D, _, _, rfl, rfl, hD4, ?_, ?_⟩
        · rw [List.length_map, List.length_map]
          exact small1000 (by omega)
        have y5 : Ext W H (upd H4 D (.lst (vN (vs.map (·.n)) ++ [.int (pr.n : Nat)]))) := x14.put (.inl nD) hD4
        have hD5 : (upd H4 D (.lst (vN (vs.map (·.n)) ++ [.int (pr.n : Nat)]))) D = _ := upd_same
        revert y5 hD5
        generalize upd H4 D (.lst (vN (vs.map (·.n)) ++ [.int (pr.n : Nat)])) = H5
        intro y5 hD5
        refine ⟨_, rfl, s', rfl, hs', _, rfl, _, _, rfl, ?_⟩
        -- hue
        have fin : ∃ (v7 v8 : Option V) (s2 e2 h2 g2 : Nat) (vs2 : List Pr), ([some (.ref p), some (.int ((1 - s' : Nat) : Int)), some (.int ((pr.e (1 - s') : Nat) : Int)), some (.int (one : Nat)), some (.int (other : Nat)), some (.ref D), some (.int (g' : Nat)), some (.int (pr.n : Nat)), some (.int (pr.e (1 - s') : Nat))] : List (Option V)) =
            [some (.ref p), some (.int (s2 : Nat)), some (.int (e2 : Nat)), some (.int (one : Nat)), some (.int (other : Nat)), some (.ref D), some (.int (h2 : Nat)), v7, v8] ∧
            Ext W H H5 ∧ H5 D = some (.lst (vN (vs2.map (·.n)))) ∧ s2 < 2 ∧ ((h2 = other ∧ g2 = one) ∨ (h2 = one ∧ g2 = other)) ∧ ∀ k, chainF R (vs2.length + k) sd e other one = vs2 ++ chainF R k s2 e2 h2 g2 := by
          refine ⟨_, _, 1 - s', pr.e (1 - s'), g', h', vs ++ [pr], rfl, y5, ?_, by omega, ?_, fun k => ?_⟩
          · rw [hD5, List.map_append]
            unfold vN
            rw [List.map_append]
            rfl
          · rcases hg with ⟨a, b⟩ | ⟨a, b⟩
            · exact .inr ⟨b, a⟩
            · exact .inl ⟨b, a⟩
          · have := hc (k + 1)
            rw [chainF, ha] at this
            rw [List.length_append, List.length_singleton, show vs.length + 1 + k = vs.length + (k + 1) by omega, this, List.append_assoc]
            rfl
        have less : (match H5 D with | some (.lst xs) => 200 - xs.length | _ => 0) < (match H2 D with | some (.lst xs) => 200 - xs.length | _ => 0) := by
          rw [hD5, hD]
          show 200 - (vN (vs.map Pr.n) ++ [V.int (pr.n : Nat)]).length < 200 - (vN (vs.map Pr.n)).length
          rw [List.length_append, List.length_map, List.length_map, List.length_singleton]
          omega
        refine ⟨_, rfl, _, rfl, rfl, _, rfl, ?_⟩
        rcases hg with ⟨a, b⟩ | ⟨a, b⟩
        · subst a b
          rw [decide_eq_true rfl]
          refine iteT ?_
          exact ⟨_, rfl, fin, less⟩
        · subst a b
          rw [decide_eq_false (fun z => ho (by have := V.int.inj z; omega))]
          refine iteF ?_
          exact ⟨_, rfl, fin, less⟩
    · rintro σ H2 Q1 Q2 hq ⟨v1, e1, v2, e2, v3, e3, sz, hk⟩
      exact ⟨v1, e1, v2, e2, v3, e3, sz, fun p np => let ⟨x, e4, a, o, e5, g, k, e6, q⟩ := hk p np; ⟨x, e4, a, o, e5, g, k, e6, hq _ _ q⟩⟩
end
end My

set_option Elab.async false
set_option linter.all false
set_option maxRecDepth 100000
set_option maxHeartbeats 4000000
namespace My
open PySem PySem.Spec PyProof.Rows L2 Own Mt
/-- a way, told at b; its list was not there at H0, and is not D -/
def WayAt (K : PySem.W.Frag) (H0 : Hp) (D : Addr) (H : Hp) (b : Addr) (w : Way) : Prop := ∃ l : Addr, H0 l = none ∧ l ≠ D ∧ SqT K H b [.int (w.hue : Nat), .int (w.other : Nat), .ref l] ∧ H l = some (.lst (vN w.c))
theorem way_ext {K : PySem.W.Frag} {H0 H H' : Hp} {D b : Addr} {w : Way} {W : Tbs} (x : Ext W H H') (h : WayAt K H0 D H b w) : WayAt K H0 D H' b w := by
  obtain ⟨l, h1, h2, h3, h4⟩ := h
  exact ⟨l, h1, h2, x.tup h3, x.lst h4⟩
theorem way_put {K : PySem.W.Frag} {H0 H : Hp} {D b : Addr} {w : Way} {xs ys : List V} (hD : H D = some (.lst xs)) (h : WayAt K H0 D H b w) : WayAt K H0 D (upd H D (.lst ys)) b w := by
  obtain ⟨l, h1, h2, h3, h4⟩ := h
  exact ⟨l, h1, h2, tup_upd hD (fun _ z => by cases z) (fun _ _ z => by cases z) h3, by rw [upd_ne h2]; exact h4⟩
def way2 (R : List Pr) (l r : Nat) (a b : Nat) : List Way := [⟨a, b, (chain R 1 r b a).map (·.n)⟩, ⟨b, a, (chain R 0 l a b).map (·.n)⟩]
theorem len_way2 (R : List Pr) (l r a : Nat) (Y : List Nat) : (Y.flatMap (way2 R l r a)).length = 2 * Y.length := by
  induction Y with
  | nil => rfl
  | cons y Y ih =>
    rw [List.flatMap_cons, List.length_append, ih, List.length_cons]
    show 2 + _ = _
    omega
theorem len_ways (R : List Pr) (l r : Nat) (X Y : List Nat) : (X.flatMap fun a => Y.flatMap (way2 R l r a)).length = X.length * (2 * Y.length) := by
  induction X with
  | nil => simp
  | cons x X ih =>
    rw [List.flatMap_cons, List.length_append, ih, List.length_cons, len_way2, Nat.succ_mul X.length, Nat.add_comm]
section
variable {P : Program} {w : World} {K : PySem.W.Frag} {mg : Str → Option Value} {base : Heap} {W : Tbs}
def spWays (K : PySem.W.Frag) (W : Tbs) : Sp := fun vs H Q _ => ∃ (p aL aR : Addr) (tk : List (List Key × V)) (R : List Pr) (l r : Nat) (L Y : List Nat), vs = [.ref p, .int (l : Nat), .int (r : Nat), .ref aL, .ref aR] ∧
  H p = some (.dT tk) ∧ TabOf K H tk R ∧ R.length ≤ 100 ∧ Proper R ∧ H aL = some (.lst (vN L)) ∧ H aR = some (.lst (vN Y)) ∧ L.length ≤ 60 ∧ Y.length ≤ 60 ∧
  (∀ a ∈ L, ∀ b ∈ Y, a ≠ b) ∧ (∀ a ∈ L, at_ R 0 l a = none) ∧ (∀ b ∈ Y, at_ R 1 r b = none) ∧
  ∀ D as H', H D = none → Ext W H H' → H' D = some (.lst (as.map V.ref)) → Paired (WayAt K H D H') as (L.flatMap fun a => Y.flatMap (way2 R l r a)) → Q (.ref D) H'
theorem ok_ways (T : Txt K mg) : FnOk P w K mg base CX0 3 T.f_ways T.d_ways ["table", "left", "right", "at_left", "at_right"] (spWays K W) := by
  have ok_chain_at : FnOk P w K mg base CX0 2 T.f_chain_at T.d_chain_at ["table", "side", "end", "one", "other"] (spChain K W) := ok_chain_at T
  refine T.D_ways.F.ok sc_ways (fun vs H Q E h => ?_) (fun cdv A outer s H vs Q E hr h => ?_)
  · obtain ⟨p, aL, aR, tk, R, l, r, L, Y, rfl, _⟩ := h
    rfl
  · obtain ⟨p, aL, aR, tk, R, l, r, L, Y, rfl, hp, hT, few, hP, hL, hY, lL, lY, dif, fL, fY, q⟩ := h
    refine ⟨_, (pss_cons (ps_set (i := 5) sc_ways.nd rfl (.inl rfl) (pe_lst pa_nil))
    (pss_cons (ps_for PassesOwn.never rfl (pi_list (pv 3)) (pg_name (i := 6) sc_ways.nd rfl (.inl rfl)) 
      (pss_one (ps_for PassesOwn.never rfl (pi_list (pv 4)) (pg_name (i := 7) sc_ways.nd rfl (.inl rfl)) 
        (pss_cons (ps_set (i := 8) sc_ways.nd rfl (.inl rfl) (pe_call ok_chain_at (hr.mono (by decide)) rfl T.D_chain_at.g T.D_chain_at.F.kp T.D_chain_at.b .nil pass0 (pa_cons (pv 0) (pa_cons (pe_gi rfl T.c_RIGHT) (pa_cons (pv 2) (pa_cons (pv 7) (pa_cons (pv 6) pa_nil)))))))
        (pss_cons (ps_expr (bmC K (pe_bm PySem.F.plainAttrs_list PySem.F.slot_list_append PySem.F.type_list_append mt_append (pv 5) (pa_cons (pe_tup (pa_cons (pv 6) (pa_cons (pv 7) (pa_cons (pv 8) pa_nil)))) pa_nil))))
        (pss_cons (ps_set (i := 9) sc_ways.nd rfl (.inl rfl) (pe_call ok_chain_at (hr.mono (by decide)) rfl T.D_chain_at.g T.D_chain_at.F.kp T.D_chain_at.b .nil pass0 (pa_cons (pv 0) (pa_cons (pe_gi rfl T.c_LEFT) (pa_cons (pv 1) (pa_cons (pv 6) (pa_cons (pv 7) pa_nil)))))))
        (pss_one (ps_expr (bmC K (pe_bm PySem.F.plainAttrs_list PySem.F.slot_list_append PySem.F.type_list_append mt_append (pv 5) (pa_cons (pe_tup (pa_cons (pv 7) (pa_cons (pv 6) (pa_cons (pv 9) pa_nil)))) pa_nil)))))))))))
    (pss_one (ps_ret (pv 5))))), ?_⟩
    refine ⟨by show 0 ≤ sizeLine; decide, fun D nD => ?_⟩
    refine newO W (H := H) (p := D) nD fun H1 x1 hD1 => ?_
    refine ⟨_, rfl, aL, rfl, ⟨_, SqL.of (x1.lst hL)⟩, for_list (K := K) (a := aL) (xs := vN L) (fun i σ H2 => ∃ (v6 v7 v8 v9 : Option V) (as : List Addr), σ = [some (.ref p), some (.int (l : Nat)), some (.int (r : Nat)), some (.ref aL), some (.ref aR), some (.ref D), v6, v7, v8, v9] ∧
      Ext W H H2 ∧ H2 D = some (.lst (as.map V.ref)) ∧ Paired (WayAt K H D H2) as ((L.take i).flatMap fun a => Y.flatMap (way2 R l r a)))
      ⟨none, none, none, none, [], rfl, x1, hD1, .nil⟩ (fun i σ H2 _ ⟨_, _, _, _, _, _, x, _⟩ => SqL.of (x.lst hL)) ?_ ?_⟩
    · rintro i y σ H2 hi ⟨v6, v7, v8, v9, as, rfl, x, hD, hW⟩
      obtain ⟨a, ha, rfl⟩ := vN_get hi
      have aL_ := List.mem_of_getElem? ha
      have iL := (List.getElem?_eq_some_iff.mp ha).1
      refine ⟨_, rfl, aR, rfl, ⟨_, SqL.of (x.lst hY)⟩, for_list (K := K) (a := aR) (xs := vN Y) (fun j σ H3 => ∃ (v7 v8 v9 : Option V) (as : List Addr), σ = [some (.ref p), some (.int (l : Nat)), some (.int (r : Nat)), some (.ref aL), some (.ref aR), some (.ref D), some (.int (a : Nat)), v7, v8, v9] ∧
        Ext W H H3 ∧ H3 D = some (.lst (as.map V.ref)) ∧ Paired (WayAt K H D H3) as (((L.take i).flatMap fun a => Y.flatMap (way2 R l r a)) ++ (Y.take j).flatMap (way2 R l r a)))
        ⟨_, _, _, as, rfl, x, hD, by rw [List.take_zero, List.flatMap_nil, List.append_nil]; exact hW⟩ (fun j σ H3 _ ⟨_, _, _, _, _, x, _⟩ => SqL.of (x.lst hY)) ?_ ?_⟩
      · rintro j y σ H3 hj ⟨v7, v8, v9, as3, rfl, x3, hD3, hW3⟩
        obtain ⟨b, hb, rfl⟩ := vN_get hj
        have bY := List.mem_of_getElem? hb
        have jY := (List.getElem?_eq_some_iff.mp hb).1
        have ab := dif a aL_ b bY
        have sz : as3.length + 2 < sizeLine := by
          have h1 := Paired.length hW3
          have h2 : (L.take i).length * (2 * Y.length) ≤ 60 * (2 * 60) := Nat.mul_le_mul (by rw [List.length_take]; omega) (by omega)
          rw [List.length_append, len_ways, len_way2] at h1
          have h3 : (Y.take j).length ≤ 60 := by rw [List.length_take]; omega
          have h4 : as3.length + 2 ≤ 10000 := by omega
          exact Nat.lt_of_le_of_lt h4 (by decide)
        -- right_chain
        refine ⟨_, rfl, _, rfl, _, rfl, _, rfl, p, tk, R, 1, r, b, a, rfl, x3.dt hp, x3.tabOf hT, by decide, few, hP, ab, fY b bY, fun c1 H4 nc1 x4 hc1 => ?_⟩
        refine ⟨_, rfl, .inl ⟨rfl, _, SqL.of (x4.lst hD3)⟩, _, rfl, _, rfl, _, rfl, by show 3 ≤ sizeLine; decide, fun t1 nt1 => ?_⟩
        refine newO W (H := H4) (p := t1) nt1 fun H5 x5 ht1 => ?_
        have hD5 := x5.lst (x4.lst hD3)
        refine ⟨D, _, _, rfl, rfl, hD5, by rw [List.length_map]; omega, ?_⟩
        have y6 : Ext W H (upd H5 D (.lst (as3.map V.ref ++ [.ref t1]))) := (x3.trans (x4.trans x5)).put (.inl nD) hD5
        have hD6 : (upd H5 D (.lst (as3.map V.ref ++ [.ref t1]))) D = some (.lst ((as3 ++ [t1]).map V.ref)) := by rw [upd_same, List.map_append]; rfl
        have hW6 : Paired (WayAt K H D (upd H5 D (.lst (as3.map V.ref ++ [.ref t1])))) (as3 ++ [t1]) ((((L.take i).flatMap fun a => Y.flatMap (way2 R l r a)) ++ (Y.take j).flatMap (way2 R l r a)) ++ [⟨a, b, (chain R 1 r b a).map (·.n)⟩]) := by
          refine papp (Paired.mapP hW3 fun _ _ h => way_put hD5 (way_ext x5 (way_ext x4 h))) (.cons (way_put hD5 ⟨c1, (x3.f _ nc1), ?_, .inl (.inl ht1), x5.lst hc1⟩) .nil)
          exact fun z => by rw [z] at nc1; rw [hD3] at nc1; cases nc1
        revert y6 hD6 hW6
        generalize upd H5 D (.lst (as3.map V.ref ++ [.ref t1])) = H6
        intro y6 hD6 hW6
        -- left_chain
        refine ⟨_, rfl, _, rfl, _, rfl, _, rfl, p, tk, R, 0, l, a, b, rfl, y6.dt hp, y6.tabOf hT, by decide, few, hP, Ne.symm ab, fL a aL_, fun c2 H7 nc2 x7 hc2 => ?_⟩
        refine ⟨_, rfl, .inl ⟨rfl, _, SqL.of (x7.lst hD6)⟩, _, rfl, _, rfl, _, rfl, by show 3 ≤ sizeLine; decide, fun t2 nt2 => ?_⟩
        refine newO W (H := H7) (p := t2) nt2 fun H8 x8 ht2 => ?_
        have hD8 := x8.lst (x7.lst hD6)
        refine ⟨D, _, _, rfl, rfl, hD8, by rw [List.length_map, List.length_append, List.length_singleton]; omega, ?_⟩
        refine ⟨_, _, _, as3 ++ [t1] ++ [t2], rfl, (y6.trans (x7.trans x8)).put (.inl nD) hD8, by rw [upd_same]; simp, ?_⟩
        rw [take_one hb, List.flatMap_append]
        have e : List.flatMap (way2 R l r a) [b] = [⟨a, b, (chain R 1 r b a).map (·.n)⟩] ++ [⟨b, a, (chain R 0 l a b).map (·.n)⟩] := by
          rw [List.flatMap_cons, List.flatMap_nil, List.append_nil]
          rfl
        rw [e, ← List.append_assoc, ← List.append_assoc]
        refine papp (Paired.mapP hW6 fun _ _ h => way_put hD8 (way_ext x8 (way_ext x7 h))) (.cons (way_put hD8 ⟨c2, (y6.f _ nc2), ?_, .inl (.inl ht2), x8.lst hc2⟩) .nil)
        exact fun z => by rw [z] at nc2; rw [hD6] at nc2; cases nc2
      · rintro σ H3 ⟨v7, v8, v9, as3, rfl, x3, hD3, hW3⟩
        refine ⟨_, _, _, _, as3, rfl, x3, hD3, ?_⟩
        rw [take_one ha, List.flatMap_append, List.flatMap_cons, List.flatMap_nil, List.append_nil]
        rw [show List.take (vN Y).length Y = Y from List.take_of_length_le (by rw [List.length_map]; exact Nat.le_refl _)] at hW3
        exact hW3
    · rintro σ H2 ⟨v6, v7, v8, v9, as, rfl, x, hD, hW⟩
      rw [show List.take (vN L).length L = L from List.take_of_length_le (by rw [List.length_map]; exact Nat.le_refl _)] at hW
      exact ⟨_, rfl, q D as H2 nD x hD hW⟩
def spTurn (K : PySem.W.Frag) (W : Tbs) : Sp := fun vs H Q _ => ∃ (d c : Addr) (kvs : List (Key × V)) (R : List Pr) (ns : List Nat) (one other : Nat), vs = [.ref d, .ref c, .int (one : Nat), .int (other : Nat)] ∧
  H d = some (.dK kvs) ∧ DEach K H kvs R ∧ (R.map (·.n)).Nodup ∧ R.length ≤ 100 ∧ H c = some (.lst (vN ns)) ∧ ns.Nodup ∧ (∀ x ∈ ns, x ∈ R.map (·.n)) ∧
  ∀ kvs' H', Fx W [d] H H' → H' d = some (.dK kvs') → DEach K H' kvs' (turn R ns one other) → Q .non H'
theorem turn_snoc {R : List Pr} {ns : List Nat} {x a b : Nat} (hx : x ∉ ns) : turn R (ns ++ [x]) a b = (turn R ns a b).map fun p => if p.n = x then p.flip a b else p := by
  unfold turn
  rw [List.map_map]
  refine List.map_congr_left fun p _ => ?_
  show (if p.n ∈ ns ++ [x] then p.flip a b else p) = (fun p => if p.n = x then p.flip a b else p) (if p.n ∈ ns then p.flip a b else p)
  by_cases h : p.n ∈ ns
  · rw [if_pos (List.mem_append_left _ h), if_pos h]
    have : ¬ (p.flip a b).n = x := fun z => hx (by rw [← z]; exact h)
    show _ = (if (p.flip a b).n = x then (p.flip a b).flip a b else p.flip a b)
    rw [if_neg this]
  · rw [if_neg h]
    by_cases e : p.n = x
    · rw [if_pos (List.mem_append_right _ (by rw [e]; simp))]
      show _ = (if p.n = x then p.flip a b else p)
      rw [if_pos e]
    · rw [if_neg (fun z => (List.mem_append.mp z).elim h (fun y => e (List.mem_singleton.mp y)))]
      show _ = (if p.n = x then p.flip a b else p)
      rw [if_neg e]
theorem ok_turn (T : Txt K mg) : FnOk P w K mg base CX0 1 T.f_turn T.d_turn ["rows", "chain", "one", "other"] (spTurn K W) := by
  refine T.D_turn.F.ok sc_turn (fun vs H Q E h => ?_) (fun cdv A outer s H vs Q E hr h => ?_)
  · obtain ⟨d, c, kvs, R, ns, one, other, rfl, _⟩ := h
    rfl
  · obtain ⟨d, c, kvs, R, ns, one, other, rfl, hd, hE, hN, few, hc, hns, hin, q⟩ := h
    refine ⟨_, (pss_one (ps_for PassesOwn.never rfl (pi_list (pv 1)) (pg_name (i := 4) sc_turn.nd rfl (.inl rfl)) 
      (pss_cons (ps_asg (pe_dget (hu_of hr) (pv 0) (pv 4) (fun _ _ => rfl)) (pg_tup rfl (pgs_cons (pg_name (i := 5) sc_turn.nd rfl (.inl rfl)) (pgs_cons (pg_name (i := 6) sc_turn.nd rfl (.inl rfl)) (pgs_cons (pg_name (i := 7) sc_turn.nd rfl (.inl rfl)) pgs_nil)))))
      (pss_one (ps_dput (hu_of hr) (pv 0) (pv 4) (pe_tup (pa_cons (pv 5) (pa_cons (pv 6) (pa_cons (pe_ifExp (pt_cmpR op_eq (pv 7) (pv 2) (nomark _)) (pv 3) (pv 2)) pa_nil)))) rfl))))), ?_⟩
    have ncd : c ∉ [d] := by
      simp only [List.mem_singleton]
      exact ne_of hc hd (by intro z; cases z)
    refine ⟨_, rfl, c, rfl, ⟨_, SqL.of hc⟩, for_list (K := K) (a := c) (xs := vN ns) (fun i σ H2 => ∃ (v4 v5 v6 v7 : Option V) (kvs2 : List (Key × V)), σ = [some (.ref d), some (.ref c), some (.int (one : Nat)), some (.int (other : Nat)), v4, v5, v6, v7] ∧
      Fx W [d] H H2 ∧ H2 d = some (.dK kvs2) ∧ DEach K H2 kvs2 (turn R (ns.take i) one other))
      ⟨none, none, none, none, kvs, rfl, .refl, hd, by rw [List.take_zero]; unfold turn; simpa using hE⟩ (fun i σ H2 _ ⟨_, _, _, _, _, _, x, _⟩ => SqL.of (x.lst hc ncd)) ?_ ?_⟩
    · rintro i y σ H2 hi ⟨v4, v5, v6, v7, kvs2, rfl, x, hd2, hE2⟩
      obtain ⟨n, hn, rfl⟩ := vN_get hi
      have nin := hin n (List.mem_of_getElem? hn)
      have nn : n ∉ ns.take i := by
        intro z
        obtain ⟨j, hj, e⟩ := List.getElem_of_mem z
        rw [List.length_take] at hj
        rw [List.getElem_take] at e
        have := nd_ix hns (i := j) (j := i) (x := n) (by rw [List.getElem?_eq_getElem (by omega), e]) hn
        omega
      have N2 : ((turn R (ns.take i) one other).map (·.n)).Nodup := by rw [turn_n]; exact hN
      obtain ⟨p, hp, ep⟩ := List.mem_map.mp (show n ∈ (turn R (ns.take i) one other).map (·.n) by rw [turn_n]; exact nin)
      have ep : p.n = n := ep
      obtain ⟨a, ha, ta⟩ := hE2.in N2 hp
      rw [ep] at ha
      -- left, right, had = rows[number]
      refine ⟨_, rfl, _, rfl, d, .ref a, rfl, ?_, ?_⟩
      · have := DGet.k (k := Sum.inl (n : Int)) hd2
        rw [ha] at this
        exact this
      refine ⟨a, _, rfl, ta, rfl, _, _, rfl, _, _, rfl, _, _, rfl, rfl, ?_⟩
      -- rows[number] = (left, right, other if had == one else one)
      have put : ∀ (h' : Nat), h' = (if p.h = one then other else one) → ∀ t, H2 t = none → ∃ (v4 v5 v6 v7 : Option V) (kvs3 : List (Key × V)),
          ([some (.ref d), some (.ref c), some (.int (one : Nat)), some (.int (other : Nat)), some (.int (n : Nat)), some (.int (p.l : Nat)), some (.int (p.r : Nat)), some (.int (p.h : Nat))] : List (Option V)) =
            [some (.ref d), some (.ref c), some (.int (one : Nat)), some (.int (other : Nat)), v4, v5, v6, v7] ∧
          Fx W [d] H (upd (upd H2 t (.tup [.int (p.l : Nat), .int (p.r : Nat), .int (h' : Nat)])) d (.dK (putK kvs2 (Sum.inl (n : Int)) (.ref t)))) ∧
          (upd (upd H2 t (.tup [.int (p.l : Nat), .int (p.r : Nat), .int (h' : Nat)])) d (.dK (putK kvs2 (Sum.inl (n : Int)) (.ref t)))) d = some (.dK kvs3) ∧
          DEach K (upd (upd H2 t (.tup [.int (p.l : Nat), .int (p.r : Nat), .int (h' : Nat)])) d (.dK (putK kvs2 (Sum.inl (n : Int)) (.ref t)))) kvs3 (turn R (ns.take (i + 1)) one other) := by
        intro h' eh t nt
        have x3 : Ext W H2 (upd H2 t (.tup [.int (p.l : Nat), .int (p.r : Nat), .int (h' : Nat)])) := .new nt
        have ht : (upd H2 t (.tup [.int (p.l : Nat), .int (p.r : Nat), .int (h' : Nat)])) t = some (.tup [.int (p.l : Nat), .int (p.r : Nat), .int (h' : Nat)]) := upd_same
        have hd3 := x3.dk hd2
        have z : Fx W [d] (upd H2 t (.tup [.int (p.l : Nat), .int (p.r : Nat), .int (h' : Nat)])) (upd (upd H2 t (.tup [.int (p.l : Nat), .int (p.r : Nat), .int (h' : Nat)])) d (.dK (putK kvs2 (Sum.inl (n : Int)) (.ref t)))) := Fx.refl.put (.inr (by simp)) hd3
        refine ⟨_, _, _, _, _, rfl, (x.trans x3.up).trans z, upd_same, ?_⟩
        rw [take_one hn, turn_snoc nn]
        have := DEach.set (z.deach (x3.deach hE2)) (q := ⟨n, p.l, p.r, h'⟩) (by rw [turn_n]; exact nin) (z.tup (.inl (.inl ht)))
        have e : (turn R (ns.take i) one other).map (fun p => if p.n = n then p.flip one other else p) = (turn R (ns.take i) one other).map (fun p' => if p'.n = (⟨n, p.l, p.r, h'⟩ : Pr).n then (⟨n, p.l, p.r, h'⟩ : Pr) else p') := by
          refine List.map_congr_left fun p' hp' => ?_
          show (if p'.n = n then p'.flip one other else p') = (if p'.n = n then (⟨n, p.l, p.r, h'⟩ : Pr) else p')
          by_cases c : p'.n = n
          · rw [if_pos c, if_pos c]
            have := n_inj N2 hp' hp (c.trans ep.symm)
            rw [this, eh]
            show (⟨p.n, p.l, p.r, _⟩ : Pr) = _
            rw [ep]
          · rw [if_neg c, if_neg c]
        rw [e]
        exact this
      have sz : kvs2.length < sizeLine := by
        have := hE2.len
        unfold turn at this
        rw [List.length_map] at this
        exact small1000 (by omega)
      refine ⟨_, rfl, _, rfl, _, rfl, _, rfl, rfl, _, rfl, ?_⟩
      by_cases ch : p.h = one
      · rw [decide_eq_true (show V.int (p.h : Nat) = V.int (one : Nat) by rw [ch])]
        refine iteT ?_
        refine ⟨_, rfl, by show 3 ≤ sizeLine; decide, fun t nt => ?_⟩
        have hd3 := (Fx.new (W := W) (S := []) (o := .tup [.int (p.l : Nat), .int (p.r : Nat), .int (other : Nat)]) nt).dk hd2
        exact ⟨_, rfl, _, rfl, d, _, rfl, DPut.k (k := Sum.inl (n : Int)) hd3 sz, put other (by rw [if_pos ch]) t nt⟩
      · rw [decide_eq_false (show ¬ V.int (p.h : Nat) = V.int (one : Nat) from fun z => ch (by have := V.int.inj z; omega))]
        refine iteF ?_
        refine ⟨_, rfl, by show 3 ≤ sizeLine; decide, fun t nt => ?_⟩
        have hd3 := (Fx.new (W := W) (S := []) (o := .tup [.int (p.l : Nat), .int (p.r : Nat), .int (one : Nat)]) nt).dk hd2
        exact ⟨_, rfl, _, rfl, d, _, rfl, DPut.k (k := Sum.inl (n : Int)) hd3 sz, put one (by rw [if_neg ch]) t nt⟩
    · rintro σ H2 ⟨v4, v5, v6, v7, kvs2, rfl, x, hd2, hE2⟩
      rw [show List.take (vN ns).length ns = ns from List.take_of_length_le (by rw [List.length_map]; exact Nat.le_refl _)] at hE2
      exact q kvs2 H2 x hd2 hE2
end
end My

set_option Elab.async false
set_option linter.all false
set_option maxRecDepth 100000
set_option maxHeartbeats 4000000
namespace My
open PySem PySem.Spec PyProof.Rows L2 Own Mt
/-- the name of the lambda's code in place -/
abbrev qLam : Str := ("place" : Str) ++ (".<locals>." : Str) ++ ("<lambda>" : Str)
def otherV : Option Nat → V
  | none => .non
  | some o => .int (o : Nat)
/-- what is told of a pair: the tuple at a, its list at c -/
def ToldAt (K : PySem.W.Frag) (H : Hp) (a c : Addr) (t : Told) : Prop := H a = some (.tup [.int (t.n : Nat), .int (t.hue : Nat), otherV t.other, .ref c]) ∧ H c = some (.lst (vN t.c))
theorem argBest_bestI (f : Nat → Nat) : ∀ k, argBest (fun i j => decide (((f i : Nat) : Int) < ((f j : Nat) : Int))) k = bestI f k
  | 0 => rfl
  | k + 1 => by
    unfold argBest bestI
    rw [argBest_bestI f k]
    by_cases h : f (k + 1) < f (bestI f k)
    · rw [if_pos h, if_pos (by simpa using h)]
    · rw [if_neg h, if_neg (by simpa using h)]
theorem free_len (R : List Pr) (s e m : Nat) : (free R s e m).length ≤ m := by
  unfold free
  exact Nat.le_trans (List.length_filter_le _ _) (by rw [List.length_range]; exact Nat.le_refl _)
section
variable {P : Program} {w : World} {K : PySem.W.Frag} {mg : Str → Option Value} {base : Heap} {W : Tbs}
/-- the tables that the laws speak of: the one of place -/
structure Wok (W : Tbs) (p : Addr) : Prop where
  mem : (p, qLam) ∈ W.l
  one : ∀ q ∈ W.l, q.1 = p → q.2 = qLam
def spPlace (K : PySem.W.Frag) (W : Tbs) : Sp := fun vs H Q _ => ∃ (d : Addr) (kvs : List (Key × V)) (R : List Pr) (n l r m : Nat), vs = [.ref d, .int (n : Nat), .int (l : Nat), .int (r : Nat), .int (m : Nat)] ∧
  H d = some (.dK kvs) ∧ DEach K H kvs R ∧ R.length ≤ 60 ∧ Proper R ∧ (R.map (·.n)).Nodup ∧ n ∉ R.map (·.n) ∧ m ≤ 60 ∧ free R 0 l m ≠ [] ∧ free R 1 r m ≠ [] ∧ (∀ p ∈ W.l, LamX.TabS H p.1 p.2) ∧
  ∀ a c kvs' H', H a = none → H c = none → Fx W [d] H H' → H' d = some (.dK kvs') → DEach K H' kvs' (place R n l r m).2 → ToldAt K H' a c (place R n l r m).1 → Q (.ref a) H'
theorem ok_place (T : Txt K mg) (B : LamX.TabB base mg T.k_place T.p_place) (WO : Wok W T.p_place) : FnOk P w K mg base CX0 4 T.f_place T.d_place ["rows", "number", "left", "right", "many"] (spPlace K W) := by
  have ok_table_of : FnOk P w K mg base CX0 1 T.f_table_of T.d_table_of ["rows"] (spTable K W) := ok_table_of T
  have ok_free_at : FnOk P w K mg base CX0 1 T.f_free_at T.d_free_at ["table", "side", "end", "many"] (spFree K W) := ok_free_at T
  have ok_ways : FnOk P w K mg base CX0 3 T.f_ways T.d_ways ["table", "left", "right", "at_left", "at_right"] (spWays K W) := ok_ways T
  have ok_turn : FnOk P w K mg base CX0 1 T.f_turn T.d_turn ["rows", "chain", "one", "other"] (spTurn K W) := ok_turn T
  refine T.FC_place.ok sc_place (fun vs H Q E h => ?_) (fun A outer s H vs Q E hr h => ?_)
  · obtain ⟨d, kvs, R, n, l, r, m, rfl, _⟩ := h
    rfl
  · obtain ⟨d, kvs, R, n, l, r, m, rfl, hd, hE, few, hP, hN, nin, hm, f0, f1, tabs, q⟩ := h
    refine ⟨_, (pss_cons (ps_set (i := 5) sc_place.nd rfl (.inl rfl) (pe_call ok_table_of (hr.mono (by decide)) rfl T.D_table_of.g T.D_table_of.F.kp T.D_table_of.b .nil pass0 (pa_cons (pv 0) pa_nil)))
    (pss_cons (ps_set (i := 6) sc_place.nd rfl (.inl rfl) (pe_call ok_free_at (hr.mono (by decide)) rfl T.D_free_at.g T.D_free_at.F.kp T.D_free_at.b .nil pass0 (pa_cons (pv 5) (pa_cons (pe_gi rfl T.c_LEFT) (pa_cons (pv 2) (pa_cons (pv 4) pa_nil))))))
    (pss_cons (ps_set (i := 7) sc_place.nd rfl (.inr rfl) (pe_call ok_free_at (hr.mono (by decide)) rfl T.D_free_at.g T.D_free_at.F.kp T.D_free_at.b .nil pass0 (pa_cons (pv 5) (pa_cons (pe_gi rfl T.c_RIGHT) (pa_cons (pv 3) (pa_cons (pv 4) pa_nil))))))
    (pss_cons (ps_setLc (i := 8) rfl sc_place.nd rfl rfl (sw_true rfl rfl rfl (by decide +kernel)) (own := [("hue", 9)]) (pi_list (pv 6)) (blkOk_by (N := N_place) (sc := defScope s_place) (by decide +kernel)) (fun _ _ _ _ _ => (pg_name (i := 9) sc_place.nd rfl (.inl rfl))) (fun _ _ _ _ _ => (pts_one (pt_cmpR (inS K) (pv 9) (pv 7) (by rfl)))) (fun _ _ _ _ _ => (pv 9)))
    (pss_cons (ps_if (pt_truth (pv 8) (by intro _; rfl)) 
      (pss_one (ps_par3 (i := 9) (j := 10) (l := 11) (by rfl) sc_place.nd rfl rfl rfl (by decide) (by decide) (by decide) rfl rfl rfl (pa_cons (pe_ix (ixL K) (pv 8) pe_int (fun _ _ => rfl)) (pa_cons pe_non (pa_cons (pe_lst pa_nil) pa_nil))) (by rfl))) 
      (pss_cons (ps_set (i := 12) sc_place.nd rfl (.inl rfl) (pe_call ok_ways (hr.mono (by decide)) rfl T.D_ways.g T.D_ways.F.kp T.D_ways.b .nil pass0 (pa_cons (pv 5) (pa_cons (pv 2) (pa_cons (pv 3) (pa_cons (pv 6) (pa_cons (pv 7) pa_nil)))))))
      (pss_cons (ps_asg (pe_minLam (k := 0) (P := T.p_place) (x := "way") (hr.mono (by decide)) rfl (by rfl) T.z_min B rfl rfl (by decide +kernel) ⟨rfl, rfl, rfl, by decide +kernel, rfl⟩ (fun _ _ _ _ => rfl) (pv 12)) (pg_tup rfl (pgs_cons (pg_name (i := 9) sc_place.nd rfl (.inl rfl)) (pgs_cons (pg_name (i := 10) sc_place.nd rfl (.inl rfl)) (pgs_cons (pg_name (i := 11) sc_place.nd rfl (.inl rfl)) pgs_nil)))))
      (pss_one (ps_expr (pe_call ok_turn (hr.mono (by decide)) rfl T.D_turn.g T.D_turn.F.kp T.D_turn.b .nil pass0 (pa_cons (pv 0) (pa_cons (pv 11) (pa_cons (pv 9) (pa_cons (pv 10) pa_nil))))))))))
    (pss_cons (ps_dput (hu_of hr) (pv 0) (pv 1) (pe_tup (pa_cons (pv 2) (pa_cons (pv 3) (pa_cons (pv 9) pa_nil)))) rfl)
    (pss_one (ps_ret (pe_tup (pa_cons (pv 1) (pa_cons (pv 9) (pa_cons (pv 10) (pa_cons (pv 11) pa_nil))))))))))))), ?_⟩
    -- table, at_left, at_right
    refine ⟨_, rfl, d, kvs, R, rfl, hd, hE, by omega, fun p tk H1 np x1 hp hT => ?_⟩
    refine ⟨_, rfl, _, rfl, _, rfl, p, tk, R, 0, l, m, rfl, hp, hT, by decide, by omega, fun aL H2 nL x2 hL => ?_⟩
    refine ⟨_, rfl, _, rfl, _, rfl, p, tk, R, 1, r, m, rfl, x2.dt hp, x2.tabOf hT, by decide, by omega, fun aR H3 nR x3 hY => ?_⟩
    have hL3 := x3.lst hL
    have l0 := free_len R 0 l m
    have l1 := free_len R 1 r m
    generalize eL : free R 0 l m = L at *
    generalize eY : free R 1 r m = Y at *
    -- at_both
    refine ⟨_, rfl, aL, rfl, ⟨_, SqL.of hL3⟩, fun D nD => lc_list (K := K) (a := aL) (xs := vN L)
      (fun j H4 => Ext W H3 H4 ∧ H4 D = some (.lst (vN ((L.take j).filter fun h => decide (h ∈ Y))))) ⟨.new nD, upd_same⟩ (fun j H4 _ ⟨x, _⟩ => SqL.of (x.lst hL3)) ?_ ?_⟩
    · rintro j y H4 hj ⟨x4, hD⟩
      obtain ⟨h, hh, rfl⟩ := vN_get hj
      have jl := (List.getElem?_eq_some_iff.mp hh).1
      refine ⟨rfl, ?_⟩
      refine ⟨_, rfl, _, rfl, aR, _, rfl, .inl (SqL.of (x4.lst hY)), rfl, flat_vN _, _, rfl, ?_⟩
      rw [if_neg Bool.false_ne_true, in_vN, take_one hh, List.filter_append]
      by_cases c : h ∈ Y
      · rw [decide_eq_true c]
        refine iteT ?_
        refine ⟨_, rfl, _, hD, ?_, x4.put (.inl nD) hD, ?_⟩
        · rw [List.length_map]
          refine small1000 ?_
          have := List.length_filter_le (fun h => decide (h ∈ Y)) (L.take j)
          rw [List.length_take] at this
          omega
        · rw [upd_same, List.filter_cons, if_pos (decide_eq_true c), List.filter_nil]
          unfold vN
          rw [List.map_append]
          rfl
      · rw [decide_eq_false c]
        refine iteF ⟨x4, ?_⟩
        rw [List.filter_cons, if_neg (by simpa using c), List.filter_nil, List.append_nil]
        exact hD
    · rintro H4 ⟨x4, hD⟩
      rw [show List.take (vN L).length L = L from List.take_of_length_le (by rw [List.length_map]; exact Nat.le_refl _)] at hD
      have eb : both R l r m = L.filter fun h => decide (h ∈ Y) := by
        unfold both
        rw [eL, eY]
      rw [← eb] at hD
      have x04 : Ext W H H4 := x1.trans (x2.trans (x3.trans x4))
      have hd4 := x04.dk hd
      have hE4 := x04.deach hE
      have szd : kvs.length < sizeLine := small1000 (by rw [hE.len]; omega)
      cases hb : both R l r m with
      | cons h t =>
        rw [hb] at hD
        refine ⟨_, rfl, true, .inl ⟨_, SqL.of hD, rfl⟩, iteT ?_⟩
        refine ⟨_, rfl, D, _, 0, _, rfl, rfl, SqL.of hD, atI_nat (j := 0) (v := .int (h : Nat)) rfl, by show 0 ≤ sizeLine; decide, fun c nc => ?_⟩
        refine newO W (H := H4) (p := c) nc fun H5 x5 hc => ?_
        refine ⟨_, _, _, rfl, ?_⟩
        refine ⟨_, rfl, _, rfl, _, rfl, by show 3 ≤ sizeLine; decide, fun tt ntt => ?_⟩
        refine newO W (H := H5) (p := tt) ntt fun H6 x6 htt => ?_
        have hd6 := x6.dk (x5.dk hd4)
        refine ⟨_, rfl, _, rfl, d, _, rfl, DPut.k (k := Sum.inl (n : Int)) hd6 szd, ?_⟩
        have x06 : Ext W H H6 := x04.trans (x5.trans x6)
        have y7 : Fx W [d] H (upd H6 d (.dK (putK kvs (Sum.inl (n : Int)) (.ref tt)))) := x06.up.put (.inr (by simp)) hd6
        have z7 : Fx W [d] H6 (upd H6 d (.dK (putK kvs (Sum.inl (n : Int)) (.ref tt)))) := Fx.refl.put (.inr (by simp)) hd6
        have hd7 : (upd H6 d (.dK (putK kvs (Sum.inl (n : Int)) (.ref tt)))) d = _ := upd_same
        revert y7 z7 hd7
        generalize upd H6 d (.dK (putK kvs (Sum.inl (n : Int)) (.ref tt))) = H7
        intro y7 z7 hd7
        have ncd : c ≠ d := (ne_of_none hd4 nc).symm
        refine ⟨_, rfl, _, rfl, _, rfl, _, rfl, by show 4 ≤ sizeLine; decide, fun a na => ?_⟩
        refine newO W (H := H7) (p := a) na fun H8 x8 ha => ?_
        have ep := place_both (n := n) hb
        refine q a c _ H8 (y7.f _ na) (x04.f _ nc) (y7.trans x8.up) (x8.dk hd7) ?_ ?_
        · rw [ep]
          have hE7 := z7.deach (x6.deach (x5.deach hE4))
          exact x8.deach (DEach.snoc hE7 (p := ⟨n, l, r, h⟩) nin (z7.tup (.inl (.inl htt))))
        · rw [ep]
          exact ⟨ha, x8.lst (z7.lst (x6.lst hc) (by simpa using ncd))⟩
      | nil =>
        rw [hb] at hD
        refine ⟨_, rfl, false, .inl ⟨_, SqL.of hD, rfl⟩, iteF ?_⟩
        -- ways
        have dif : ∀ a ∈ L, ∀ b ∈ Y, a ≠ b := fun a ha b hb' => both_nil hb (by rw [eL]; exact ha) (by rw [eY]; exact hb')
        refine ⟨_, rfl, _, rfl, _, rfl, _, rfl, _, rfl, p, aL, aR, tk, R, l, r, L, Y, rfl, x4.dt (x3.dt (x2.dt hp)), x4.tabOf (x3.tabOf (x2.tabOf hT)), by omega, hP, x4.lst hL3, x4.lst hY, by omega, by omega, dif,
          fun a ha => (mem_free.mp (by rw [eL]; exact ha)).2, fun b hb' => (mem_free.mp (by rw [eY]; exact hb')).2, fun DW as H5 nDW x5 hDW hWs => ?_⟩
        have ews : (L.flatMap fun a => Y.flatMap (way2 R l r a)) = ways R l r m := by
          unfold ways
          rw [eL, eY]
          rfl
        rw [ews] at hWs
        have x05 : Ext W H H5 := x04.trans x5
        have wm := way_is (R := R) (l := l) (r := r) (m := m) (by rw [eL]; exact f0) (by rw [eY]; exact f1)
        have wpos : 0 < (ways R l r m).length := List.length_pos_of_mem wm
        have lws : (as.map V.ref).length = (ways R l r m).length := by rw [List.length_map]; exact Paired.length hWs
        -- min
        refine ⟨_, rfl, ?_⟩
        refine ⟨x05.l _ WO.mem (tabs _ WO.mem), fun H6 f c' ln6 tab6 code6 nf => ?_⟩
        have x6 : Ext W H5 H6 := Fx.lam ln6 tab6 WO.one
        refine newO W (H := H6) (p := f) nf fun H7 x7 hf => ?_
        have x57 : Ext W H5 H7 := x6.trans x7
        have hWs7 : Paired (WayAt K H4 DW H7) as (ways R l r m) := Paired.mapP hWs fun _ _ h => way_ext x57 h
        refine ⟨DW, f, c', as.map V.ref, fun i => ((ways R l r m).getD i ⟨0, 0, []⟩).c.length, rfl, rfl, hf, x7.o _ _ (by simp) code6 (fun ps => LamX.codeO_ne ps), SqL.of (x57.lst hDW), by rw [lws]; exact wpos, ?_, ?_⟩
        · intro pins σ s1 I i y v hy rv
          rw [List.getElem?_map] at hy
          obtain ⟨b, hb1, rfl⟩ := Option.map_eq_some_iff.mp hy
          obtain ⟨w', hw1, l', _, _, hw2, hw3⟩ := pon hWs7 hb1
          have tP : ∃ ps, H7 T.p_place = some (.tbl ps) := by
            obtain ⟨ps, z, _⟩ := x7.l _ WO.mem tab6
            exact ⟨ps, z⟩
          have el : (((ways R l r m).getD i ⟨0, 0, []⟩).c.length : Int) = ((vN w'.c).length : Int) := by
            rw [List.getD_eq_getElem?_getD, hw1, List.length_map]
            rfl
          show QE _ s1 T.p_place _ "way" v _ (.int (((ways R l r m).getD i ⟨0, 0, []⟩).c.length : Int))
          rw [el]
          exact qe_len I tP rfl rfl T.z_len (qe_ixT I tP (qe_var rfl rfl rv) qe_int hw2 (atI_nat (j := 2) rfl) (fun _ _ => rfl)) (SqL.of hw3) (fun ce => rfl)
        · intro y hy
          rw [lws, argBest_bestI] at hy
          rw [List.getElem?_map] at hy
          obtain ⟨b, hb1, rfl⟩ := Option.map_eq_some_iff.mp hy
          obtain ⟨w', hw1, c, nc, ncD, hw2, hw3⟩ := pon hWs7 hb1
          have ew : w' = best (ways R l r m) := by
            unfold best
            rw [List.getD_eq_getElem?_getD, hw1]
            rfl
          refine ⟨b, _, rfl, hw2, rfl, _, _, rfl, _, _, rfl, _, _, rfl, rfl, ?_⟩
          have x07 : Ext W H H7 := x05.trans x57
          have hd7 := x07.dk hd
          have hE7 := x07.deach hE
          have wm' : w' ∈ ways R l r m := by rw [ew]; exact wm
          obtain ⟨wn, wi⟩ := way_nodup hP hN hb wm'
          have ncd : c ≠ d := (ne_of_none hd4 nc).symm
          -- _turn
          refine ⟨_, rfl, _, rfl, _, rfl, _, rfl, d, c, kvs, R, w'.c, w'.hue, w'.other, rfl, hd7, hE7, hN, by omega, hw3, wn, wi, fun kvs8 H8 x8 hd8 hE8 => ?_⟩
          refine ⟨_, rfl, _, rfl, _, rfl, by show 3 ≤ sizeLine; decide, fun tt ntt => ?_⟩
          refine newO W (H := H8) (p := tt) ntt fun H9 x9 htt => ?_
          have hd9 := x9.dk hd8
          have szd8 : kvs8.length < sizeLine := by
            have := hE8.len
            unfold turn at this
            rw [List.length_map] at this
            exact small1000 (by omega)
          refine ⟨_, rfl, _, rfl, d, _, rfl, DPut.k (k := Sum.inl (n : Int)) hd9 szd8, ?_⟩
          have x09 : Fx W [d] H H9 := x07.up.trans (x8.trans x9.up)
          have y10 : Fx W [d] H (upd H9 d (.dK (putK kvs8 (Sum.inl (n : Int)) (.ref tt)))) := x09.put (.inr (by simp)) hd9
          have z10 : Fx W [d] H9 (upd H9 d (.dK (putK kvs8 (Sum.inl (n : Int)) (.ref tt)))) := Fx.refl.put (.inr (by simp)) hd9
          have hd10 : (upd H9 d (.dK (putK kvs8 (Sum.inl (n : Int)) (.ref tt)))) d = _ := upd_same
          revert y10 z10 hd10
          generalize upd H9 d (.dK (putK kvs8 (Sum.inl (n : Int)) (.ref tt))) = H10
          intro y10 z10 hd10
          refine ⟨_, rfl, _, rfl, _, rfl, _, rfl, by show 4 ≤ sizeLine; decide, fun a na => ?_⟩
          refine newO W (H := H10) (p := a) na fun H11 x11 ha => ?_
          have ep := place_way (n := n) hb
          rw [← ew] at ep
          refine q a c _ H11 (y10.f _ na) (x04.f _ nc) (y10.trans x11.up) (x11.dk hd10) ?_ ?_
          · rw [ep]
            have hE10 := z10.deach (x9.deach hE8)
            exact x11.deach (DEach.snoc hE10 (p := ⟨n, l, r, w'.hue⟩) (by rw [turn_n]; exact nin) (z10.tup (.inl (.inl htt))))
          · rw [ep]
            exact ⟨ha, x11.lst (z10.lst (x9.lst (x8.lst hw3 (by simpa using ncd))) (by simpa using ncd))⟩
end
end My

set_option Elab.async false
set_option linter.all false
set_option maxRecDepth 100000
set_option maxHeartbeats 4000000
namespace My
open PySem PySem.Spec PyProof.Rows L2 Own Mt
open K08 (most ends count Tally vals most_is)
theorem ends_at {ts : List (List Int)} {sd i : Nat} {r : List Int} (h : ts[i]? = some r) : (ends ts sd)[i]? = some (r.getD sd 0) := by
  unfold ends
  rw [List.getElem?_map, h]
  rfl
section
variable {P : Program} {w : World} {K : PySem.W.Frag} {mg : Str → Option Value} {base : Heap} {W : Tbs}
def spMost (K : PySem.W.Frag) (W : Tbs) : Sp := fun vs H Q _ => ∃ (a : Addr) (ts : List (List Int)) (sd : Nat), vs = [.ref a, .int sd] ∧ Rows K H a ts ∧ (∀ r ∈ ts, sd < r.length) ∧ ts.length ≤ 1000 ∧
  ∀ H', Ext W H H' → Q (.int (most (ends ts sd) : Nat)) H'
theorem ok_most_at (T : Txt K mg) : FnOk P w K mg base CX0 1 T.f_most_at T.d_most_at ["rows", "side"] (spMost K W) := by
  refine T.D_most_at.F.ok sc_most_at (fun vs H Q E h => ?_) (fun cdv A outer s H vs Q E hr h => ?_)
  · obtain ⟨a, ts, sd, rfl, _⟩ := h
    rfl
  · obtain ⟨a, ts, sd, rfl, ⟨as, hS, hE⟩, hw, hlen, q⟩ := h
    refine ⟨_, (pss_cons (ps_set (i := 2) sc_most_at.nd rfl (.inl rfl) pe_dnewK)
    (pss_cons (ps_for PassesOwn.never rfl (pi_list (pv 0)) (pg_name (i := 3) sc_most_at.nd rfl (.inl rfl)) 
      (pss_cons (ps_set (i := 4) sc_most_at.nd rfl (.inl rfl) (pe_ix (ixT K) (pv 3) (pv 1) (fun _ _ => rfl)))
      (pss_one (ps_dput (hu_of hr) (pv 2) (pv 4) (pe_op op_add (pe_dget2 (hu_of hr) (pv 2) (pv 4) pe_int ⟨rfl, rfl, rfl, rfl⟩) pe_int) rfl))))
    (pss_one (ps_ret (pe_callBK (cr_maxD rfl) (by rfl) T.z_max (by decide +kernel) (pa_cons (bm0C K (pe_bm0 PySem.F.plainAttrs_dict PySem.F.slot_dict_values PySem.F.type_dict_values mt_vals (pv 2))) pa_nil) (pk_cons pe_int pk_nil)))))), ?_⟩
    -- met = {}
    intro d nd
    refine newO W (H := H) (p := d) nd fun H0 x0 hd0 => ?_
    -- for row in rows
    refine ⟨_, rfl, a, rfl, ⟨_, x0.seq hS⟩, for_list (K := K) (a := a) (xs := as.map V.ref)
      (fun i σ H2 => ∃ (v3 v4 : Option V) (kvs : List (Key × V)), σ = [some (.ref a), some (.int sd), some (.ref d), v3, v4] ∧ Ext W H H2 ∧ H2 d = some (.dK kvs) ∧ Tally kvs ((ends ts sd).take i))
      ⟨none, none, [], rfl, x0, hd0, .nil⟩ (fun i σ H2 _ ⟨_, _, _, _, x, _⟩ => x.seq hS) ?_ ?_⟩
    · rintro i y σ H2 hi ⟨v3, v4, kvs, rfl, x, hd, hT⟩
      obtain ⟨b, r, rfl, hb, hr', hq⟩ := hE.val hi
      have lt := hw r (List.mem_of_getElem? hr')
      have few : kvs.length < sizeLine := by
        have := hT.len
        rw [List.length_take] at this
        unfold ends at this
        rw [List.length_map] at this
        exact small1000 (by omega)
      refine ⟨_, rfl, _, rfl, b, _, _, _, rfl, rfl, x.tup hq, at_sd lt, ?_⟩
      refine ⟨_, rfl, d, rfl, .inl ⟨kvs, .inl hd⟩, _, rfl, _, DGet.k (k := Sum.inl (r.getD sd 0)) hd, _, _, hT.look _, rfl, ?_⟩
      refine ⟨_, rfl, _, rfl, d, _, rfl, DPut.k (k := Sum.inl (r.getD sd 0)) hd few, ?_⟩
      refine ⟨_, _, _, rfl, x.put (.inl nd) hd, upd_same, ?_⟩
      rw [take_one (ends_at hr')]
      exact hT.put _
    · rintro σ H2 ⟨v3, v4, kvs, rfl, x, hd, hT⟩
      have el : (ends ts sd).take (as.map V.ref).length = ends ts sd := List.take_of_length_le (by
        unfold ends
        rw [List.length_map, List.length_map, hE.len]
        exact Nat.le_refl _)
      rw [el] at hT
      -- return max(met.values(), default=0)
      refine ⟨_, rfl, .inr (.inr (.inl ⟨rfl, .inl ⟨kvs, hd⟩⟩)), d, kvs, rfl, rfl, hd, fun v nv => ?_⟩
      refine newO W (H := H2) (p := v) nv fun H3 x3 hv => ?_
      refine ⟨v, d, kvs, vals kvs, 0, rfl, rfl, hv, x3.dk hd, hT.vals, fun e => ?_, fun m hm hg => ?_⟩
      · rw [hT.most (.inl ⟨e, rfl⟩)]
        exact q _ (x.trans x3)
      · rw [hT.most (.inr ⟨hm, hg⟩)]
        exact q _ (x.trans x3)
def spCount (K : PySem.W.Frag) (W : Tbs) : Sp := fun vs H Q _ => ∃ (a : Addr) (ts : List (List Int)), vs = [.ref a] ∧ Rows K H a ts ∧ (∀ r ∈ ts, 2 ≤ r.length) ∧ ts.length ≤ 1000 ∧
  ∀ H', Ext W H H' → Q (.int (count ts : Nat)) H'
theorem ok_count_of (T : Txt K mg) : FnOk P w K mg base CX0 2 T.f_count_of T.d_count_of ["rows"] (spCount K W) := by
  have ok_most_at : FnOk P w K mg base CX0 1 T.f_most_at T.d_most_at ["rows", "side"] (spMost K W) := ok_most_at T
  refine T.D_count_of.F.ok sc_count_of (fun vs H Q E h => ?_) (fun cdv A outer s H vs Q E hr h => ?_)
  · obtain ⟨a, ts, rfl, _⟩ := h
    rfl
  · obtain ⟨a, ts, rfl, hR, hw, hlen, q⟩ := h
    refine ⟨_, (pss_one (ps_ret (pe_callB (call_max2 rfl) (by rfl) T.z_max (by decide +kernel) (pa_cons (pe_call ok_most_at (hr.mono (by decide)) rfl T.D_most_at.g T.D_most_at.F.kp T.D_most_at.b .nil pass0 (pa_cons (pv 0) (pa_cons (pe_gi rfl T.c_LEFT) pa_nil))) (pa_cons (pe_call ok_most_at (hr.mono (by decide)) rfl T.D_most_at.g T.D_most_at.F.kp T.D_most_at.b .nil pass0 (pa_cons (pv 0) (pa_cons (pe_gi rfl T.c_RIGHT) pa_nil))) pa_nil))))), ?_⟩
    refine ⟨_, rfl, a, ts, 0, rfl, hR, fun r h => by have := hw r h; omega, hlen, fun H1 x1 => ?_⟩
    refine ⟨_, rfl, a, ts, 1, rfl, x1.rows hR, fun r h => by have := hw r h; omega, hlen, fun H2 x2 => ?_⟩
    refine ⟨_, _, rfl, ?_⟩
    have e : (if ((most (ends ts 1) : Nat) : Int) > (most (ends ts 0) : Nat) then ((most (ends ts 1) : Nat) : Int) else (most (ends ts 0) : Nat)) = (count ts : Nat) := by
      unfold count
      split <;> omega
    rw [e]
    exact q _ (x1.trans x2)
/-! whole numbers, and those of a span -/
def isIn (v : V) (lo hi : Int) : Bool := match v with
  | .int i => decide (lo ≤ i) && decide (i ≤ hi)
  | _ => false
def isInt : V → Bool
  | .int _ => true
  | _ => false
theorem ty_int {H : Hp} {v : V} {t : String} (h : TyB K H v t) : decide (t = "int") = isInt v := by
  cases h <;> rfl
def spWhole (K : PySem.W.Frag) : Sp := fun vs H Q _ => ∃ (v : V) (t : String), vs = [v] ∧ TyB K H v t ∧ Q (.bl (isInt v)) H
theorem ok_is_whole (T : Txt K mg) : FnOk P w K mg base CX0 1 T.f_is_whole T.d_is_whole ["worth"] (spWhole K) := by
  refine T.D_is_whole.F.ok sc_is_whole (fun vs H Q E h => ?_) (fun cdv A outer s H vs Q E hr h => ?_)
  · obtain ⟨v, t, rfl, _⟩ := h
    rfl
  · obtain ⟨v, t, rfl, ht, q⟩ := h
    refine ⟨_, (pss_one (ps_ret (pe_cmpR op_eqTy (pe_callTy (typ1 K) (by rfl) T.z_type (by decide +kernel) (pa_cons (pv 0) pa_nil)) (pe_bltn (v := .ty "int") (by rfl) T.z_int (by decide +kernel) rfl) (nomark _)))), ?_⟩
    refine ⟨_, rfl, v, t, rfl, ht, _, _, rfl, rfl, TyB.name ht, by simp [tyNames], ?_⟩
    rw [ty_int ht]
    exact q
def spWithin (K : PySem.W.Frag) : Sp := fun vs H Q _ => ∃ (v : V) (t : String) (lo hi : Int), vs = [v, .int lo, .int hi] ∧ TyB K H v t ∧ Q (.bl (isIn v lo hi)) H
theorem ok_is_within (T : Txt K mg) : FnOk P w K mg base CX0 2 T.f_is_within T.d_is_within ["worth", "low", "high"] (spWithin K) := by
  have ok_is_whole : FnOk P w K mg base CX0 1 T.f_is_whole T.d_is_whole ["worth"] (spWhole K) := ok_is_whole T
  refine T.D_is_within.F.ok sc_is_within (fun vs H Q E h => ?_) (fun cdv A outer s H vs Q E hr h => ?_)
  · obtain ⟨v, t, lo, hi, rfl, _⟩ := h
    rfl
  · obtain ⟨v, t, lo, hi, rfl, ht, q⟩ := h
    refine ⟨_, (pss_one (ps_ret (pe_and (pe_call ok_is_whole (hr.mono (by decide)) rfl T.D_is_whole.g T.D_is_whole.F.kp T.D_is_whole.b .nil pass0 (pa_cons (pv 0) pa_nil)) (pe_one (pe_chain op_le op_le (pv 1) (pv 0) (pv 2)))))), ?_⟩
    refine ⟨_, rfl, v, t, rfl, ht, _, rfl, ?_⟩
    cases v with
    | int i =>
      refine iteT ?_
      refine ⟨_, rfl, _, rfl, _, _, rfl, rfl, _, rfl, ?_⟩
      refine ite2 (fun h => ?_) (fun h => ?_)
      · refine ⟨_, rfl, _, _, rfl, rfl, ?_⟩
        have e : isIn (.int i) lo hi = decide (i ≤ hi) := by
          show (decide (lo ≤ i) && decide (i ≤ hi)) = _
          rw [h, Bool.true_and]
        rw [e] at q
        exact q
      · have e : isIn (.int i) lo hi = false := by
          show (decide (lo ≤ i) && decide (i ≤ hi)) = _
          rw [show decide (lo ≤ i) = false by simpa using h, Bool.false_and]
        rw [e] at q
        exact q
    | _ => exact iteF q
end
end My

set_option Elab.async false
set_option linter.all false
set_option maxRecDepth 100000
set_option maxHeartbeats 4000000
namespace My
open PySem PySem.Spec PyProof.Rows L2 Own Mt
/-! the hall -/
theorem n_re : ¬ (("_rows" : Str) = "_ends") := by decide +kernel
theorem n_ne : ¬ (("_next" : Str) = "_ends") := by decide +kernel
theorem n_nr : ¬ (("_next" : Str) = "_rows") := by decide +kernel
theorem n_er : ¬ (("_ends" : Str) = "_rows") := by decide +kernel
theorem n_en : ¬ (("_ends" : Str) = "_next") := by decide +kernel
theorem n_rn : ¬ (("_rows" : Str) = "_next") := by decide +kernel
def hf (e d : Addr) (n : Int) : List (Str × V) := putF "_next" (.int n) (putF "_rows" (.ref d) (putF "_ends" (.ref e) []))
theorem hf_eq (e d : Addr) (n : Int) : hf e d n = ([("_ends", .ref e), ("_rows", .ref d), ("_next", .int n)] : List (Str × V)) := by
  show putF "_next" (.int n) (if ("_ends" : Str) = "_rows" then [(("_rows" : Str), V.ref d)] else (("_ends" : Str), V.ref e) :: putF "_rows" (V.ref d) []) = _
  rw [if_neg n_er]
  show (if ("_ends" : Str) = "_next" then _ else (("_ends" : Str), V.ref e) :: (if ("_rows" : Str) = "_next" then _ else (("_rows" : Str), V.ref d) :: putF "_next" (V.int n) [])) = _
  rw [if_neg n_en, if_neg n_rn]
  all_goals rfl
theorem hf_ends (e d : Addr) (n : Int) : (hf e d n).lookup ("_ends" : Str) = some (.ref e) := by
  unfold hf
  rw [lookup_putF, if_neg n_en, lookup_putF, if_neg n_er, lookup_putF, if_pos rfl]
theorem hf_rows (e d : Addr) (n : Int) : (hf e d n).lookup ("_rows" : Str) = some (.ref d) := by
  unfold hf
  rw [lookup_putF, if_neg n_rn, lookup_putF, if_pos rfl]
theorem hf_next (e d : Addr) (n : Int) : (hf e d n).lookup ("_next" : Str) = some (.int n) := by
  unfold hf
  rw [lookup_putF, if_pos rfl]
theorem hf_no (e d : Addr) (n : Int) {m : Str} (h1 : ¬ m = "_next") (h2 : ¬ m = "_rows") (h3 : ¬ m = "_ends") : (hf e d n).lookup m = none := by
  unfold hf
  rw [lookup_putF, if_neg h1, lookup_putF, if_neg h2, lookup_putF, if_neg h3]
  all_goals rfl
theorem hf_put (e d : Addr) (n m : Int) : putF "_next" (.int m) (hf e d n) = hf e d m := by
  rw [hf_eq, hf_eq]
  show (if ("_ends" : Str) = "_next" then _ else (("_ends" : Str), V.ref e) :: (if ("_rows" : Str) = "_next" then _ else (("_rows" : Str), V.ref d) :: (if ("_next" : Str) = "_next" then [(("_next" : Str), V.int m)] else _))) = _
  rw [if_neg n_en, if_neg n_rn, if_pos rfl]
theorem hf_few (e d : Addr) (n : Int) : (hf e d n).length < 1000 := by
  rw [hf_eq]
  show 3 < 1000
  decide
/-- a hall stands at a, its dict at d: so many ends, so many numbers given, the pairs R in their order -/
structure HallOf (K : PySem.W.Frag) (C : Addr) (H : Hp) (a d : Addr) (L Y n : Nat) (R : List Pr) : Prop where
  ex : ∃ (dx e : Addr) (kvs : List (Key × V)), H a = some (.ins C dx (hf e d n)) ∧ SqT K H e [.int (L : Nat), .int (Y : Nat)] ∧ H d = some (.dK kvs) ∧ DEach K H kvs R
section
variable {P : Program} {w : World} {K : PySem.W.Frag} {mg : Str → Option Value} {base : Heap} {W : Tbs}
theorem HallOf.ext {C a d : Addr} {H H' : Hp} {L Y n : Nat} {R : List Pr} (h : HallOf K C H a d L Y n R) {S : List Addr} (x : Fx W S H H') (h1 : a ∉ S := by simp) (h2 : d ∉ S := by simp) : HallOf K C H' a d L Y n R := by
  obtain ⟨dx, e, kvs, ha, he, hd, hE⟩ := h.ex
  exact ⟨dx, e, kvs, x.ins ha h1, x.tup he, x.dk hd h2, x.deach hE⟩
theorem HallOf.ne {C a d : Addr} {H : Hp} {L Y n : Nat} {R : List Pr} (h : HallOf K C H a d L Y n R) : a ≠ d := by
  obtain ⟨dx, e, kvs, ha, he, hd, hE⟩ := h.ex
  exact ne_of ha hd (by intro z; cases z)
/-- how many ends a side has -/
def sideOf (L Y s : Nat) : Nat := if s = 0 then L else Y
theorem ends_at2 (L Y s : Nat) (h : s < 2) : atI [.int (L : Nat), .int (Y : Nat)] (s : Int) = some (V.int (sideOf L Y s : Nat)) := by
  match s, h with
  | 0, _ => exact atI_nat (j := 0) rfl
  | 1, _ => exact atI_nat (j := 1) rfl
def spCheckEnd (K : PySem.W.Frag) (C EB : Addr) : Sp := fun vs H Q E => ∃ (a d : Addr) (L Y n : Nat) (R : List Pr) (s : Nat) (v : V) (t : String), vs = [.ref a, .int (s : Nat), v] ∧ HallOf K C H a d L Y n R ∧ s < 2 ∧ TyB K H v t ∧
  (isIn v 0 ((sideOf L Y s : Nat) - 1) = true → Q .non H) ∧ (isIn v 0 ((sideOf L Y s : Nat) - 1) = false → E (.ref EB) none H)
theorem ok_Hall_check_end (T : Txt K mg) : FnOk P w K mg base (L2.CX P w) 3 T.f_Hall_check_end T.d_Hall_check_end ["self", "side", "end"] (spCheckEnd K T.C_Hall T.E_BadEnd) := by
  have ok_is_within : FnOk P w K mg base CX0 2 T.f_is_within T.d_is_within ["worth", "low", "high"] (spWithin K) := ok_is_within T
  refine T.D_Hall_check_end.F.okX sc_Hall_check_end (fun vs H Q E h => ?_) (fun cdv A outer s H vs Q E hr h => ?_)
  · obtain ⟨a, d, L, Y, n, R, sd, v, t, rfl, _⟩ := h
    rfl
  · obtain ⟨a, d, L, Y, n, R, sd, v, t, rfl, hH, hs, ht, q, qe⟩ := h
    obtain ⟨dx, e, kvs, ha, he, hd, hE⟩ := hH.ex
    refine ⟨_, (pss_one (ps_if (pt_not (pt_val (pe_call ok_is_within (hr.mono (by decide)) rfl T.D_is_within.g T.D_is_within.F.kp T.D_is_within.b .nil pass0 (pa_cons (pv 2) (pa_cons pe_int (pa_cons (pe_op op_sub (pe_ix (ixT K) (fldC K (pe_fld (pv 0) rfl)) (pv 1) (fun _ _ => rfl)) pe_int) pa_nil)))))) 
      (pss_one (ps_raise rfl (takes_of rfl rfl rfl rfl) (pmk_own PySem.F.excBase_ValueError T.x_BadEnd.x T.x_BadEnd.g T.x_BadEnd.k (raises_own T.x_BadEnd.b T.x_BadEnd.t) rfl))) pss_nil)), ?_⟩
    refine ⟨_, rfl, _, rfl, a, T.C_Hall, dx, _, _, rfl, ha, T.cl_Hall, T.nA_ends, hf_ends _ _ _, _, rfl, e, _, _, _, rfl, rfl, he, ends_at2 L Y sd hs, _, _, rfl, rfl, v, t, _, _, rfl, ht, _, rfl, ?_⟩
    cases c : isIn v 0 ((sideOf L Y sd : Nat) - 1) with
    | true => exact iteF (q c)
    | false => exact iteT (qe c)
def spCount0 (K : PySem.W.Frag) (W : Tbs) (C : Addr) : Sp := fun vs H Q _ => ∃ (a d : Addr) (L Y n : Nat) (R : List Pr), vs = [.ref a] ∧ HallOf K C H a d L Y n R ∧ R.length ≤ 100 ∧ ∀ H', Ext W H H' → Q (.int (cnt R : Nat)) H'
theorem rows_len (R : List Pr) : ∀ r ∈ R.map row, 2 ≤ r.length := by
  intro r hr
  obtain ⟨p, _, rfl⟩ := List.mem_map.mp hr
  show 2 ≤ 3
  decide
theorem ok_Hall_count (T : Txt K mg) : FnOk P w K mg base CX0 3 T.f_Hall_count T.d_Hall_count ["self"] (spCount0 K W T.C_Hall) := by
  have ok_count_of : FnOk P w K mg base CX0 2 T.f_count_of T.d_count_of ["rows"] (spCount K W) := ok_count_of T
  refine T.D_Hall_count.F.ok sc_Hall_count (fun vs H Q E h => ?_) (fun cdv A outer s H vs Q E hr h => ?_)
  · obtain ⟨a, d, L, Y, n, R, rfl, _⟩ := h
    rfl
  · obtain ⟨a, d, L, Y, n, R, rfl, hH, few, q⟩ := h
    obtain ⟨dx, e, kvs, ha, he, hd, hE⟩ := hH.ex
    refine ⟨_, (pss_one (ps_ret (pe_call ok_count_of (hr.mono (by decide)) rfl T.D_count_of.g T.D_count_of.F.kp T.D_count_of.b .nil pass0 (pa_cons (pe_callTy (call_listVw rfl) (by rfl) T.z_list (by decide +kernel) (pa_cons (bm0C K (pe_bm0 PySem.F.plainAttrs_dict PySem.F.slot_dict_values PySem.F.type_dict_values mt_vals (fldC K (pe_fld (pv 0) rfl)))) pa_nil)) pa_nil)))), ?_⟩
    refine ⟨_, rfl, a, T.C_Hall, dx, _, _, rfl, ha, T.cl_Hall, T.nA_rows, hf_rows _ _ _, .inr (.inr (.inl ⟨rfl, .inl ⟨kvs, hd⟩⟩)), d, kvs, rfl, rfl, hd, fun v nv => ?_⟩
    refine newO W (H := H) (p := v) nv fun H1 x1 hv => ?_
    refine ⟨v, d, kvs, rfl, hv, x1.dk hd, fun l nl => ?_⟩
    refine newO W (H := H1) (p := l) nl fun H2 x2 hl => ?_
    obtain ⟨as, e1, e2⟩ := hE.vals
    rw [e1] at hl
    refine ⟨l, R.map row, rfl, ⟨as, SqL.of hl, (x1.trans x2).each e2⟩, rows_len R, by rw [List.length_map]; omega, fun H3 x3 => q _ (x1.trans (x2.trans x3))⟩
def spCheckNumber (K : PySem.W.Frag) (C EN : Addr) : Sp := fun vs H Q E => ∃ (a d : Addr) (L Y n : Nat) (R : List Pr) (v : V) (t : String), vs = [.ref a, v] ∧ HallOf K C H a d L Y n R ∧ TyB K H v t ∧
  (∀ p ∈ R, v = .int (p.n : Nat) → Q .non H) ∧ ((∀ p ∈ R, v ≠ .int (p.n : Nat)) → E (.ref EN) none H)
theorem valV_int {H : Hp} {kvs : List (Key × V)} {R : List Pr} (hE : DEach K H kvs R) (i : Int) : (valV kvs (Sum.inl i)).isSome = true ↔ ∃ p ∈ R, i = (p.n : Nat) := by
  rw [← valV_any, List.any_eq_true]
  constructor
  · rintro ⟨kv, h1, h2⟩
    have h3 : kv.1 ∈ kvs.map (·.1) := List.mem_map.mpr ⟨kv, h1, rfl⟩
    rw [hE.keys] at h3
    obtain ⟨p, hp, e⟩ := List.mem_map.mp h3
    have := of_decide_eq_true h2
    rw [← e] at this
    exact ⟨p, hp, (Sum.inl.inj this).symm⟩
  · rintro ⟨p, hp, rfl⟩
    have h3 : (Sum.inl (p.n : Int) : Key) ∈ kvs.map (·.1) := by
      rw [hE.keys]
      exact List.mem_map.mpr ⟨p, hp, rfl⟩
    obtain ⟨kv, h1, h2⟩ := List.mem_map.mp h3
    exact ⟨kv, h1, decide_eq_true h2⟩
theorem ok_Hall_check_number (T : Txt K mg) : FnOk P w K mg base (L2.CX P w) 2 T.f_Hall_check_number T.d_Hall_check_number ["self", "number"] (spCheckNumber K T.C_Hall T.E_NoPair) := by
  have ok_is_whole : FnOk P w K mg base CX0 1 T.f_is_whole T.d_is_whole ["worth"] (spWhole K) := ok_is_whole T
  refine T.D_Hall_check_number.F.okX sc_Hall_check_number (fun vs H Q E h => ?_) (fun cdv A outer s H vs Q E hr h => ?_)
  · obtain ⟨a, d, L, Y, n, R, v, t, rfl, _⟩ := h
    rfl
  · obtain ⟨a, d, L, Y, n, R, v, t, rfl, hH, ht, q, qe⟩ := h
    obtain ⟨dx, e, kvs, ha, he, hd, hE⟩ := hH.ex
    refine ⟨_, (pss_one (ps_if (PW.pt (pw_or (pt_not (pt_val (pe_call ok_is_whole (hr.mono (by decide)) rfl T.D_is_whole.g T.D_is_whole.F.kp T.D_is_whole.b .nil pass0 (pa_cons (pv 1) pa_nil)))) (pw_or1 (pt_cmp (pc_dnotin (hu_of hr) (pv 1) (fldC K (pe_fld (pv 0) rfl))))))) 
      (pss_one (ps_raise rfl (takes_of rfl rfl rfl rfl) (pmk_own PySem.F.excBase_ValueError T.x_NoPair.x T.x_NoPair.g T.x_NoPair.k (raises_own T.x_NoPair.b T.x_NoPair.t) rfl))) pss_nil)), ?_⟩
    refine ⟨_, rfl, v, t, rfl, ht, _, rfl, ?_⟩
    cases v with
    | int i =>
      refine iteF ?_
      refine ⟨_, rfl, _, rfl, a, T.C_Hall, dx, _, _, rfl, ha, T.cl_Hall, T.nA_rows, hf_rows _ _ _, d, _, rfl, DGet.k (k := Sum.inl i) hd, _, rfl, ?_⟩
      cases c : (valV kvs (Sum.inl i)).isSome with
      | true =>
        obtain ⟨p, hp, e⟩ := (valV_int hE i).mp c
        exact iteF (q p hp (by rw [e]))
      | false =>
        refine iteT (qe fun p hp z => ?_)
        have := (valV_int hE i).mpr ⟨p, hp, V.int.inj z⟩
        rw [c] at this
        cases this
    | _ => exact iteT (iteT (qe fun p hp z => by cases z))
end
end My

set_option Elab.async false
set_option linter.all false
set_option maxRecDepth 100000
set_option maxHeartbeats 4000000
namespace My
open PySem PySem.Spec PyProof.Rows L2 Own Mt
open K08 (most ends)
section
variable {P : Program} {w : World} {K : PySem.W.Frag} {mg : Str → Option Value} {base : Heap} {W : Tbs}
/-! how great a count may be -/
theorem cnt_le (R : List Pr) : cnt R ≤ R.length := by
  rcases cnt_at R with ⟨h, _⟩ | ⟨s, e, _, _, h⟩
  · omega
  · rw [← h]
    unfold deg
    exact Nat.le_trans List.count_le_length (by rw [List.length_map]; exact Nat.le_refl _)
theorem many_le (R : List Pr) (l r : Nat) : manyWith R l r ≤ R.length + 1 := by
  rw [many_is R 0 l r 0]
  have := cnt_le (R ++ [⟨0, l, r, 0⟩])
  rw [List.length_append, List.length_singleton] at this
  exact this
theorem place_len {R : List Pr} {n l r m : Nat} : (place R n l r m).2.length = R.length + 1 := by
  have := congrArg List.length (place_ns (R := R) (n := n) (l := l) (r := r) (m := m))
  rw [List.length_map, List.length_append, List.length_map, List.length_singleton] at this
  exact this
theorem isIn_nat {v : V} {m : Nat} (h : isIn v 0 ((m : Nat) - 1) = true) : ∃ i : Nat, v = .int (i : Nat) ∧ i < m := by
  cases v with
  | int i =>
    have h' : (decide (0 ≤ i) && decide (i ≤ (m : Int) - 1)) = true := h
    simp only [Bool.and_eq_true, decide_eq_true_eq] at h'
    exact ⟨i.toNat, by congr 1; omega, by omega⟩
  | _ => cases h
theorem isIn_of {i m : Nat} (h : i < m) : isIn (.int (i : Nat)) 0 ((m : Nat) - 1) = true := by
  show (decide (0 ≤ (i : Int)) && decide ((i : Int) ≤ (m : Int) - 1)) = true
  simp only [Bool.and_eq_true, decide_eq_true_eq]
  omega
def spCome (K : PySem.W.Frag) (W : Tbs) (C EB EM : Addr) : Sp := fun vs H Q E => ∃ (a d : Addr) (L Y n : Nat) (R : List Pr) (v1 v2 : V) (t1 t2 : String), vs = [.ref a, v1, v2] ∧ HallOf K C H a d L Y n R ∧ Good R ∧ (∀ p ∈ R, p.n < n) ∧ R.length ≤ 50 ∧ (∀ p ∈ W.l, LamX.TabS H p.1 p.2) ∧ TyB K H v1 t1 ∧ TyB K H v2 t2 ∧
  (∀ l r : Nat, v1 = .int (l : Nat) → v2 = .int (r : Nat) → l < L → r < Y → R.length < 40 → ∀ b c H', H b = none → H c = none → Fx W [a, d] H H' → HallOf K C H' a d L Y (n + 1) (come R n l r).2 → ToldAt K H' b c (come R n l r).1 → Q (.ref b) H') ∧
  ((isIn v1 0 ((L : Nat) - 1) && isIn v2 0 ((Y : Nat) - 1)) = false → E (.ref EB) none H) ∧
  ((isIn v1 0 ((L : Nat) - 1) && isIn v2 0 ((Y : Nat) - 1)) = true → 40 ≤ R.length → E (.ref EM) none H)
theorem ok_Hall_come (T : Txt K mg) (B : LamX.TabB base mg T.k_place T.p_place) (WO : Wok W T.p_place) : FnOk P w K mg base (L2.CX P w) 5 T.f_Hall_come T.d_Hall_come ["self", "left", "right"] (spCome K W T.C_Hall T.E_BadEnd T.E_TooMany) := by
  have ok_Hall_check_end : FnOk P w K mg base (L2.CX P w) 3 T.f_Hall_check_end T.d_Hall_check_end ["self", "side", "end"] (spCheckEnd K T.C_Hall T.E_BadEnd) := ok_Hall_check_end T
  have ok_count_of : FnOk P w K mg base CX0 2 T.f_count_of T.d_count_of ["rows"] (spCount K W) := ok_count_of T
  have ok_place : FnOk P w K mg base CX0 4 T.f_place T.d_place ["rows", "number", "left", "right", "many"] (spPlace K W) := ok_place T B WO
  refine T.D_Hall_come.F.okX sc_Hall_come (fun vs H Q E h => ?_) (fun cdv A outer s H vs Q E hr h => ?_)
  · obtain ⟨a, d, L, Y, n, R, v1, v2, t1, t2, rfl, _⟩ := h
    rfl
  · obtain ⟨a, d, L, Y, n, R, v1, v2, t1, t2, rfl, hH, G, hn, few, tabs, ht1, ht2, q, qb, qm⟩ := h
    obtain ⟨dx, e, kvs, ha, he, hd, hE⟩ := hH.ex
    have no : (hf e d (n : Int)).lookup ("_check_end" : Str) = none := hf_no _ _ _ (by decide +kernel) (by decide +kernel) (by decide +kernel)
    refine ⟨_, (pss_cons (ps_expr (pe_meth (pv 0) T.cl_Hall T.D_Hall_check_end.m ok_Hall_check_end (hr.mono (by decide)) T.D_Hall_check_end.b .nil (passes_call (takes_of rfl rfl rfl rfl) (fun _ _ _ _ h => h)) (pa_cons (pe_gi rfl T.c_LEFT) (pa_cons (pv 1) pa_nil))))
    (pss_cons (ps_expr (pe_meth (pv 0) T.cl_Hall T.D_Hall_check_end.m ok_Hall_check_end (hr.mono (by decide)) T.D_Hall_check_end.b .nil (passes_call (takes_of rfl rfl rfl rfl) (fun _ _ _ _ h => h)) (pa_cons (pe_gi rfl T.c_RIGHT) (pa_cons (pv 2) pa_nil))))
    (pss_cons (ps_if (pt_cmpR op_ge (pe_callB call_lenD (by rfl) T.z_len PySem.boot_len (pa_cons (fldC K (pe_fld (pv 0) rfl)) pa_nil)) (pe_gi rfl T.c_MOST_PAIRS) (nomark _)) 
      (pss_one (ps_raise rfl (takes_of rfl rfl rfl rfl) (pmk_own PySem.F.excBase_ValueError T.x_TooMany.x T.x_TooMany.g T.x_TooMany.k (raises_own T.x_TooMany.b T.x_TooMany.t) rfl))) pss_nil)
    (pss_cons (ps_set (i := 3) sc_Hall_come.nd rfl (.inl rfl) (pe_call ok_count_of (hr.mono (by decide)) rfl T.D_count_of.g T.D_count_of.F.kp T.D_count_of.b .nil pass0 (pa_cons (pe_op op_cat (pe_callTy (call_listVw rfl) (by rfl) T.z_list (by decide +kernel) (pa_cons (bm0C K (pe_bm0 PySem.F.plainAttrs_dict PySem.F.slot_dict_values PySem.F.type_dict_values mt_vals (fldC K (pe_fld (pv 0) rfl)))) pa_nil)) (pe_lst (pa_cons (pe_tup (pa_cons (pv 1) (pa_cons (pv 2) pa_nil))) pa_nil))) pa_nil)))
    (pss_cons (ps_set (i := 4) sc_Hall_come.nd rfl (.inl rfl) (fldC K (pe_fld (pv 0) rfl)))
    (pss_cons (ps_fldaug (pv 0) pe_int in_add)
    (pss_one (ps_ret (pe_call ok_place (hr.mono (by decide)) rfl T.D_place.g T.D_place.F.kp T.D_place.b .nil pass0 (pa_cons (fldC K (pe_fld (pv 0) rfl)) (pa_cons (pv 4) (pa_cons (pv 1) (pa_cons (pv 2) (pa_cons (pv 3) pa_nil)))))))))))))), ?_⟩
    refine ⟨_, rfl, a, dx, _, rfl, ha, no, _, rfl, a, d, L, Y, n, R, 0, v1, t1, rfl, hH, by decide, ht1, fun i1 => ?_, fun i1 => qb (by rw [show isIn v1 0 ((L : Nat) - 1) = false from i1, Bool.false_and])⟩
    refine ⟨_, rfl, a, dx, _, rfl, ha, no, _, rfl, a, d, L, Y, n, R, 1, v2, t2, rfl, hH, by decide, ht2, fun i2 => ?_, fun i2 => qb (by rw [show isIn v2 0 ((Y : Nat) - 1) = false from i2, Bool.and_false])⟩
    have i1 : isIn v1 0 ((L : Nat) - 1) = true := i1
    have i2 : isIn v2 0 ((Y : Nat) - 1) = true := i2
    refine ⟨_, rfl, a, T.C_Hall, dx, _, _, rfl, ha, T.cl_Hall, T.nA_rows, hf_rows _ _ _, d, kvs, rfl, hd, _, _, rfl, rfl, _, rfl, ite2 (fun c => ?_) (fun c => ?_)⟩
    · refine qm (by rw [i1, i2]; rfl) ?_
      have := of_decide_eq_true c
      rw [hE.len] at this
      omega
    · have f40 : R.length < 40 := by
        have c : ¬ (decide ((40 : Int) ≤ (kvs.length : Nat)) = true) := c
        rw [decide_eq_true_eq, hE.len] at c
        omega
      obtain ⟨l, rfl, hl⟩ := isIn_nat i1
      obtain ⟨r, rfl, hr'⟩ := isIn_nat i2
      -- list(self._rows.values()) + [(left, right)]
      refine ⟨_, rfl, a, T.C_Hall, dx, _, _, rfl, ha, T.cl_Hall, T.nA_rows, hf_rows _ _ _, .inr (.inr (.inl ⟨rfl, .inl ⟨kvs, hd⟩⟩)), d, kvs, rfl, rfl, hd, fun v nv => ?_⟩
      refine newO W (H := H) (p := v) nv fun H1 x1 hv => ?_
      refine ⟨v, d, kvs, rfl, hv, x1.dk hd, fun u nu => ?_⟩
      refine newO W (H := H1) (p := u) nu fun H2 x2 hu => ?_
      refine ⟨_, rfl, _, rfl, by show 2 ≤ sizeLine; decide, fun t nt => ?_⟩
      refine newO W (H := H2) (p := t) nt fun H3 x3 ht => ?_
      refine ⟨by show 1 ≤ sizeLine; decide, fun u2 nu2 => ?_⟩
      refine newO W (H := H3) (p := u2) nu2 fun H4 x4 hu2 => ?_
      have hu4 := x4.lst (x3.lst hu)
      refine ⟨u, u2, _, _, rfl, rfl, hu4, hu2, ?_, fun s5 ns5 => ?_⟩
      · rw [List.length_map, hE.len]
        show R.length + 1 ≤ sizeLine
        exact Nat.le_of_lt (small1000 (by omega))
      refine newO W (H := H4) (p := s5) ns5 fun H5 x5 hs5 => ?_
      have x05 : Ext W H H5 := x1.trans (x2.trans (x3.trans (x4.trans x5)))
      obtain ⟨as, e1, e2⟩ := hE.vals
      rw [e1] at hs5
      have ht5 := x5.tp (x4.tp ht)
      refine ⟨s5, R.map row ++ [[(l : Int), (r : Int)]], rfl, ⟨as ++ [t], SqL.of (by rw [hs5, List.map_append]; rfl), Each.snoc (x05.each e2) (.inl (.inl ht5))⟩, ?_, by rw [List.length_append, List.length_map, List.length_singleton]; omega, fun H6 x6 => ?_⟩
      · intro rr hrr
        rcases List.mem_append.mp hrr with z | z
        · exact rows_len R rr z
        · rw [List.mem_singleton.mp z]
          show 2 ≤ 2
          exact Nat.le_refl _
      have x06 := x05.trans x6
      have ha6 := x06.ins ha
      have hd6 := x06.dk hd
      have hE6 := x06.deach hE
      have nad : a ≠ d := hH.ne
      -- number = self._next; self._next += 1
      refine ⟨_, rfl, a, T.C_Hall, dx, _, _, rfl, ha6, T.cl_Hall, T.nA_next, hf_next _ _ _, ?_⟩
      refine ⟨_, rfl, a, T.C_Hall, dx, _, _, rfl, ha6, T.cl_Hall, T.nA_next, hf_next _ _ _, _, _, rfl, rfl, dx, _, ha6, hf_few _ _ _, ?_⟩
      have en : ((n : Nat) : Int) + 1 = ((n + 1 : Nat) : Int) := by omega
      rw [en, hf_put]
      have y7 : Fx W [a, d] H (upd H6 a (.ins T.C_Hall dx (hf e d ((n + 1 : Nat) : Int)))) := x06.up.put (.inr (by simp)) ha6
      have z7 : Fx W [a] H6 (upd H6 a (.ins T.C_Hall dx (hf e d ((n + 1 : Nat) : Int)))) := Fx.refl.put (.inr (by simp)) ha6
      have ha7 : (upd H6 a (.ins T.C_Hall dx (hf e d ((n + 1 : Nat) : Int)))) a = _ := upd_same
      revert y7 z7 ha7
      generalize upd H6 a (.ins T.C_Hall dx (hf e d ((n + 1 : Nat) : Int))) = H7
      intro y7 z7 ha7
      have hd7 := z7.dk hd6 (by simpa using nad.symm)
      have hE7 := z7.deach hE6
      obtain ⟨f0, f1⟩ := come_free R l r
      refine ⟨_, rfl, a, T.C_Hall, dx, _, _, rfl, ha7, T.cl_Hall, T.nA_rows, hf_rows _ _ _, _, rfl, _, rfl, _, rfl, _, rfl, ?_⟩
      refine ⟨d, kvs, R, n, l, r, manyWith R l r, rfl, hd7, hE7, by omega, G.P, G.N, fun z => ?_, by have := many_le R l r; omega, f0, f1, fun p hp => y7.l p hp (tabs p hp), fun b c kvs8 H8 nb nc x8 hd8 hE8 hT8 => ?_⟩
      · obtain ⟨p, hp, ep⟩ := List.mem_map.mp z
        have := hn p hp
        have ep : p.n = n := ep
        omega
      · have y8 : Fx W [a, d] H H8 := y7.trans (x8.wk fun x hx => by simp at hx ⊢; exact .inr hx)
        exact q l r rfl rfl hl hr' f40 b c H8 (y7.f _ nb) (y7.f _ nc) y8 ⟨dx, e, kvs8, x8.ins ha7 (by simpa using nad), y8.tup he, hd8, hE8⟩ hT8
/-! asked -/
def srtI (R : List Pr) : List Nat := srt (R.map (·.n))
theorem sorted_is {R : List Pr} {ks ys : List Int} (h : ks = R.map fun p => ((p.n : Nat) : Int)) (h1 : ys.Perm ks) (h2 : ys.Pairwise (· ≤ ·)) : ys = (srtI R).map fun n : Nat => (n : Int) := by
  have e1 : ((srtI R).map fun n : Nat => (n : Int)).Perm ks := by
    rw [h]
    have := (srt_perm (R.map (·.n))).map (fun n : Nat => (n : Int))
    rw [List.map_map] at this
    exact this
  have e2 : ((srtI R).map fun n : Nat => (n : Int)).Pairwise (· ≤ ·) := by
    rw [List.pairwise_map]
    exact (srt_le _).imp (by intro a b h; omega)
  exact (h1.trans e1.symm).eq_of_pairwise (fun x y _ _ h1 h2 => Int.le_antisymm h1 h2) h2 e2
theorem keys_ints {H : Hp} {kvs : List (Key × V)} {R : List Pr} (hE : DEach K H kvs R) : kvs.map (·.1) = (R.map fun p => ((p.n : Nat) : Int)).map Sum.inl := by
  rw [hE.keys, List.map_map]
  rfl
/-- the pairs, as they are told: rising by their numbers -/
def pairRow (p : Pr) : List Int := [(p.n : Int), (p.l : Int), (p.r : Int), (p.h : Int)]
def pairsOf (R : List Pr) : List (List Int) := (srtI R).map fun n => match pairOf R n with | some p => pairRow p | none => []
theorem srtI_in {R : List Pr} (N : (R.map (·.n)).Nodup) {n : Nat} (h : n ∈ srtI R) : ∃ p ∈ R, p.n = n ∧ pairOf R n = some p := by
  obtain ⟨p, hp, e⟩ := List.mem_map.mp (mem_srt.mp h)
  have e : p.n = n := e
  exact ⟨p, hp, e, by rw [← e]; exact pairOf_is N hp⟩
theorem srtI_len (R : List Pr) : (srtI R).length = R.length := by
  unfold srtI
  rw [(srt_perm _).length_eq, List.length_map]
def spPairs (K : PySem.W.Frag) (W : Tbs) (C : Addr) : Sp := fun vs H Q _ => ∃ (a d : Addr) (L Y n : Nat) (R : List Pr), vs = [.ref a] ∧ HallOf K C H a d L Y n R ∧ R.length < 64 ∧ (R.map (·.n)).Nodup ∧
  ∀ b as H', H b = none → Ext W H H' → H' b = some (.lst (as.map V.ref)) → Each K H' as (pairsOf R) → Q (.ref b) H'
theorem ok_Hall_pairs (T : Txt K mg) : FnOk P w K mg base CX0 1 T.f_Hall_pairs T.d_Hall_pairs ["self"] (spPairs K W T.C_Hall) := by
  refine T.D_Hall_pairs.F.ok sc_Hall_pairs (fun vs H Q E h => ?_) (fun cdv A outer s H vs Q E hr h => ?_)
  · obtain ⟨a, d, L, Y, n, R, rfl, _⟩ := h
    rfl
  · obtain ⟨a, d, L, Y, n, R, rfl, hH, few, N, q⟩ := h
    obtain ⟨dx, e, kvs, ha, he, hd, hE⟩ := hH.ex
    refine ⟨_, (pss_one (ps_ret (pe_lc rfl sc_Hall_pairs.nd (own := [("number", 1)]) (pi_list (pe_callB (sortD K rfl) (by rfl) T.z_sorted (by decide +kernel) (pa_cons (fldC K (pe_fld (pv 0) rfl)) pa_nil))) (blkOk_by (N := N_Hall_pairs) (sc := defScope s_Hall_pairs) (by decide +kernel)) (fun _ _ _ _ _ => (pg_name (i := 1) sc_Hall_pairs.nd rfl (.inl rfl))) (fun _ _ _ _ _ => pts_nil) (fun _ _ _ _ _ => (pe_tup (pa_cons (pv 1) (starC K (pe_dget (hu_of hr) (fldC K (pe_fld (pv 0) rfl)) (pv 1) (fun _ _ => rfl)) pa_nil))))))), ?_⟩
    refine ⟨_, rfl, a, T.C_Hall, dx, _, _, rfl, ha, T.cl_Hall, T.nA_rows, hf_rows _ _ _, d, kvs, _, rfl, .inl hd, keys_ints hE, by rw [List.length_map]; exact few, fun ys u hp hs nu => ?_⟩
    rw [sorted_is rfl hp hs]
    have eV : ((srtI R).map fun n : Nat => (n : Int)).map V.int = vN (srtI R) := (vN_ints _).symm
    rw [eV]
    refine newO W (H := H) (p := u) nu fun H1 x1 hu => ?_
    refine ⟨u, rfl, ⟨_, SqL.of hu⟩, fun D nD => lc_list (K := K) (a := u) (xs := vN (srtI R))
      (fun j H2 => ∃ as, Ext W H1 H2 ∧ H2 D = some (.lst (as.map V.ref)) ∧ Each K H2 as ((pairsOf R).take j)) ⟨[], .new nD, upd_same, .nil⟩ (fun j H2 _ ⟨_, x, _⟩ => SqL.of (x.lst hu)) ?_ ?_⟩
    · rintro j y H2 hj ⟨as, x2, hD, hA⟩
      obtain ⟨m, hm, rfl⟩ := vN_get hj
      obtain ⟨p, hp, ep, eo⟩ := srtI_in N (List.mem_of_getElem? hm)
      have x02 := x1.trans x2
      obtain ⟨b, hb, tb⟩ := (x02.deach hE).in N hp
      rw [ep] at hb
      refine ⟨rfl, yesT ?_⟩
      refine ⟨_, rfl, _, rfl, a, T.C_Hall, dx, _, _, rfl, x02.ins ha, T.cl_Hall, T.nA_rows, hf_rows _ _ _, _, rfl, d, .ref b, rfl, ?_, ?_⟩
      · have := DGet.k (k := Sum.inl (m : Int)) (x02.dk hd)
        rw [hb] at this
        exact this
      refine ⟨b, _, rfl, .inl tb, by show 4 ≤ sizeLine; decide, fun t nt => ?_⟩
      refine newO W (H := H2) (p := t) nt fun H3 x3 ht => ?_
      have hD3 := x3.lst hD
      have la : as.length < 64 := by
        have h1 := hA.len
        have h2 := (List.getElem?_eq_some_iff.mp hm).1
        rw [srtI_len] at h2
        rw [List.length_take] at h1
        omega
      refine ⟨_, hD3, by rw [List.length_map]; exact small1000 (by omega), as ++ [t], (x2.trans x3).put (.inl nD) hD3, by rw [upd_same, List.map_append]; rfl, ?_⟩
      have ht' : (pairsOf R)[j]? = some (pairRow p) := by
        unfold pairsOf
        rw [List.getElem?_map, hm, Option.map_some, eo]
      rw [take_one ht']
      have kp : ∀ {c : Addr} {ys : List V}, SqT K H3 c ys → SqT K (upd H3 D (.lst (as.map V.ref ++ [.ref t]))) c ys := fun {c ys} h => tup_upd hD3 (fun _ z => by cases z) (fun _ _ z => by cases z) h
      refine Each.snoc (Paired.mapP (x3.each hA) fun c ys h => kp h) (kp (.inl (.inl ?_)))
      rw [← ep] at ht
      exact ht
    · rintro H2 ⟨as, x2, hD, hA⟩
      have lx : (vN (srtI R)).length = (pairsOf R).length := by
        unfold pairsOf
        rw [List.length_map, List.length_map]
      rw [lx, List.take_length] at hA
      exact q D as H2 (x1.f _ nD) (x1.trans x2) hD hA
end
end My

set_option Elab.async false
set_option linter.all false
set_option maxRecDepth 100000
set_option maxHeartbeats 4000000
namespace My
open PySem PySem.Spec PyProof.Rows L2 Own Mt
section
variable {P : Program} {w : World} {K : PySem.W.Frag} {mg : Str → Option Value} {base : Heap} {W : Tbs}
theorem isIn_of1 {v : V} {hi : Nat} (h : isIn v 1 (hi : Nat) = true) : ∃ k : Nat, v = .int (k : Nat) ∧ 1 ≤ k ∧ k ≤ hi := by
  cases v with
  | int i =>
    have h : (decide ((1 : Int) ≤ i) && decide (i ≤ (hi : Nat))) = true := h
    rw [Bool.and_eq_true, decide_eq_true_eq, decide_eq_true_eq] at h
    refine ⟨i.toNat, ?_, by omega, by omega⟩
    rw [show ((i.toNat : Nat) : Int) = i by omega]
  | _ => cases h
/-- a hall is made -/
def spInit (K : PySem.W.Frag) (W : Tbs) (C EC : Addr) : Sp := fun vs H Q E => ∃ (a dx : Addr) (v1 v2 : V) (t1 t2 : String), vs = [.ref a, v1, v2] ∧ H a = some (.ins C dx []) ∧ TyB K H v1 t1 ∧ TyB K H v2 t2 ∧
  (∀ L Y : Nat, v1 = .int (L : Nat) → v2 = .int (Y : Nat) → 1 ≤ L → L ≤ 8 → 1 ≤ Y → Y ≤ 8 → ∀ d H', H d = none → Fx W [a] H H' → HallOf K C H' a d L Y 0 [] → Q .non H') ∧
  ((isIn v1 1 8 && isIn v2 1 8) = false → E (.ref EC) none H)
theorem ok_Hall_init (T : Txt K mg) : FnOk P w K mg base (L2.CX P w) 3 T.f_Hall_init T.d_Hall_init ["self", "lefts", "rights"] (spInit K W T.C_Hall T.E_BadCount) := by
  have ok_is_within : FnOk P w K mg base CX0 2 T.f_is_within T.d_is_within ["worth", "low", "high"] (spWithin K) := ok_is_within T
  refine T.F_Hall_init.okX sc_Hall_init (fun vs H Q E h => ?_) (fun cdv A outer s H vs Q E hr h => ?_)
  · obtain ⟨a, dx, v1, v2, t1, t2, rfl, _⟩ := h
    rfl
  · obtain ⟨a, dx, v1, v2, t1, t2, rfl, ha, ht1, ht2, q, qe⟩ := h
    refine ⟨_, (pss_cons (ps_if (pt_not (PW.pt (pw_and (pt_val (pe_call ok_is_within (hr.mono (by decide)) rfl T.D_is_within.g T.D_is_within.F.kp T.D_is_within.b .nil pass0 (pa_cons (pv 1) (pa_cons pe_int (pa_cons (pe_gi rfl T.c_MOST_ENDS) pa_nil))))) (pw_and1 (pt_val (pe_call ok_is_within (hr.mono (by decide)) rfl T.D_is_within.g T.D_is_within.F.kp T.D_is_within.b .nil pass0 (pa_cons (pv 2) (pa_cons pe_int (pa_cons (pe_gi rfl T.c_MOST_ENDS) pa_nil))))))))) 
      (pss_one (ps_raise rfl (takes_of rfl rfl rfl rfl) (pmk_own PySem.F.excBase_ValueError T.x_BadCount.x T.x_BadCount.g T.x_BadCount.k (raises_own T.x_BadCount.b T.x_BadCount.t) rfl))) pss_nil)
    (pss_cons (ps_fld (pv 0) (pe_tup (pa_cons (pv 1) (pa_cons (pv 2) pa_nil))) rfl)
    (pss_cons (ps_fld (pv 0) pe_dnewK rfl)
    (pss_one (ps_fld (pv 0) pe_int rfl))))), ?_⟩
    refine ⟨_, rfl, v1, t1, _, _, rfl, ht1, _, rfl, ?_⟩
    cases c1 : isIn v1 1 8 with
    | false => exact iteF (iteT (qe (by rw [c1]; rfl)))
    | true =>
      refine iteT ?_
      refine ⟨_, rfl, v2, t2, _, _, rfl, ht2, _, rfl, ?_⟩
      cases c2 : isIn v2 1 8 with
      | false => exact iteT (qe (by rw [c1, c2]; rfl))
      | true =>
        refine iteF ?_
        obtain ⟨L, rfl, l1, l2⟩ := isIn_of1 (hi := 8) c1
        obtain ⟨Y, rfl, b1, b2⟩ := isIn_of1 (hi := 8) c2
        refine ⟨_, rfl, _, rfl, by show 2 ≤ sizeLine; decide, fun e ne => ?_⟩
        refine newO W (H := H) (p := e) ne fun H1 x1 he => ?_
        have ha1 := x1.ins ha
        refine ⟨_, rfl, a, _, dx, _, rfl, ha1, T.cl_Hall, T.nA_ends, by show 0 < 1000; decide, ?_⟩
        have y2 : Fx W [a] H (upd H1 a (.ins T.C_Hall dx (putF "_ends" (.ref e) []))) := x1.up.put (.inr (by simp)) ha1
        have z2 : Fx W [a] H1 (upd H1 a (.ins T.C_Hall dx (putF "_ends" (.ref e) []))) := Fx.refl.put (.inr (by simp)) ha1
        have ha2 : (upd H1 a (.ins T.C_Hall dx (putF "_ends" (.ref e) []))) a = _ := upd_same
        revert y2 z2 ha2
        generalize upd H1 a (.ins T.C_Hall dx (putF "_ends" (.ref e) [])) = H2
        intro y2 z2 ha2
        have he2 := z2.tp he
        intro d nd
        refine newO W (H := H2) (p := d) nd fun H3 x3 hd => ?_
        have ha3 := x3.ins ha2
        have nad : d ≠ a := (ne_of_none ha2 nd).symm
        refine ⟨_, rfl, a, _, dx, _, rfl, ha3, T.cl_Hall, T.nA_rows, by show 1 < 1000; decide, ?_⟩
        have y4 : Fx W [a] H (upd H3 a (.ins T.C_Hall dx (putF "_rows" (.ref d) (putF "_ends" (.ref e) [])))) := (y2.trans x3.up).put (.inr (by simp)) ha3
        have z4 : Fx W [a] H3 (upd H3 a (.ins T.C_Hall dx (putF "_rows" (.ref d) (putF "_ends" (.ref e) [])))) := Fx.refl.put (.inr (by simp)) ha3
        have ha4 : (upd H3 a (.ins T.C_Hall dx (putF "_rows" (.ref d) (putF "_ends" (.ref e) [])))) a = _ := upd_same
        revert y4 z4 ha4
        generalize upd H3 a (.ins T.C_Hall dx (putF "_rows" (.ref d) (putF "_ends" (.ref e) []))) = H4
        intro y4 z4 ha4
        refine ⟨_, rfl, a, _, dx, _, rfl, ha4, T.cl_Hall, T.nA_next, ?_, ?_⟩
        · have e : (putF "_rows" (V.ref d) (putF "_ends" (V.ref e) [])).length = 2 := by
            show (if ("_ends" : Str) = "_rows" then [(("_rows" : Str), V.ref d)] else (("_ends" : Str), V.ref e) :: putF "_rows" (V.ref d) []).length = 2
            rw [if_neg n_er]
            rfl
          rw [e]
          decide
        have z5 : Fx W [a] H4 (upd H4 a (.ins T.C_Hall dx (hf e d 0))) := Fx.refl.put (.inr (by simp)) ha4
        refine q L Y rfl rfl l1 l2 b1 b2 d _ (y2.f _ nd) (y4.trans z5) ⟨dx, e, [], upd_same, ?_, ?_, .nil⟩
        · exact .inl (.inl (z5.tp (z4.tp (x3.tp he2))))
        · exact z5.dk (z4.dk hd (by simpa using nad)) (by simpa using nad)
end
end My

set_option Elab.async false
set_option linter.all false
set_option maxRecDepth 100000
set_option maxHeartbeats 4000000
namespace My
open PySem PySem.Spec PyProof.Rows L2 Own Mt
theorem pairsOf_at {R : List Pr} (N : (R.map (·.n)).Nodup) {j : Nat} {r : List Int} (h : (pairsOf R)[j]? = some r) : ∃ p ∈ R, (srtI R)[j]? = some p.n ∧ r = pairRow p := by
  unfold pairsOf at h
  rw [List.getElem?_map] at h
  obtain ⟨m, hm, e⟩ := Option.map_eq_some_iff.mp h
  obtain ⟨p, hp, ep, eo⟩ := srtI_in N (List.mem_of_getElem? hm)
  rw [eo] at e
  exact ⟨p, hp, by rw [ep]; exact hm, e.symm⟩
theorem pairsOf_len (R : List Pr) : (pairsOf R).length = R.length := by
  unfold pairsOf
  rw [List.length_map, srtI_len]
theorem srtI_nodup {R : List Pr} (N : (R.map (·.n)).Nodup) : (srtI R).Nodup := (srt_perm _).nodup_iff.mpr N
end My

set_option Elab.async false
set_option linter.all false
set_option maxRecDepth 100000
set_option maxHeartbeats 4000000
namespace My
open PySem PySem.Spec PyProof.Rows L2 Own TL Mt
theorem tyb_ext {K : PySem.W.Frag} {W : Tbs} {H H' : Hp} {v : V} {t : String} (x1 : Ext W H H') (ht : TyB K H v t) : TyB K H' v t := by
  cases ht with
  | non => exact .non
  | bl b => exact .bl b
  | int i => exact .int i
  | str x => exact .str x
  | byt b => exact .byt b
  | lst h => exact .lst (x1.seq h)
  | tup h => exact .tup (x1.tup h)
  | dK h => exact .dK (x1.dk h)
theorem in18 {L : Nat} (h1 : 1 ≤ L) (h2 : L ≤ 8) : isIn (V.int (L : Nat)) 1 8 = true := by
  show (decide ((1 : Int) ≤ (L : Nat)) && decide (((L : Nat) : Int) ≤ 8)) = true
  rw [decide_eq_true (by omega), decide_eq_true (by omega)]
  rfl
section
variable {P : Program} {w : World} {K : PySem.W.Frag} {mg : Str → Option Value} {base : Heap} {W : Tbs}
def spNone0 (K : PySem.W.Frag) (W : Tbs) (EC : Addr) : Sp := fun vs H Q E => ∃ (v1 v2 : V) (t1 t2 : String) (b : Addr), vs = [v1, v2, .ref b] ∧ TyB K H v1 t1 ∧ TyB K H v2 t2 ∧ H b = some (.lst []) ∧ (∀ p ∈ W.l, LamX.TabS H p.1 p.2) ∧
  (∀ L Y : Nat, v1 = .int (L : Nat) → v2 = .int (Y : Nat) → 1 ≤ L → L ≤ 8 → 1 ≤ Y → Y ≤ 8 → ∀ l H', Ext W H H' → H' l = some (.lst []) → Q (.ref l) H') ∧
  ((isIn v1 1 8 && isIn v2 1 8) = false → ∀ H', Ext W H H' → E (.ref EC) none H')
theorem ok_hued0 (T : Txt K mg) (B : LamX.TabB base mg T.k_place T.p_place) (WO : Wok W T.p_place) : FnOk P w K mg base (L2.CX P w) 6 T.f_hued T.d_hued ["lefts", "rights", "pairs"] (spNone0 K W T.E_BadCount) := by
  have ok_Hall_init : FnOk P w K mg base (L2.CX P w) 3 T.f_Hall_init T.d_Hall_init ["self", "lefts", "rights"] (spInit K W T.C_Hall T.E_BadCount) := ok_Hall_init T
  have ok_Hall_come : FnOk P w K mg base (L2.CX P w) 5 T.f_Hall_come T.d_Hall_come ["self", "left", "right"] (spCome K W T.C_Hall T.E_BadEnd T.E_TooMany) := ok_Hall_come T B WO
  have ok_Hall_pairs : FnOk P w K mg base CX0 1 T.f_Hall_pairs T.d_Hall_pairs ["self"] (spPairs K W T.C_Hall) := ok_Hall_pairs T
  refine T.D_hued.F.okX sc_hued (fun vs H Q E h => ?_) (fun cdv A outer s H vs Q E hr h => ?_)
  · obtain ⟨v1, v2, t1, t2, b, rfl, _⟩ := h
    rfl
  · obtain ⟨v1, v2, t1, t2, b, rfl, ht1, ht2, hb, tabs, q, qe⟩ := h
    refine ⟨_, (pss_cons (ps_set (i := 3) sc_hued.nd rfl (.inl rfl) (pe_make T.M_Hall ok_Hall_init (hr.mono (by decide)) rfl T.g_Hall T.b_Hall_init .nil (passes_call (takes_of rfl rfl rfl rfl) (fun _ _ _ _ h => h)) (pa_cons (pv 0) (pa_cons (pv 1) pa_nil))))
    (pss_cons (ps_for (passes_of rfl) rfl (pi_list (pv 2)) (pg_tup rfl (pgs_cons (pg_name (i := 4) sc_hued.nd rfl (.inl rfl)) (pgs_cons (pg_name (i := 5) sc_hued.nd rfl (.inl rfl)) pgs_nil))) 
      (pss_one (ps_expr (pe_meth (pv 3) T.cl_Hall T.D_Hall_come.m ok_Hall_come (hr.mono (by decide)) T.D_Hall_come.b .nil (passes_call (takes_of rfl rfl rfl rfl) (fun _ _ _ _ h => h)) (pa_cons (pv 4) (pa_cons (pv 5) pa_nil))))))
    (pss_one (ps_ret (pe_lc rfl sc_hued.nd (own := [("number", 6), ("left", 4), ("right", 5), ("hue", 7)]) (pi_list (pe_meth0 (pv 3) T.cl_Hall T.D_Hall_pairs.m ok_Hall_pairs (hr.mono (by decide)) T.D_Hall_pairs.b .nil pass0)) (blkOk_by (N := N_hued) (sc := defScope s_hued) (by decide +kernel)) (fun _ _ _ _ _ => (pg_tupK K 4 rfl (pgs_cons (pg_name (i := 6) sc_hued.nd rfl (.inl rfl)) (pgs_cons (pg_name (i := 4) sc_hued.nd rfl (.inl rfl)) (pgs_cons (pg_name (i := 5) sc_hued.nd rfl (.inl rfl)) (pgs_cons (pg_name (i := 7) sc_hued.nd rfl (.inl rfl)) pgs_nil)))))) (fun _ _ _ _ _ => pts_nil) (fun _ _ _ _ _ => (pv 7))))))), ?_⟩
    refine ⟨_, rfl, _, rfl, fun a dx na ndx nax => ?_⟩
    have x2 : Ext W H (upd (upd H dx (.own a)) a (.ins T.C_Hall dx [])) := (Fx.new (W := W) (S := []) ndx).trans (.new (by rw [upd_ne nax.symm]; exact na))
    have ha2 : (upd (upd H dx (.own a)) a (.ins T.C_Hall dx [])) a = some (.ins T.C_Hall dx []) := upd_same
    revert x2 ha2
    generalize upd (upd H dx (.own a)) a (.ins T.C_Hall dx []) = H2
    intro x2 ha2
    refine ⟨a, dx, _, _, _, _, rfl, ha2, tyb_ext x2 ht1, tyb_ext x2 ht2, fun L Y eL eY L1 L2 Y1 Y2 d H3 nd x3 hH3 => ⟨rfl, ?main⟩, fun z => qe z H2 x2⟩
    have x03 : Ext W H H3 := (x2.up.trans x3).down fun b hb => by rw [List.mem_singleton.mp hb]; exact na
    have hb3 := x03.lst hb
    refine ⟨_, rfl, b, rfl, ⟨_, SqL.of hb3⟩, for_list (K := K) (a := b) (xs := []) (fun i σ G => ∃ (v4 v5 v6 v7 : Option V), σ = [some v1, some v2, some (.ref b), some (.ref a), v4, v5, v6, v7] ∧ G = H3) ⟨none, none, none, none, rfl, rfl⟩ (fun i σ G _ ⟨_, _, _, _, _, e⟩ => by rw [e]; exact SqL.of hb3) ?_ ?_⟩
    · rintro i y σ G hi _
      simp at hi
    · rintro σ G ⟨v4, v5, v6, v7, rfl, rfl⟩
      obtain ⟨dx1, e1, kv1, ha1, he1, hd1, hE1⟩ := hH3.ex
      refine ⟨_, rfl, a, dx1, _, rfl, ha1, hf_no _ _ _ (by decide +kernel) (by decide +kernel) (by decide +kernel), a, d, L, Y, 0, [], rfl, hH3, by decide, List.nodup_nil, fun u us G1 nu x1 hu hE => ?_⟩
      have l0 : us = [] := List.length_eq_zero_iff.mp (by
        have := hE.len
        rw [pairsOf_len] at this
        exact this)
      subst l0
      refine ⟨u, rfl, ⟨_, SqL.of hu⟩, fun D nD => lc_list (K := K) (a := u) (xs := []) (fun j G2 => Ext W G1 G2 ∧ G2 D = some (.lst [])) ⟨.new nD, upd_same⟩ (fun j G2 _ ⟨x2, _⟩ => SqL.of (x2.lst hu)) ?_ ?_⟩
      · rintro j y G2 hj _
        simp at hj
      · rintro G2 ⟨y2, hD⟩
        exact q L Y eL eY L1 L2 Y1 Y2 D G2 (x03.trans (x1.trans y2)) hD
theorem ok_play0 (T : Txt K mg) : FnOk P w K mg base (L2.CX P w) 9 T.f_play T.d_play ["lefts", "rights", "lines"] (spNone0 K W T.E_BadCount) := by
  have ok_Hall_init : FnOk P w K mg base (L2.CX P w) 3 T.f_Hall_init T.d_Hall_init ["self", "lefts", "rights"] (spInit K W T.C_Hall T.E_BadCount) := ok_Hall_init T
  have ok_answer : FnOk P w K mg base CX0 8 T.f_answer T.d_answer ["hall", "line"] (fun _ _ _ _ => False) := ⟨fun _ _ _ _ h => h.elim, fun _ _ _ _ _ _ _ _ _ _ _ _ _ h => h.elim⟩
  refine T.D_play.F.okX sc_play (fun vs H Q E h => ?_) (fun cdv A outer s H vs Q E hr h => ?_)
  · obtain ⟨v1, v2, t1, t2, b, rfl, _⟩ := h
    rfl
  · obtain ⟨v1, v2, t1, t2, b, rfl, ht1, ht2, hb, tabs, q, qe⟩ := h
    refine ⟨_, (pss_cons (ps_set (i := 3) sc_play.nd rfl (.inl rfl) (pe_make T.M_Hall ok_Hall_init (hr.mono (by decide)) rfl T.g_Hall T.b_Hall_init .nil (passes_call (takes_of rfl rfl rfl rfl) (fun _ _ _ _ h => h)) (pa_cons (pv 0) (pa_cons (pv 1) pa_nil))))
    (pss_cons (ps_set (i := 4) sc_play.nd rfl (.inl rfl) (pe_lst pa_nil))
    (pss_cons (ps_for (passes_of rfl) rfl (pi_list (pv 2)) (pg_name (i := 5) sc_play.nd rfl (.inl rfl)) 
      (pss_one (ps_expr (bmC K (pe_bm PySem.F.plainAttrs_list PySem.F.slot_list_append PySem.F.type_list_append mt_append (pv 4) (pa_cons (pe_call ok_answer (hr.mono (by decide)) rfl T.D_answer.g T.D_answer.F.kp T.D_answer.b .nil pass0 (pa_cons (pv 3) (pa_cons (pv 5) pa_nil))) pa_nil))))))
    (pss_one (ps_ret (pv 4)))))), ?_⟩
    refine ⟨_, rfl, _, rfl, fun a dx na ndx nax => ?_⟩
    have x2 : Ext W H (upd (upd H dx (.own a)) a (.ins T.C_Hall dx [])) := (Fx.new (W := W) (S := []) ndx).trans (.new (by rw [upd_ne nax.symm]; exact na))
    have ha2 : (upd (upd H dx (.own a)) a (.ins T.C_Hall dx [])) a = some (.ins T.C_Hall dx []) := upd_same
    revert x2 ha2
    generalize upd (upd H dx (.own a)) a (.ins T.C_Hall dx []) = H2
    intro x2 ha2
    refine ⟨a, dx, _, _, _, _, rfl, ha2, tyb_ext x2 ht1, tyb_ext x2 ht2, fun L Y eL eY L1 L2 Y1 Y2 d H3 nd x3 hH3 => ⟨rfl, ?main⟩, fun z => qe z H2 x2⟩
    have x03 : Ext W H H3 := (x2.up.trans x3).down fun b hb => by rw [List.mem_singleton.mp hb]; exact na
    refine ⟨by show 0 ≤ sizeLine; decide, fun F nF => ?_⟩
    refine newO W (H := H3) (p := F) nF fun H4 x4 hF => ?_
    have hb4 := (x03.trans x4).lst hb
    refine ⟨_, rfl, b, rfl, ⟨_, SqL.of hb4⟩, for_list (K := K) (a := b) (xs := []) (fun i σ G => ∃ v5 : Option V, σ = [some v1, some v2, some (.ref b), some (.ref a), some (.ref F), v5] ∧ G = H4) ⟨none, rfl, rfl⟩ (fun i σ G _ ⟨_, _, e⟩ => by rw [e]; exact SqL.of hb4) ?_ ?_⟩
    · rintro i y σ G hi _
      simp at hi
    · rintro σ G ⟨v5, rfl, rfl⟩
      exact ⟨_, rfl, q L Y eL eY L1 L2 Y1 Y2 F G (x03.trans x4) hF⟩
/-- what a call that should be refused may leave: a hall or a list -/
def Made (C : Addr) (H : Hp) (v : V) : Prop := ∃ a, v = .ref a ∧ ((∃ dx fs, H a = some (.ins C dx fs)) ∨ ∃ xs, H a = some (.lst xs))
def spMade (K : PySem.W.Frag) (W : Tbs) (C : Addr) : Sp := fun vs H Q _ => ∃ (wy : Nat) (v1 v2 : V) (t1 t2 : String), vs = [.int (wy : Nat), v1, v2] ∧ TyB K H v1 t1 ∧ TyB K H v2 t2 ∧ (∀ p ∈ W.l, LamX.TabS H p.1 p.2) ∧
  (∀ L Y : Nat, v1 = .int (L : Nat) → v2 = .int (Y : Nat) → 1 ≤ L → L ≤ 8 → 1 ≤ Y → Y ≤ 8 → ∀ v H', Ext W H H' → Made C H' v → Q v H') ∧
  ((isIn v1 1 8 && isIn v2 1 8) = false → ∀ p H', Ext W H H' → H' p = some (.tup [.str (Str.ofString "count")]) → Q (.ref p) H')
theorem ok_l_made (T : Txt K mg) (B : LamX.TabB base mg T.k_place T.p_place) (WO : Wok W T.p_place) : FnOk P w K mg base CX0 10 T.f_l_made T.d_l_made ["_law_way", "_law_lefts", "_law_rights"] (spMade K W T.C_Hall) := by
  have ok_Hall_init : FnOk P w K mg base (L2.CX P w) 3 T.f_Hall_init T.d_Hall_init ["self", "lefts", "rights"] (spInit K W T.C_Hall T.E_BadCount) := ok_Hall_init T
  have ok_hued : FnOk P w K mg base (L2.CX P w) 6 T.f_hued T.d_hued ["lefts", "rights", "pairs"] (spNone0 K W T.E_BadCount) := ok_hued0 T B WO
  have ok_play : FnOk P w K mg base (L2.CX P w) 9 T.f_play T.d_play ["lefts", "rights", "lines"] (spNone0 K W T.E_BadCount) := ok_play0 T
  refine T.D_l_made.F.ok sc_l_made (fun vs H Q E h => ?_) (fun cdv A outer s H vs Q E hr h => ?_)
  · obtain ⟨wy, v1, v2, t1, t2, rfl, _⟩ := h
    rfl
  · obtain ⟨wy, v1, v2, t1, t2, rfl, ht1, ht2, tabs, q, qe⟩ := h
    refine ⟨_, (pss_one (ps_try_as (i := 3) rfl rfl sc_l_made.nd rfl rfl ⟨rfl, by decide, .inl T.x_PairError.g⟩ takes0 (fun W pn xe tk _ => 
      (pss_cons (ps_if (pt_cmpR op_eq (pv 0) pe_int (nomark _)) 
        (pss_one (ps_ret (pe_makeAt T.M_Hall ok_Hall_init (hr.mono (by decide)) rfl T.g_Hall T.b_Hall_init (fun σ => passAt tk σ) (pa_cons (pv 1) (pa_cons (pv 2) pa_nil))))) pss_nil)
      (pss_cons (ps_if (pt_cmpR op_eq (pv 0) pe_int (nomark _)) 
        (pss_one (ps_ret (pe_callS ok_hued (hr.mono (by decide)) rfl T.D_hued.g T.D_hued.F.kp T.D_hued.b (fun σ => passAt tk σ) (pa_cons (pv 1) (pa_cons (pv 2) (pa_cons (pe_lst pa_nil) pa_nil)))))) pss_nil)
      (pss_one (ps_ret (pe_callS ok_play (hr.mono (by decide)) rfl T.D_play.g T.D_play.F.kp T.D_play.b (fun σ => passAt tk σ) (pa_cons (pv 1) (pa_cons (pv 2) (pa_cons (pe_lst pa_nil) pa_nil))))))))) (fun a oe cls d pn hz hf => 
      (pss_one (ps_ret (pe_tup (pa_cons (pe_callE (k := 1) (R := fun al : Addr × Str => cls = .ref al.1 ∧ d = none ∧ KindOf T al.1 al.2) (spf := fun al => spKind W a al.2) List.mem_cons_self (kindE T hz hf) (roomS hr (by decide)) rfl T.D_l_kind.g T.D_l_kind.F.kp T.D_l_kind.b (pa_cons (pv 3) pa_nil)) pa_nil))))))), ?_⟩
    refine ⟨_, rfl, rfl, _, rfl, ?_⟩
    by_cases w0 : V.int ((wy : Nat) : Int) = V.int 0
    case pos =>
      rw [decide_eq_true w0]
      refine iteT ?_
      refine ⟨_, rfl, _, rfl, fun a dx na ndx nax => ?_⟩
      have x2 : Ext W H (upd (upd H dx (.own a)) a (.ins T.C_Hall dx [])) := (Fx.new (W := W) (S := []) ndx).trans (.new (by rw [upd_ne nax.symm]; exact na))
      have ha2 : (upd (upd H dx (.own a)) a (.ins T.C_Hall dx [])) a = some (.ins T.C_Hall dx []) := upd_same
      revert x2 ha2
      generalize upd (upd H dx (.own a)) a (.ins T.C_Hall dx []) = H2
      intro x2 ha2
      refine ⟨a, dx, _, _, _, _, rfl, ha2, tyb_ext x2 ht1, tyb_ext x2 ht2, fun L Y eL eY L1 L2 Y1 Y2 d H3 nd x3 hH3 => ⟨rfl, ?main⟩, fun z => ?bad⟩
      case main =>
        have x03 : Ext W H H3 := (x2.up.trans x3).down fun b hb => by rw [List.mem_singleton.mp hb]; exact na
        obtain ⟨dx1, e1, kv1, ha1, he1, hd1, hE1⟩ := hH3.ex
        exact q L Y eL eY L1 L2 Y1 Y2 _ H3 x03 ⟨a, rfl, .inl ⟨_, _, ha1⟩⟩
      case bad =>
        refine ⟨true, T.e_BadCount_PairError, fun _ u nu => ?_, fun z => by cases z⟩
        exact hand T (kind_count T) rfl fun p H' x hp => qe z p H' (x2.trans x) hp
    rw [decide_eq_false w0]
    refine iteF ?_
    refine ⟨_, rfl, rfl, _, rfl, ?_⟩
    by_cases w1 : V.int ((wy : Nat) : Int) = V.int 1
    case' pos =>
      rw [decide_eq_true w1]
      refine iteT ?_
    case' neg =>
      rw [decide_eq_false w1]
      refine iteF ?_
    all_goals
      refine ⟨_, rfl, _, rfl, by show 0 ≤ sizeLine; decide, fun b nb => ?_⟩
      refine newO W (H := H) (p := b) nb fun H1 x1 hb => ?_
      have tabs1 : ∀ p ∈ W.l, LamX.TabS H1 p.1 p.2 := fun p hp => x1.l p hp (tabs p hp)
      refine ⟨v1, v2, t1, t2, b, rfl, tyb_ext x1 ht1, tyb_ext x1 ht2, hb, tabs1, fun L Y eL eY L1 L2 Y1 Y2 l H' x hl => q L Y eL eY L1 L2 Y1 Y2 _ H' (x1.trans x) ⟨l, rfl, .inr ⟨_, hl⟩⟩, fun z H' x => ?_⟩
      refine ⟨true, T.e_BadCount_PairError, fun _ u nu => ?_, fun z => by cases z⟩
      exact hand T (kind_count T) rfl fun p H2 y hp => qe z p H2 (x1.trans (x.trans y)) hp
end
end My

set_option Elab.async false
set_option linter.all false
set_option maxRecDepth 100000
set_option maxHeartbeats 4000000
namespace My
open PySem PySem.Spec PyProof.Rows L2 Own Mt
section
variable {P : Program} {w : World} {K : PySem.W.Frag} {mg : Str → Option Value} {base : Heap} {W : Tbs}
theorem ofHue_len (R : List Pr) (h : Nat) : (ofHue R h).length ≤ R.length := by
  unfold ofHue
  refine Nat.le_trans (List.length_filter_le _ _) ?_
  rw [(srt_perm _).length_eq, List.length_map]
  exact Nat.le_refl _
def spNumbers (K : PySem.W.Frag) (W : Tbs) (C : Addr) : Sp := fun vs H Q _ => ∃ (a d : Addr) (L Y n : Nat) (R : List Pr) (h : Nat), vs = [.ref a, .int (h : Nat)] ∧ HallOf K C H a d L Y n R ∧ R.length < 64 ∧ (R.map (·.n)).Nodup ∧
  ∀ b H', H b = none → Ext W H H' → H' b = some (.lst (vN (ofHue R h))) → Q (.ref b) H'
theorem ok_Hall_numbers_of (T : Txt K mg) : FnOk P w K mg base CX0 1 T.f_Hall_numbers_of T.d_Hall_numbers_of ["self", "hue"] (spNumbers K W T.C_Hall) := by
  refine T.D_Hall_numbers_of.F.ok sc_Hall_numbers_of (fun vs H Q E h => ?_) (fun cdv A outer s H vs Q E hr h => ?_)
  · obtain ⟨a, d, L, Y, n, R, h, rfl, _⟩ := h
    rfl
  · obtain ⟨a, d, L, Y, n, R, h, rfl, hH, few, N, q⟩ := h
    obtain ⟨dx, e, kvs, ha, he, hd, hE⟩ := hH.ex
    refine ⟨_, (pss_one (ps_ret (pe_lc rfl sc_Hall_numbers_of.nd (own := [("number", 2)]) (pi_list (pe_callB (sortD K rfl) (by rfl) T.z_sorted (by decide +kernel) (pa_cons (fldC K (pe_fld (pv 0) rfl)) pa_nil))) (blkOk_by (N := N_Hall_numbers_of) (sc := defScope s_Hall_numbers_of) (by decide +kernel)) (fun _ _ _ _ _ => (pg_name (i := 2) sc_Hall_numbers_of.nd rfl (.inl rfl))) (fun _ _ _ _ _ => (pts_one (pt_cmpR op_eq (pe_ix (ixT K) (pe_dget (hu_of hr) (fldC K (pe_fld (pv 0) rfl)) (pv 2) (fun _ _ => rfl)) (pe_gi rfl T.c_HUE) (fun _ _ => rfl)) (pv 1) (nomark _)))) (fun _ _ _ _ _ => (pv 2))))), ?_⟩
    refine ⟨_, rfl, a, T.C_Hall, dx, _, _, rfl, ha, T.cl_Hall, T.nA_rows, hf_rows _ _ _, d, kvs, _, rfl, .inl hd, keys_ints hE, by rw [List.length_map]; exact few, fun ys u hp hs nu => ?_⟩
    rw [sorted_is rfl hp hs]
    have eV : ((srtI R).map fun n : Nat => (n : Int)).map V.int = vN (srtI R) := (vN_ints _).symm
    rw [eV]
    refine newO W (H := H) (p := u) nu fun H1 x1 hu => ?_
    refine ⟨u, rfl, ⟨_, SqL.of hu⟩, fun D nD => lc_list (K := K) (a := u) (xs := vN (srtI R))
      (fun j H2 => Ext W H1 H2 ∧ H2 D = some (.lst (vN (((srtI R).take j).filter fun x => R.any fun p => decide (p.n = x) && decide (p.h = h))))) ⟨.new nD, upd_same⟩ (fun j H2 _ ⟨x, _⟩ => SqL.of (x.lst hu)) ?_ ?_⟩
    · rintro j y H2 hj ⟨x2, hD⟩
      obtain ⟨m, hm, rfl⟩ := vN_get hj
      obtain ⟨p, hp, ep, eo⟩ := srtI_in N (List.mem_of_getElem? hm)
      have x02 := x1.trans x2
      obtain ⟨b, hb, tb⟩ := (x02.deach hE).in N hp
      rw [ep] at hb
      refine ⟨rfl, ?_⟩
      refine ⟨_, rfl, a, T.C_Hall, dx, _, _, rfl, x02.ins ha, T.cl_Hall, T.nA_rows, hf_rows _ _ _, _, rfl, d, .ref b, rfl, ?_, ?_⟩
      · have := DGet.k (k := Sum.inl (m : Int)) (x02.dk hd)
        rw [hb] at this
        exact this
      refine ⟨b, _, _, _, rfl, rfl, tb, atI_nat (j := 2) rfl, _, rfl, rfl, _, rfl, ?_⟩
      have ea : (R.any fun p => decide (p.n = m) && decide (p.h = h)) = decide (p.h = h) := by
        rw [Bool.eq_iff_iff, List.any_eq_true, decide_eq_true_eq]
        constructor
        · rintro ⟨p', hp', e⟩
          simp only [Bool.and_eq_true, decide_eq_true_eq] at e
          rw [← n_inj N hp' hp (e.1.trans ep.symm)]
          exact e.2
        · exact fun e => ⟨p, hp, by simp [ep, e]⟩
      rw [take_one hm, List.filter_append, List.filter_cons, ea, List.filter_nil]
      by_cases c : p.h = h
      · rw [decide_eq_true (show V.int (p.h : Nat) = V.int (h : Nat) by rw [c]), decide_eq_true c]
        refine iteT ?_
        refine ⟨_, rfl, _, hD, ?_, x2.put (.inl nD) hD, ?_⟩
        · rw [List.length_map]
          refine small1000 ?_
          have h1 := List.length_filter_le (fun x => R.any fun p => decide (p.n = x) && decide (p.h = h)) ((srtI R).take j)
          have h2 := (List.getElem?_eq_some_iff.mp hm).1
          rw [srtI_len] at h2
          rw [List.length_take] at h1
          omega
        · rw [upd_same]
          unfold vN
          simp
      · rw [decide_eq_false (show ¬ V.int (p.h : Nat) = V.int (h : Nat) from fun z => c (by have := V.int.inj z; omega)), decide_eq_false c]
        refine iteF ⟨x2, ?_⟩
        simpa using hD
    · rintro H2 ⟨x2, hD⟩
      rw [show List.take (vN (srtI R)).length (srtI R) = srtI R from List.take_of_length_le (by rw [List.length_map]; exact Nat.le_refl _)] at hD
      exact q D H2 (x1.f _ nD) (x1.trans x2) hD
def spAnew (K : PySem.W.Frag) (W : Tbs) (C : Addr) : Sp := fun vs H Q _ => ∃ (a d : Addr) (L Y n : Nat) (R : List Pr) (p : Pr) (m : Nat), vs = [.ref a, .int (p.n : Nat), .int (m : Nat)] ∧ HallOf K C H a d L Y n R ∧ p ∈ R ∧ R.length ≤ 60 ∧ Proper R ∧ (R.map (·.n)).Nodup ∧ m ≤ 60 ∧
  free (Mt.drop R p.n) 0 p.l m ≠ [] ∧ free (Mt.drop R p.n) 1 p.r m ≠ [] ∧ (∀ p ∈ W.l, LamX.TabS H p.1 p.2) ∧
  ∀ b c H', H b = none → H c = none → Fx W [a, d] H H' → HallOf K C H' a d L Y n (place (Mt.drop R p.n) p.n p.l p.r m).2 → ToldAt K H' b c (place (Mt.drop R p.n) p.n p.l p.r m).1 → Q (.ref b) H'
theorem drop_len (R : List Pr) (x : Nat) : (Mt.drop R x).length ≤ R.length := List.length_filter_le _ _
theorem ok_Hall_place_anew (T : Txt K mg) (B : LamX.TabB base mg T.k_place T.p_place) (WO : Wok W T.p_place) : FnOk P w K mg base CX0 5 T.f_Hall_place_anew T.d_Hall_place_anew ["self", "number", "many"] (spAnew K W T.C_Hall) := by
  have ok_place : FnOk P w K mg base CX0 4 T.f_place T.d_place ["rows", "number", "left", "right", "many"] (spPlace K W) := ok_place T B WO
  refine T.D_Hall_place_anew.F.ok sc_Hall_place_anew (fun vs H Q E h => ?_) (fun cdv A outer s H vs Q E hr h => ?_)
  · obtain ⟨a, d, L, Y, n, R, p, m, rfl, _⟩ := h
    rfl
  · obtain ⟨a, d, L, Y, n, R, p, m, rfl, hH, hp, few, hP, hN, hm, f0, f1, tabs, q⟩ := h
    obtain ⟨dx, e, kvs, ha, he, hd, hE⟩ := hH.ex
    have nad : a ≠ d := hH.ne
    obtain ⟨t, hv, ht⟩ := hE.in hN hp
    refine ⟨_, (pss_cons (ps_asg (pe_dpop1 (fldC K (pe_fld (pv 0) rfl)) (pv 1) ⟨rfl, rfl, rfl, rfl⟩) (pg_tup rfl (pgs_cons (pg_name (i := 3) sc_Hall_place_anew.nd rfl (.inl rfl)) (pgs_cons (pg_name (i := 4) sc_Hall_place_anew.nd rfl (.inl rfl)) (pgs_cons (pg_name (i := 5) sc_Hall_place_anew.nd rfl (.inl rfl)) pgs_nil)))))
    (pss_one (ps_ret (pe_call ok_place (hr.mono (by decide)) rfl T.D_place.g T.D_place.F.kp T.D_place.b .nil pass0 (pa_cons (fldC K (pe_fld (pv 0) rfl)) (pa_cons (pv 1) (pa_cons (pv 3) (pa_cons (pv 4) (pa_cons (pv 2) pa_nil))))))))), ?_⟩
    refine ⟨_, rfl, a, T.C_Hall, dx, _, _, rfl, ha, T.cl_Hall, T.nA_rows, hf_rows _ _ _, d, rfl, .inl ⟨kvs, .inl hd⟩, _, rfl, kvs, Sum.inl (p.n : Int), .ref t, hd, rfl, hv, ?_⟩
    have z1 : Fx W [d] H (upd H d (.dK (dropK kvs (Sum.inl (p.n : Int))))) := Fx.refl.put (.inr (by simp)) hd
    have hd1 : (upd H d (.dK (dropK kvs (Sum.inl (p.n : Int))))) d = _ := upd_same
    revert z1 hd1
    generalize upd H d (.dK (dropK kvs (Sum.inl (p.n : Int)))) = H1
    intro z1 hd1
    have ha1 := z1.ins ha (by simpa using nad)
    have hE1 := (z1.deach hE).drop p.n
    refine ⟨t, _, rfl, z1.tup ht, rfl, _, _, rfl, _, _, rfl, _, _, rfl, rfl, ?_⟩
    have few' := drop_len R p.n
    refine ⟨_, rfl, a, T.C_Hall, dx, _, _, rfl, ha1, T.cl_Hall, T.nA_rows, hf_rows _ _ _, _, rfl, _, rfl, _, rfl, _, rfl, ?_⟩
    refine ⟨d, _, Mt.drop R p.n, p.n, p.l, p.r, m, rfl, hd1, hE1, by omega, hP.sub (fun q hq => (mem_drop.mp hq).1), drop_nodup hN _, drop_notin R _, hm, f0, f1, fun p hp => z1.l p hp (tabs p hp), fun b c kvs8 H8 nb nc x8 hd8 hE8 hT8 => ?_⟩
    have y8 : Fx W [a, d] H H8 := (z1.trans x8).wk fun x hx => by simp at hx ⊢; exact .inr hx
    exact q b c H8 (z1.f _ nb) (z1.f _ nc) y8 ⟨dx, e, kvs8, x8.ins ha1 (by simpa using nad), y8.tup he, hd8, hE8⟩ hT8
/-- a list of what is told: the tuples, their lists -/
def Tolds (K : PySem.W.Frag) (H : Hp) : List (Addr × Addr) → List Told → Prop := Paired fun ac t => ToldAt K H ac.1 ac.2 t
theorem told_fx {S : List Addr} {H H' : Hp} {a c : Addr} {t : Told} (x : Fx W S H H') (h : ToldAt K H a c t) (hc : c ∉ S := by simp) : ToldAt K H' a c t := ⟨x.tp h.1, x.lst h.2 hc⟩
theorem goL_len {m : Nat} : ∀ (xs : List Nat) (R : List Pr), (goL m R xs).1.length ≤ xs.length
  | [], R => Nat.zero_le _
  | x :: xs, R => by
    rw [goL]
    split
    · exact Nat.zero_le _
    · exact Nat.succ_le_succ (goL_len xs _)
def spGo (K : PySem.W.Frag) (W : Tbs) (C EN : Addr) : Sp := fun vs H Q E => ∃ (a d : Addr) (L Y n : Nat) (R : List Pr) (v : V) (t : String), vs = [.ref a, v] ∧ HallOf K C H a d L Y n R ∧ Good R ∧ R.length ≤ 50 ∧ (∀ p ∈ W.l, LamX.TabS H p.1 p.2) ∧ TyB K H v t ∧
  (∀ p ∈ R, v = .int (p.n : Nat) → ∀ b acs H', H b = none → (∀ ac ∈ acs, H ac.2 = none ∧ ac.2 ≠ b) → Fx W [a, d] H H' → HallOf K C H' a d L Y n (go R p.n).2 → H' b = some (.lst (acs.map fun ac => V.ref ac.1)) → Tolds K H' acs (go R p.n).1 → Q (.ref b) H') ∧
  ((∀ p ∈ R, v ≠ .int (p.n : Nat)) → E (.ref EN) none H)
theorem ok_Hall_go (T : Txt K mg) (B : LamX.TabB base mg T.k_place T.p_place) (WO : Wok W T.p_place) : FnOk P w K mg base (L2.CX P w) 6 T.f_Hall_go T.d_Hall_go ["self", "number"] (spGo K W T.C_Hall T.E_NoPair) := by
  have ok_Hall_check_number : FnOk P w K mg base (L2.CX P w) 2 T.f_Hall_check_number T.d_Hall_check_number ["self", "number"] (spCheckNumber K T.C_Hall T.E_NoPair) := ok_Hall_check_number T
  have ok_Hall_count : FnOk P w K mg base CX0 3 T.f_Hall_count T.d_Hall_count ["self"] (spCount0 K W T.C_Hall) := ok_Hall_count T
  have ok_Hall_numbers_of : FnOk P w K mg base CX0 1 T.f_Hall_numbers_of T.d_Hall_numbers_of ["self", "hue"] (spNumbers K W T.C_Hall) := ok_Hall_numbers_of T
  have ok_Hall_place_anew : FnOk P w K mg base CX0 5 T.f_Hall_place_anew T.d_Hall_place_anew ["self", "number", "many"] (spAnew K W T.C_Hall) := ok_Hall_place_anew T B WO
  refine T.D_Hall_go.F.okX sc_Hall_go (fun vs H Q E h => ?_) (fun cdv A outer s H vs Q E hr h => ?_)
  · obtain ⟨a, d, L, Y, n, R, v, t, rfl, _⟩ := h
    rfl
  · obtain ⟨a, d, L, Y, n, R, v, t, rfl, hH, G, few, tabs, ht, q, qe⟩ := h
    obtain ⟨dx, e, kvs, ha, he, hd, hE⟩ := hH.ex
    have nad : a ≠ d := hH.ne
    have no1 : ∀ e d n, (hf e d n).lookup ("_check_number" : Str) = none := fun e d n => hf_no _ _ _ (by decide +kernel) (by decide +kernel) (by decide +kernel)
    have no2 : ∀ e d n, (hf e d n).lookup ("count" : Str) = none := fun e d n => hf_no _ _ _ (by decide +kernel) (by decide +kernel) (by decide +kernel)
    have no3 : ∀ e d n, (hf e d n).lookup ("_numbers_of" : Str) = none := fun e d n => hf_no _ _ _ (by decide +kernel) (by decide +kernel) (by decide +kernel)
    have no4 : ∀ e d n, (hf e d n).lookup ("_place_anew" : Str) = none := fun e d n => hf_no _ _ _ (by decide +kernel) (by decide +kernel) (by decide +kernel)
    refine ⟨_, (pss_cons (ps_expr (pe_meth (pv 0) T.cl_Hall T.D_Hall_check_number.m ok_Hall_check_number (hr.mono (by decide)) T.D_Hall_check_number.b .nil (passes_call (takes_of rfl rfl rfl rfl) (fun _ _ _ _ h => h)) (pa_cons (pv 1) pa_nil)))
    (pss_cons (ps_set (i := 2) sc_Hall_go.nd rfl (.inl rfl) (pe_meth0 (pv 0) T.cl_Hall T.D_Hall_count.m ok_Hall_count (hr.mono (by decide)) T.D_Hall_count.b .nil pass0))
    (pss_cons (ps_ddel (fldC K (pe_fld (pv 0) rfl)) (pv 1))
    (pss_cons (ps_set (i := 3) sc_Hall_go.nd rfl (.inl rfl) (pe_meth0 (pv 0) T.cl_Hall T.D_Hall_count.m ok_Hall_count (hr.mono (by decide)) T.D_Hall_count.b .nil pass0))
    (pss_cons (ps_if (pt_cmpR op_eq (pv 3) (pv 2) (nomark _)) 
      (pss_one (ps_ret (pe_lst pa_nil))) pss_nil)
    (pss_cons (ps_set (i := 4) sc_Hall_go.nd rfl (.inl rfl) (pe_lst pa_nil))
    (pss_cons (ps_for (passes_of rfl) rfl (pi_list (pe_meth (pv 0) T.cl_Hall T.D_Hall_numbers_of.m ok_Hall_numbers_of (hr.mono (by decide)) T.D_Hall_numbers_of.b .nil pass0 (pa_cons (pv 3) pa_nil))) (pg_name (i := 5) sc_Hall_go.nd rfl (.inl rfl)) 
      (pss_one (ps_expr (bmC K (pe_bm PySem.F.plainAttrs_list PySem.F.slot_list_append PySem.F.type_list_append mt_append (pv 4) (pa_cons (pe_meth (pv 0) T.cl_Hall T.D_Hall_place_anew.m ok_Hall_place_anew (hr.mono (by decide)) T.D_Hall_place_anew.b .nil pass0 (pa_cons (pv 5) (pa_cons (pv 3) pa_nil))) pa_nil))))))
    (pss_one (ps_ret (pv 4)))))))))), ?_⟩
    refine ⟨_, rfl, a, dx, _, rfl, ha, no1 _ _ _, _, rfl, a, d, L, Y, n, R, v, t, rfl, hH, ht, fun p hp ev => ?_, qe⟩
    subst ev
    have hx : p.n ∈ R.map (·.n) := List.mem_map.mpr ⟨p, hp, rfl⟩
    have q := q p hp rfl
    -- before = self.count()
    refine ⟨_, rfl, a, dx, _, rfl, ha, no2 _ _ _, a, d, L, Y, n, R, rfl, hH, by omega, fun H1 x1 => ?_⟩
    have ha1 := x1.ins ha
    have hd1 := x1.dk hd
    have hE1 := x1.deach hE
    obtain ⟨tt, hv, _⟩ := hE1.in G.N hp
    -- del self._rows[number]
    refine ⟨_, rfl, a, T.C_Hall, dx, _, _, rfl, ha1, T.cl_Hall, T.nA_rows, hf_rows _ _ _, _, rfl, d, kvs, Sum.inl (p.n : Int), rfl, hd1, rfl, by rw [hv]; rfl, ?_⟩
    have z2 : Fx W [d] H1 (upd H1 d (.dK (dropK kvs (Sum.inl (p.n : Int))))) := Fx.refl.put (.inr (by simp)) hd1
    have hd2 : (upd H1 d (.dK (dropK kvs (Sum.inl (p.n : Int))))) d = _ := upd_same
    revert z2 hd2
    generalize upd H1 d (.dK (dropK kvs (Sum.inl (p.n : Int)))) = H2
    intro z2 hd2
    have y2 : Fx W [a, d] H H2 := x1.up.trans (z2.wk fun x hx => by simp at hx ⊢; exact .inr hx)
    have ha2 := z2.ins ha1 (by simpa using nad)
    have hH2 : HallOf K T.C_Hall H2 a d L Y n (Mt.drop R p.n) := ⟨dx, e, _, ha2, y2.tup he, hd2, (z2.deach hE1).drop p.n⟩
    have few' := drop_len R p.n
    -- many = self.count()
    refine ⟨_, rfl, a, dx, _, rfl, ha2, no2 _ _ _, a, d, L, Y, n, Mt.drop R p.n, rfl, hH2, by omega, fun H3 x3 => ?_⟩
    have y3 : Fx W [a, d] H H3 := y2.trans x3.up
    have hH3 := hH2.ext x3
    refine ⟨_, rfl, _, rfl, rfl, _, rfl, ?_⟩
    by_cases c : cnt (Mt.drop R p.n) = cnt R
    · have eg : go R p.n = ([], Mt.drop R p.n) := by
        unfold go
        rw [if_pos c]
      rw [eg] at q
      rw [decide_eq_true (show V.int (cnt (Mt.drop R p.n) : Nat) = V.int (cnt R : Nat) by rw [c])]
      refine iteT ⟨by show 0 ≤ sizeLine; decide, fun b nb => ?_⟩
      refine newO W (H := H3) (p := b) nb fun H4 x4 hb => ?_
      exact q b [] H4 (y3.f _ nb) (fun ac hac => absurd hac (by simp)) (y3.trans x4.up) (hH3.ext x4) hb .nil
    · have eg : go R p.n = goL (cnt (Mt.drop R p.n)) (Mt.drop R p.n) (ofHue (Mt.drop R p.n) (cnt (Mt.drop R p.n))) := by
        unfold go
        rw [if_neg c]
      rw [eg] at q
      have st := go_start G hx c
      have lx := ofHue_len (Mt.drop R p.n) (cnt (Mt.drop R p.n))
      have cm := cnt_le (Mt.drop R p.n)
      rw [decide_eq_false (show ¬ V.int (cnt (Mt.drop R p.n) : Nat) = V.int (cnt R : Nat) from fun z => c (by have := V.int.inj z; omega))]
      generalize exs : ofHue (Mt.drop R p.n) (cnt (Mt.drop R p.n)) = xs at *
      generalize cnt (Mt.drop R p.n) = m at *
      generalize Mt.drop R p.n = R0 at *
      refine iteF ?_
      -- told = []
      refine ⟨by show 0 ≤ sizeLine; decide, fun b nb => ?_⟩
      refine newO W (H := H3) (p := b) nb fun H4 x4 hb => ?_
      have y4 := y3.trans x4.up
      have hH4 := hH3.ext x4
      obtain ⟨dx4, e4, kvs4, ha4, _⟩ := hH4.ex
      -- for left_over in self._numbers_of(many)
      refine ⟨_, rfl, a, dx4, _, rfl, ha4, no3 _ _ _, _, rfl, a, d, L, Y, n, R0, m, rfl, hH4, by omega, st.N, fun u H5 nu x5 hu => ?_⟩
      rw [exs] at hu
      have y5 := y4.trans x5.up
      have nbu : b ≠ u := ne_of_none hb nu
      have nHb : H b = none := y3.f _ nb
      have nbad : b ∉ [a, d] := by
        have h1 := ne_of_none ha nHb
        have h2 := ne_of_none hd nHb
        simp only [List.mem_cons, List.not_mem_nil, or_false, not_or]
        exact ⟨h1.symm, h2.symm⟩
      have nuad : u ∉ [a, d] := by
        have nHu : H u = none := y4.f _ nu
        have h1 := ne_of_none ha nHu
        have h2 := ne_of_none hd nHu
        simp only [List.mem_cons, List.not_mem_nil, or_false, not_or]
        exact ⟨h1.symm, h2.symm⟩
      refine ⟨u, rfl, ⟨_, SqL.of hu⟩, for_list (K := K) (a := u) (xs := vN xs) (fun i σ H6 => ∃ (v5 : Option V) (R6 : List Pr) (acs : List (Addr × Addr)) (ts : List Told),
        σ = [some (.ref a), some (.int (p.n : Nat)), some (.int (cnt R : Nat)), some (.int (m : Nat)), some (.ref b), v5] ∧
        Fx W [a, d, b] H5 H6 ∧ HallOf K T.C_Hall H6 a d L Y n R6 ∧ R6.length = R0.length ∧ Going m R6 (xs.drop i) ∧ goL m R0 xs = (ts ++ (goL m R6 (xs.drop i)).1, (goL m R6 (xs.drop i)).2) ∧
        H6 b = some (.lst (acs.map fun ac => V.ref ac.1)) ∧ (∀ ac ∈ acs, H ac.2 = none ∧ ac.2 ≠ b) ∧ Tolds K H6 acs ts ∧ acs.length ≤ i)
        ⟨none, R0, [], [], rfl, .refl, hH4.ext x5, rfl, by simpa using st, by simp, by rw [x5.lst hb]; rfl, fun ac hac => absurd hac (by simp), .nil, Nat.le_refl _⟩
        (fun i σ H6 _ ⟨_, _, _, _, _, x, _⟩ => SqL.of (x.lst hu (by simp only [List.mem_cons, List.not_mem_nil, or_false, not_or] at nuad ⊢; exact ⟨nuad.1, nuad.2, nbu.symm⟩))) ?_ ?_⟩
      · rintro i y σ H6 hi ⟨v5, R6, acs, ts, rfl, x6, hH6, l6, G6, e6, hb6, n6, t6, k6⟩
        obtain ⟨x, hxi, rfl⟩ := vN_get hi
        have ix := (List.getElem?_eq_some_iff.mp hxi).1
        have ed : xs.drop i = x :: xs.drop (i + 1) := by
          rw [List.drop_eq_getElem_cons ix]
          congr 1
          exact (List.getElem?_eq_some_iff.mp hxi).2
        rw [ed] at G6 e6
        obtain ⟨pr, hpr, epr, hmr, ho, f0, f1⟩ := G6.pair
        rw [goL_cons ho] at e6
        have G7 := G6.next hpr epr hmr f0 f1
        subst epr
        obtain ⟨dx6, e6', kvs6, ha6, _⟩ := hH6.ex
        have xH6 : Fx W [a, d, b] H H6 := (y5.wk fun z hz => List.mem_append_left [b] hz).trans x6
        refine ⟨_, rfl, .inl ⟨rfl, _, SqL.of hb6⟩, ?_⟩
        refine ⟨_, rfl, a, dx6, _, rfl, ha6, no4 _ _ _, _, rfl, _, rfl, a, d, L, Y, n, R6, pr, m, rfl, hH6, hpr, by omega, G6.P, G6.N, by omega, f0, f1, fun p hp => xH6.l p hp (tabs p hp), fun b7 c7 H7 nb7 nc7 x7 hH7 t7 => ?_⟩
        have hb7 := x7.lst hb6 nbad
        refine ⟨b, _, _, rfl, rfl, hb7, ?_, ?_⟩
        · rw [List.length_map]
          refine small1000 ?_
          omega
        have z8 : Fx W [b] H7 (upd H7 b (.lst (acs.map (fun ac => V.ref ac.1) ++ [.ref b7]))) := Fx.refl.put (.inr (by simp)) hb7
        have x8 : Fx W [a, d, b] H5 (upd H7 b (.lst (acs.map (fun ac => V.ref ac.1) ++ [.ref b7]))) := x6.trans ((x7.wk fun z hz => List.mem_append_left [b] hz).trans (z8.wk fun z hz => List.mem_append_right [a, d] hz))
        have nc7b : c7 ≠ b := (ne_of_none hb6 nc7).symm
        refine ⟨_, _, acs ++ [(b7, c7)], ts ++ [(place (Mt.drop R6 pr.n) pr.n pr.l pr.r m).1], rfl, x8, hH7.ext z8 (by simp only [List.mem_singleton]; simp only [List.mem_cons, not_or] at nbad; exact fun z => nbad.1 z.symm) (by simp only [List.mem_singleton]; simp only [List.mem_cons, not_or] at nbad; exact fun z => nbad.2.1 z.symm), ?_, G7, ?_, ?_, ?_, ?_, ?_⟩
        · rw [place_len, ← l6]
          have h2 := (drop_perm G6.N hpr).length_eq
          rw [List.length_append, List.length_singleton] at h2
          omega
        · rw [e6, List.append_assoc]
          rfl
        · rw [upd_same, List.map_append]
          rfl
        · intro ac hac
          rcases List.mem_append.mp hac with z | z
          · exact n6 ac z
          · rw [List.mem_singleton.mp z]
            exact ⟨xH6.f _ nc7, nc7b⟩
        · refine papp ?_ (.cons (told_fx z8 t7 (by simpa using nc7b)) .nil)
          have keep : ∀ (as' : List (Addr × Addr)) (ts' : List Told) (ys : List V), Tolds K H6 as' ts' → (∀ ac ∈ as', H ac.2 = none ∧ ac.2 ≠ b) → Tolds K (upd H7 b (.lst ys)) as' ts' := by
            intro as' ts' ys h
            induction h with
            | nil => exact fun _ => .nil
            | @cons ac t _ _ h1 _ ih =>
              intro hn
              obtain ⟨n1, n2⟩ := hn ac List.mem_cons_self
              have m1 := ne_of_none ha n1
              have m2 := ne_of_none hd n1
              have z8' : Fx W [b] H7 (upd H7 b (.lst ys)) := Fx.refl.put (.inr (by simp)) hb7
              refine .cons (told_fx z8' (told_fx x7 h1 ?_) (by simpa using n2)) (ih fun ac hac => hn ac (List.mem_cons_of_mem _ hac))
              simp only [List.mem_cons, List.not_mem_nil, or_false, not_or]
              exact ⟨m1.symm, m2.symm⟩
          exact keep acs ts _ t6 n6
        · rw [List.length_append, List.length_singleton]
          omega
      · rintro σ H6 ⟨v5, R6, acs, ts, rfl, x6, hH6, l6, G6, e6, hb6, n6, t6, k6⟩
        rw [show (vN xs).length = xs.length from List.length_map _, List.drop_length] at e6 G6
        rw [e6] at q
        simp only [goL, List.append_nil] at q
        have x06 : Fx W [a, d] H H6 := by
          have h1 : Fx W [a, d, b] H H6 := (y5.wk fun z hz => List.mem_append_left [b] hz).trans x6
          refine ⟨fun c o hc eo n => h1.o c o (fun z => ?_) eo n, h1.u, h1.g, h1.l, h1.f⟩
          simp only [List.mem_cons, List.not_mem_nil, or_false, not_or] at hc z
          rcases z with z | z | z
          · exact hc.1 z
          · exact hc.2 z
          · rw [z, nHb] at eo
            cases eo
        exact ⟨_, rfl, q b acs H6 nHb n6 x06 hH6 hb6 t6⟩
end
end My

set_option Elab.async false
set_option linter.all false
set_option maxRecDepth 100000
set_option maxHeartbeats 4000000
namespace My
open PySem PySem.Spec PyProof.Rows L2 Own Mt
section
variable {P : Program} {w : World} {K : PySem.W.Frag} {mg : Str → Option Value} {base : Heap} {W : Tbs}
def spHueOf (K : PySem.W.Frag) (C EN : Addr) : Sp := fun vs H Q E => ∃ (a d : Addr) (L Y n : Nat) (R : List Pr) (v : V) (t : String), vs = [.ref a, v] ∧ HallOf K C H a d L Y n R ∧ (R.map (·.n)).Nodup ∧ TyB K H v t ∧
  (∀ p ∈ R, v = .int (p.n : Nat) → Q (.int (p.h : Nat)) H) ∧ ((∀ p ∈ R, v ≠ .int (p.n : Nat)) → E (.ref EN) none H)
theorem ok_Hall_hue_of (T : Txt K mg) : FnOk P w K mg base (L2.CX P w) 3 T.f_Hall_hue_of T.d_Hall_hue_of ["self", "number"] (spHueOf K T.C_Hall T.E_NoPair) := by
  have ok_Hall_check_number : FnOk P w K mg base (L2.CX P w) 2 T.f_Hall_check_number T.d_Hall_check_number ["self", "number"] (spCheckNumber K T.C_Hall T.E_NoPair) := ok_Hall_check_number T
  refine T.D_Hall_hue_of.F.okX sc_Hall_hue_of (fun vs H Q E h => ?_) (fun cdv A outer s H vs Q E hr h => ?_)
  · obtain ⟨a, d, L, Y, n, R, v, t, rfl, _⟩ := h
    rfl
  · obtain ⟨a, d, L, Y, n, R, v, t, rfl, hH, N, ht, q, qe⟩ := h
    obtain ⟨dx, e, kvs, ha, he, hd, hE⟩ := hH.ex
    have no : (hf e d (n : Int)).lookup ("_check_number" : Str) = none := hf_no _ _ _ (by decide +kernel) (by decide +kernel) (by decide +kernel)
    refine ⟨_, (pss_cons (ps_expr (pe_meth (pv 0) T.cl_Hall T.D_Hall_check_number.m ok_Hall_check_number (hr.mono (by decide)) T.D_Hall_check_number.b .nil (passes_call (takes_of rfl rfl rfl rfl) (fun _ _ _ _ h => h)) (pa_cons (pv 1) pa_nil)))
    (pss_one (ps_ret (pe_ix (ixT K) (pe_dget (hu_of hr) (fldC K (pe_fld (pv 0) rfl)) (pv 1) (fun _ _ => rfl)) (pe_gi rfl T.c_HUE) (fun _ _ => rfl))))), ?_⟩
    refine ⟨_, rfl, a, dx, _, rfl, ha, no, _, rfl, a, d, L, Y, n, R, v, t, rfl, hH, ht, fun p hp ev => ?_, qe⟩
    obtain ⟨b, hb, tb⟩ := hE.in N hp
    subst ev
    refine ⟨_, rfl, a, T.C_Hall, dx, _, _, rfl, ha, T.cl_Hall, T.nA_rows, hf_rows _ _ _, _, rfl, d, .ref b, rfl, ?_, b, _, _, _, rfl, rfl, tb, atI_nat (j := 2) rfl, q p hp rfl⟩
    have := DGet.k (k := Sum.inl (p.n : Int)) hd
    rw [hb] at this
    exact this
end
end My

set_option Elab.async false
set_option linter.all false
set_option maxRecDepth 100000
set_option maxHeartbeats 4000000
namespace My
open PySem PySem.Spec PyProof.Rows L2 Own Mt
/-- the side that a word names -/
def wSide (v : V) : Option Nat := match v with
  | .str s => if s = "left" then some 0 else if s = "right" then some 1 else none
  | _ => none
section
variable {P : Program} {w : World} {K : PySem.W.Frag} {mg : Str → Option Value} {base : Heap} {W : Tbs}
def spSide (K : PySem.W.Frag) (W : Tbs) (ES : Addr) : Sp := fun vs H Q E => ∃ (v : V) (t : String), vs = [v] ∧ TyB K H v t ∧ (∀ s : Nat, wSide v = some s → ∀ H', Ext W H H' → Q (.int (s : Nat)) H') ∧ (wSide v = none → ∀ H', Ext W H H' → E (.ref ES) none H')
theorem ok_side_of (T : Txt K mg) : FnOk P w K mg base (L2.CX P w) 1 T.f_side_of T.d_side_of ["word"] (spSide K W T.E_BadSide) := by
  refine T.D_side_of.F.okX sc_side_of (fun vs H Q E h => ?_) (fun cdv A outer s H vs Q E hr h => ?_)
  · obtain ⟨v, t, rfl, _⟩ := h
    rfl
  · obtain ⟨v, t, rfl, ht, q, qe⟩ := h
    refine ⟨_, (pss_cons (ps_if (PW.pt (pw_or (pt_cmpR op_neTy (pe_callTy (typ1 K) (by rfl) T.z_type (by decide +kernel) (pa_cons (pv 0) pa_nil)) (pe_bltn (v := .ty "str") (by rfl) T.z_str (by decide +kernel) rfl) (nomark _)) (pw_or1 (pt_cmpR (ninS K) (pv 0) (pe_tup (pa_cons pe_str (pa_cons pe_str pa_nil))) (by rfl))))) 
      (pss_one (ps_raise rfl (takes_of rfl rfl rfl rfl) (pmk_own PySem.F.excBase_ValueError T.x_BadSide.x T.x_BadSide.g T.x_BadSide.k (raises_own T.x_BadSide.b T.x_BadSide.t) rfl))) pss_nil)
    (pss_one (ps_ret (pe_ifExp (pt_cmpR op_eq (pv 0) pe_str (nomark _)) (pe_gi rfl T.c_LEFT) (pe_gi rfl T.c_RIGHT))))), ?_⟩
    refine ⟨_, rfl, v, t, rfl, ht, ?_⟩
    refine ⟨t, "str", rfl, rfl, Own.TyB.name ht, by decide, _, rfl, ?_⟩
    by_cases et : t = "str"
    · cases ht with
      | str x =>
        rw [decide_eq_true et]
        refine iteF ?_
        refine ⟨_, rfl, by show 2 ≤ sizeLine; decide, fun p np => ?_⟩
        refine newO W (H := H) (p := p) np fun H1 x1 hp => ?_
        refine ⟨p, _, rfl, .inr (SqT.of hp), rfl, rfl, _, rfl, ?_⟩
        have lr : ¬ ("right" : Str) = "left" := by decide +kernel
        by_cases e1 : x = "left"
        · rw [if_pos rfl, show inV (.str x) [V.str "left", .str "right"] = true by
            rw [e1]
            unfold inV
            rw [List.any_eq_true]
            exact ⟨V.str "left", List.mem_cons_self, show (("left" : Str) == "left") = true from beq_self_eq_true _⟩]
          refine iteF ?_
          refine ⟨_, rfl, rfl, _, rfl, ?_⟩
          rw [decide_eq_true (show V.str x = V.str "left" by rw [e1])]
          refine iteT (q 0 ?_ H1 x1)
          show (if x = "left" then some 0 else _) = _
          rw [if_pos e1]
        · by_cases e2 : x = "right"
          · rw [if_pos rfl, show inV (.str x) [V.str "left", .str "right"] = true by
              rw [e2]
              unfold inV
              rw [List.any_eq_true]
              exact ⟨V.str "right", List.mem_cons_of_mem _ List.mem_cons_self, show (("right" : Str) == "right") = true from beq_self_eq_true _⟩]
            refine iteF ?_
            refine ⟨_, rfl, rfl, _, rfl, ?_⟩
            rw [decide_eq_false (show ¬ V.str x = V.str "left" from fun z => e1 (V.str.inj z))]
            refine iteF (q 1 ?_ H1 x1)
            show (if x = "left" then some 0 else if x = "right" then some 1 else none) = _
            rw [if_neg e1, if_pos e2]
          · rw [if_pos rfl, show inV (.str x) [V.str "left", .str "right"] = false by
              show (eqV (V.str "left") (V.str x) || (eqV (V.str "right") (V.str x) || false)) = false
              rw [show eqV (V.str "left") (V.str x) = false from beq_eq_false_iff_ne.mpr (fun z => e1 z.symm), show eqV (V.str "right") (V.str x) = false from beq_eq_false_iff_ne.mpr (fun z => e2 z.symm)]
              rfl]
            refine iteT (qe ?_ H1 x1)
            show (if x = "left" then some 0 else if x = "right" then some 1 else none) = _
            rw [if_neg e1, if_neg e2]
      | _ => exact absurd et (by decide)
    · rw [decide_eq_false et]
      refine iteT (iteT (qe ?_ H .refl))
      cases ht with
      | str x => exact absurd rfl et
      | _ => rfl
def spHue (K : PySem.W.Frag) (W : Tbs) (C EH : Addr) : Sp := fun vs H Q E => ∃ (a d : Addr) (L Y n : Nat) (R : List Pr) (v : V) (t : String), vs = [.ref a, v] ∧ HallOf K C H a d L Y n R ∧ R.length ≤ 100 ∧ TyB K H v t ∧
  (isIn v 0 ((cnt R : Nat) - 1) = true → ∀ H', Ext W H H' → Q .non H') ∧ (isIn v 0 ((cnt R : Nat) - 1) = false → ∀ H', Ext W H H' → E (.ref EH) none H')
theorem ok_Hall_check_hue (T : Txt K mg) : FnOk P w K mg base (L2.CX P w) 4 T.f_Hall_check_hue T.d_Hall_check_hue ["self", "hue"] (spHue K W T.C_Hall T.E_BadHue) := by
  have ok_is_within : FnOk P w K mg base CX0 2 T.f_is_within T.d_is_within ["worth", "low", "high"] (spWithin K) := ok_is_within T
  have ok_Hall_count : FnOk P w K mg base CX0 3 T.f_Hall_count T.d_Hall_count ["self"] (spCount0 K W T.C_Hall) := ok_Hall_count T
  refine T.D_Hall_check_hue.F.okX sc_Hall_check_hue (fun vs H Q E h => ?_) (fun cdv A outer s H vs Q E hr h => ?_)
  · obtain ⟨a, d, L, Y, n, R, v, t, rfl, _⟩ := h
    rfl
  · obtain ⟨a, d, L, Y, n, R, v, t, rfl, hH, few, ht, q, qe⟩ := h
    obtain ⟨dx, e, kvs, ha, he, hd, hE⟩ := hH.ex
    have no : (hf e d (n : Int)).lookup ("count" : Str) = none := hf_no _ _ _ (by decide +kernel) (by decide +kernel) (by decide +kernel)
    refine ⟨_, (pss_one (ps_if (pt_not (pt_val (pe_call ok_is_within (hr.mono (by decide)) rfl T.D_is_within.g T.D_is_within.F.kp T.D_is_within.b .nil pass0 (pa_cons (pv 1) (pa_cons pe_int (pa_cons (pe_op op_sub (pe_meth0 (pv 0) T.cl_Hall T.D_Hall_count.m ok_Hall_count (hr.mono (by decide)) T.D_Hall_count.b .nil pass0) pe_int) pa_nil)))))) 
      (pss_one (ps_raise rfl (takes_of rfl rfl rfl rfl) (pmk_own PySem.F.excBase_ValueError T.x_BadHue.x T.x_BadHue.g T.x_BadHue.k (raises_own T.x_BadHue.b T.x_BadHue.t) rfl))) pss_nil)), ?_⟩
    refine ⟨_, rfl, _, rfl, a, dx, _, rfl, ha, no, a, d, L, Y, n, R, rfl, hH, few, fun H1 x1 => ?_⟩
    have ht1 : TyB K H1 v t := by
      cases ht with
      | non => exact .non
      | bl b => exact .bl b
      | int i => exact .int i
      | str x => exact .str x
      | byt b => exact .byt b
      | lst h => exact .lst (x1.seq h)
      | tup h => exact .tup (x1.tup h)
      | dK h => exact .dK (x1.dk h)
    refine ⟨_, _, rfl, rfl, v, t, _, _, rfl, ht1, _, rfl, ?_⟩
    cases c : isIn v 0 ((cnt R : Nat) - 1) with
    | true => exact iteF (q c _ x1)
    | false => exact iteT (qe c _ x1)
end
end My

set_option Elab.async false
set_option linter.all false
set_option maxRecDepth 100000
set_option maxHeartbeats 4000000
namespace My
open PySem PySem.Spec PyProof.Rows L2 Own Mt
theorem wSide_lt {v : V} {s : Nat} (h : wSide v = some s) : s < 2 := by
  cases v with
  | str x =>
    have h : (if x = "left" then some 0 else if x = "right" then some 1 else none) = some s := h
    split at h
    · cases h
      decide
    · split at h
      · cases h
        decide
      · cases h
  | _ => cases h
section
variable {P : Program} {w : World} {K : PySem.W.Frag} {mg : Str → Option Value} {base : Heap} {W : Tbs}
theorem TyB.ext {H H' : Hp} {v : V} {t : String} (x1 : Ext W H H') (ht : TyB K H v t) : TyB K H' v t := by
  cases ht with
  | non => exact .non
  | bl b => exact .bl b
  | int i => exact .int i
  | str x => exact .str x
  | byt b => exact .byt b
  | lst h => exact .lst (x1.seq h)
  | tup h => exact .tup (x1.tup h)
  | dK h => exact .dK (x1.dk h)
def spHChain (K : PySem.W.Frag) (W : Tbs) (C ES EB EH EN : Addr) : Sp := fun vs H Q E => ∃ (a d : Addr) (L Y n : Nat) (R : List Pr) (v0 v1 v2 v3 : V) (t0 t1 t2 t3 : String), vs = [.ref a, v0, v1, v2, v3] ∧ HallOf K C H a d L Y n R ∧ Good R ∧ R.length ≤ 50 ∧
  TyB K H v0 t0 ∧ TyB K H v1 t1 ∧ TyB K H v2 t2 ∧ TyB K H v3 t3 ∧
  (wSide v0 = none → ∀ H', Ext W H H' → E (.ref ES) none H') ∧
  (∀ s, wSide v0 = some s → isIn v1 0 ((sideOf L Y s : Nat) - 1) = false → ∀ H', Ext W H H' → E (.ref EB) none H') ∧
  (∀ s, wSide v0 = some s → isIn v1 0 ((sideOf L Y s : Nat) - 1) = true → (isIn v2 0 ((cnt R : Nat) - 1) && isIn v3 0 ((cnt R : Nat) - 1)) = false ∨ v2 = v3 → ∀ H', Ext W H H' → E (.ref EH) none H') ∧
  (∀ s e one other : Nat, wSide v0 = some s → v1 = .int (e : Nat) → v2 = .int (one : Nat) → v3 = .int (other : Nat) → e < sideOf L Y s → one < cnt R → other < cnt R → one ≠ other →
    (at_ R s e one ≠ none → ∀ H', Ext W H H' → E (.ref EN) none H') ∧
    (at_ R s e one = none → ∀ l H', H l = none → Ext W H H' → H' l = some (.lst (vN ((chain R s e one other).map (·.n)))) → Q (.ref l) H'))
theorem ok_Hall_chain (T : Txt K mg) : FnOk P w K mg base (L2.CX P w) 5 T.f_Hall_chain T.d_Hall_chain ["self", "side", "end", "one", "other"] (spHChain K W T.C_Hall T.E_BadSide T.E_BadEnd T.E_BadHue T.E_NotFree) := by
  have ok_side_of : FnOk P w K mg base (L2.CX P w) 1 T.f_side_of T.d_side_of ["word"] (spSide K W T.E_BadSide) := ok_side_of T
  have ok_Hall_check_end : FnOk P w K mg base (L2.CX P w) 3 T.f_Hall_check_end T.d_Hall_check_end ["self", "side", "end"] (spCheckEnd K T.C_Hall T.E_BadEnd) := ok_Hall_check_end T
  have ok_Hall_check_hue : FnOk P w K mg base (L2.CX P w) 4 T.f_Hall_check_hue T.d_Hall_check_hue ["self", "hue"] (spHue K W T.C_Hall T.E_BadHue) := ok_Hall_check_hue T
  have ok_table_of : FnOk P w K mg base CX0 1 T.f_table_of T.d_table_of ["rows"] (spTable K W) := ok_table_of T
  have ok_chain_at : FnOk P w K mg base CX0 2 T.f_chain_at T.d_chain_at ["table", "side", "end", "one", "other"] (spChain K W) := ok_chain_at T
  refine T.D_Hall_chain.F.okX sc_Hall_chain (fun vs H Q E h => ?_) (fun cdv A outer s H vs Q E hr h => ?_)
  · obtain ⟨a, d, L, Y, n, R, v0, v1, v2, v3, t0, t1, t2, t3, rfl, _⟩ := h
    rfl
  · obtain ⟨a, d, L, Y, n, R, v0, v1, v2, v3, t0, t1, t2, t3, rfl, hH, G, few, h0, h1, h2, h3, qs, qb, qh, qq⟩ := h
    refine ⟨_, (pss_cons (ps_set (i := 5) sc_Hall_chain.nd rfl (.inl rfl) (pe_call ok_side_of (hr.mono (by decide)) rfl T.D_side_of.g T.D_side_of.F.kp T.D_side_of.b .nil (passes_call (takes_of rfl rfl rfl rfl) (fun _ _ _ _ h => h)) (pa_cons (pv 1) pa_nil)))
    (pss_cons (ps_expr (pe_meth (pv 0) T.cl_Hall T.D_Hall_check_end.m ok_Hall_check_end (hr.mono (by decide)) T.D_Hall_check_end.b .nil (passes_call (takes_of rfl rfl rfl rfl) (fun _ _ _ _ h => h)) (pa_cons (pv 5) (pa_cons (pv 2) pa_nil))))
    (pss_cons (ps_expr (pe_meth (pv 0) T.cl_Hall T.D_Hall_check_hue.m ok_Hall_check_hue (hr.mono (by decide)) T.D_Hall_check_hue.b .nil (passes_call (takes_of rfl rfl rfl rfl) (fun _ _ _ _ h => h)) (pa_cons (pv 3) pa_nil)))
    (pss_cons (ps_expr (pe_meth (pv 0) T.cl_Hall T.D_Hall_check_hue.m ok_Hall_check_hue (hr.mono (by decide)) T.D_Hall_check_hue.b .nil (passes_call (takes_of rfl rfl rfl rfl) (fun _ _ _ _ h => h)) (pa_cons (pv 4) pa_nil)))
    (pss_cons (ps_if (pt_cmpR op_eq (pv 3) (pv 4) (nomark _)) 
      (pss_one (ps_raise rfl (takes_of rfl rfl rfl rfl) (pmk_own PySem.F.excBase_ValueError T.x_BadHue.x T.x_BadHue.g T.x_BadHue.k (raises_own T.x_BadHue.b T.x_BadHue.t) rfl))) pss_nil)
    (pss_cons (ps_set (i := 6) sc_Hall_chain.nd rfl (.inl rfl) (pe_call ok_table_of (hr.mono (by decide)) rfl T.D_table_of.g T.D_table_of.F.kp T.D_table_of.b .nil pass0 (pa_cons (fldC K (pe_fld (pv 0) rfl)) pa_nil)))
    (pss_cons (ps_if (pt_cmp (pc_din (hu_of hr) (pe_tup (pa_cons (pv 5) (pa_cons (pv 2) (pa_cons (pv 3) pa_nil)))) (pv 6))) 
      (pss_one (ps_raise rfl (takes_of rfl rfl rfl rfl) (pmk_own PySem.F.excBase_ValueError T.x_NotFree.x T.x_NotFree.g T.x_NotFree.k (raises_own T.x_NotFree.b T.x_NotFree.t) rfl))) pss_nil)
    (pss_one (ps_ret (pe_call ok_chain_at (hr.mono (by decide)) rfl T.D_chain_at.g T.D_chain_at.F.kp T.D_chain_at.b .nil pass0 (pa_cons (pv 6) (pa_cons (pv 5) (pa_cons (pv 2) (pa_cons (pv 3) (pa_cons (pv 4) pa_nil))))))))))))))), ?_⟩
    have no1 : ∀ e d n, (hf e d n).lookup ("_check_end" : Str) = none := fun e d n => hf_no _ _ _ (by decide +kernel) (by decide +kernel) (by decide +kernel)
    have no2 : ∀ e d n, (hf e d n).lookup ("_check_hue" : Str) = none := fun e d n => hf_no _ _ _ (by decide +kernel) (by decide +kernel) (by decide +kernel)
    refine ⟨_, rfl, v0, t0, rfl, h0, fun sd es H1 x1 => ?_, qs⟩
    have s2 := wSide_lt es
    obtain ⟨dx1, e1, kv1, ha1, he1, hd1, hE1⟩ := (hH.ext x1).ex
    refine ⟨_, rfl, a, dx1, _, rfl, ha1, no1 _ _ _, _, rfl, _, rfl, a, d, L, Y, n, R, sd, v1, t1, rfl, hH.ext x1, s2, TyB.ext x1 h1, fun i1 => ?_, fun i1 => qb sd es i1 H1 x1⟩
    have i1 : isIn v1 0 ((sideOf L Y sd : Nat) - 1) = true := i1
    refine ⟨_, rfl, a, dx1, _, rfl, ha1, no2 _ _ _, _, rfl, a, d, L, Y, n, R, v2, t2, rfl, hH.ext x1, by omega, TyB.ext x1 h2, fun i2 H2 x2 => ?_, fun i2 H2 x2 => qh sd es i1 (.inl (by rw [show isIn v2 0 ((cnt R : Nat) - 1) = false from i2]; rfl)) H2 (x1.trans x2)⟩
    have i2 : isIn v2 0 ((cnt R : Nat) - 1) = true := i2
    have x02 := x1.trans x2
    obtain ⟨dx2, e2, kv2, ha2, he2, hd2, hE2⟩ := (hH.ext x02).ex
    refine ⟨_, rfl, a, dx2, _, rfl, ha2, no2 _ _ _, _, rfl, a, d, L, Y, n, R, v3, t3, rfl, hH.ext x02, by omega, TyB.ext x02 h3, fun i3 H3 x3 => ?_, fun i3 H3 x3 => qh sd es i1 (.inl (by rw [show isIn v3 0 ((cnt R : Nat) - 1) = false from i3]; exact Bool.and_false _)) H3 (x02.trans x3)⟩
    have i3 : isIn v3 0 ((cnt R : Nat) - 1) = true := i3
    have x03 := x02.trans x3
    obtain ⟨e, rfl, le⟩ := isIn_nat i1
    obtain ⟨one, rfl, lo⟩ := isIn_nat i2
    obtain ⟨other, rfl, lr⟩ := isIn_nat i3
    refine ⟨_, rfl, _, rfl, rfl, _, rfl, ?_⟩
    by_cases eo : one = other
    · rw [decide_eq_true (show V.int (one : Nat) = V.int (other : Nat) by rw [eo])]
      exact iteT (qh sd es i1 (.inr (by rw [eo])) H3 x03)
    · rw [decide_eq_false (show ¬ V.int (one : Nat) = V.int (other : Nat) from fun z => eo (by have := V.int.inj z; omega))]
      refine iteF ?_
      obtain ⟨qn, ql⟩ := qq sd e one other es rfl rfl rfl le lo lr eo
      obtain ⟨dx3, e3, kv3, ha3, he3, hd3, hE3⟩ := (hH.ext x03).ex
      refine ⟨_, rfl, a, T.C_Hall, dx3, _, _, rfl, ha3, T.cl_Hall, T.nA_rows, hf_rows _ _ _, d, kv3, R, rfl, hd3, hE3, by omega, fun p tk H4 np x4 hp hT => ?_⟩
      have x04 := x03.trans x4
      refine ⟨_, rfl, _, rfl, _, rfl, by show 3 ≤ sizeLine; decide, fun k nk => ?_⟩
      refine newO W (H := H4) (p := k) nk fun H5 x5 hk => ?_
      have x05 := x04.trans x5
      refine ⟨_, rfl, p, _, rfl, DGet.t (k := key3 sd e one) (x5.dt hp) hk, _, rfl, ?_⟩
      cases ha : at_ R sd e one with
      | some pr =>
        obtain ⟨b, g1, g2⟩ := hT.so sd e one pr s2 ha
        rw [g1]
        exact iteT (qn (by rw [ha]; simp) H5 x05)
      | none =>
        rw [hT.no sd e one s2 ha]
        refine iteF ?_
        exact ⟨_, rfl, _, rfl, _, rfl, _, rfl, _, rfl, p, tk, R, sd, e, one, other, rfl, x5.dt hp, x5.tabOf hT, s2, by omega, G.P, Ne.symm eo, ha, fun l H6 nl x6 hl => ql ha l H6 (x05.f _ nl) (x05.trans x6) hl⟩
end
end My

set_option Elab.async false
set_option linter.all false
set_option maxRecDepth 100000
set_option maxHeartbeats 4000000
namespace My
open PySem PySem.Spec PyProof.Rows L2 Own Mt
section
variable {P : Program} {w : World} {K : PySem.W.Frag} {mg : Str → Option Value} {base : Heap} {W : Tbs}
def spOfHue (K : PySem.W.Frag) (W : Tbs) (C EH : Addr) : Sp := fun vs H Q E => ∃ (a d : Addr) (L Y n : Nat) (R : List Pr) (v : V) (t : String), vs = [.ref a, v] ∧ HallOf K C H a d L Y n R ∧ R.length ≤ 50 ∧ (R.map (·.n)).Nodup ∧ TyB K H v t ∧
  (∀ h : Nat, v = .int (h : Nat) → h < cnt R → ∀ l H', H l = none → Ext W H H' → H' l = some (.lst (vN (ofHue R h))) → Q (.ref l) H') ∧ (isIn v 0 ((cnt R : Nat) - 1) = false → ∀ H', Ext W H H' → E (.ref EH) none H')
theorem ok_Hall_of_hue (T : Txt K mg) : FnOk P w K mg base (L2.CX P w) 5 T.f_Hall_of_hue T.d_Hall_of_hue ["self", "hue"] (spOfHue K W T.C_Hall T.E_BadHue) := by
  have ok_Hall_check_hue : FnOk P w K mg base (L2.CX P w) 4 T.f_Hall_check_hue T.d_Hall_check_hue ["self", "hue"] (spHue K W T.C_Hall T.E_BadHue) := ok_Hall_check_hue T
  have ok_Hall_numbers_of : FnOk P w K mg base CX0 1 T.f_Hall_numbers_of T.d_Hall_numbers_of ["self", "hue"] (spNumbers K W T.C_Hall) := ok_Hall_numbers_of T
  refine T.D_Hall_of_hue.F.okX sc_Hall_of_hue (fun vs H Q E h => ?_) (fun cdv A outer s H vs Q E hr h => ?_)
  · obtain ⟨a, d, L, Y, n, R, v, t, rfl, _⟩ := h
    rfl
  · obtain ⟨a, d, L, Y, n, R, v, t, rfl, hH, few, N, ht, q, qe⟩ := h
    obtain ⟨dx, e, kvs, ha, he, hd, hE⟩ := hH.ex
    refine ⟨_, (pss_cons (ps_expr (pe_meth (pv 0) T.cl_Hall T.D_Hall_check_hue.m ok_Hall_check_hue (hr.mono (by decide)) T.D_Hall_check_hue.b .nil (passes_call (takes_of rfl rfl rfl rfl) (fun _ _ _ _ h => h)) (pa_cons (pv 1) pa_nil)))
    (pss_one (ps_ret (pe_meth (pv 0) T.cl_Hall T.D_Hall_numbers_of.m ok_Hall_numbers_of (hr.mono (by decide)) T.D_Hall_numbers_of.b .nil pass0 (pa_cons (pv 1) pa_nil))))), ?_⟩
    refine ⟨_, rfl, a, dx, _, rfl, ha, hf_no _ _ _ (by decide +kernel) (by decide +kernel) (by decide +kernel), _, rfl, a, d, L, Y, n, R, v, t, rfl, hH, by omega, ht, fun i1 H1 x1 => ?_, qe⟩
    have i1 : isIn v 0 ((cnt R : Nat) - 1) = true := i1
    obtain ⟨h, rfl, lh⟩ := isIn_nat i1
    have hH1 := hH.ext x1
    obtain ⟨dx1, e1, kvs1, ha1, _⟩ := hH1.ex
    refine ⟨_, rfl, a, dx1, _, rfl, ha1, hf_no _ _ _ (by decide +kernel) (by decide +kernel) (by decide +kernel), _, rfl, a, d, L, Y, n, R, h, rfl, hH1, by omega, N, fun u H2 nu x2 hu => q h rfl lh u H2 (x1.f _ nu) (x1.trans x2) hu⟩
def spHFree (K : PySem.W.Frag) (W : Tbs) (C ES EB : Addr) : Sp := fun vs H Q E => ∃ (a d : Addr) (L Y n : Nat) (R : List Pr) (v0 v1 : V) (t0 t1 : String), vs = [.ref a, v0, v1] ∧ HallOf K C H a d L Y n R ∧ R.length ≤ 50 ∧ TyB K H v0 t0 ∧ TyB K H v1 t1 ∧
  (wSide v0 = none → ∀ H', Ext W H H' → E (.ref ES) none H') ∧ (∀ s, wSide v0 = some s → isIn v1 0 ((sideOf L Y s : Nat) - 1) = false → ∀ H', Ext W H H' → E (.ref EB) none H') ∧
  (∀ s e : Nat, wSide v0 = some s → v1 = .int (e : Nat) → e < sideOf L Y s → ∀ l H', H l = none → Ext W H H' → H' l = some (.lst (vN (free R s e (cnt R)))) → Q (.ref l) H')
theorem ok_Hall_free (T : Txt K mg) : FnOk P w K mg base (L2.CX P w) 4 T.f_Hall_free T.d_Hall_free ["self", "side", "end"] (spHFree K W T.C_Hall T.E_BadSide T.E_BadEnd) := by
  have ok_side_of : FnOk P w K mg base (L2.CX P w) 1 T.f_side_of T.d_side_of ["word"] (spSide K W T.E_BadSide) := ok_side_of T
  have ok_Hall_check_end : FnOk P w K mg base (L2.CX P w) 3 T.f_Hall_check_end T.d_Hall_check_end ["self", "side", "end"] (spCheckEnd K T.C_Hall T.E_BadEnd) := ok_Hall_check_end T
  have ok_Hall_count : FnOk P w K mg base CX0 3 T.f_Hall_count T.d_Hall_count ["self"] (spCount0 K W T.C_Hall) := ok_Hall_count T
  have ok_table_of : FnOk P w K mg base CX0 1 T.f_table_of T.d_table_of ["rows"] (spTable K W) := ok_table_of T
  have ok_free_at : FnOk P w K mg base CX0 1 T.f_free_at T.d_free_at ["table", "side", "end", "many"] (spFree K W) := ok_free_at T
  refine T.D_Hall_free.F.okX sc_Hall_free (fun vs H Q E h => ?_) (fun cdv A outer s H vs Q E hr h => ?_)
  · obtain ⟨a, d, L, Y, n, R, v0, v1, t0, t1, rfl, _⟩ := h
    rfl
  · obtain ⟨a, d, L, Y, n, R, v0, v1, t0, t1, rfl, hH, few, h0, h1, qs, qb, q⟩ := h
    refine ⟨_, (pss_cons (ps_set (i := 3) sc_Hall_free.nd rfl (.inl rfl) (pe_call ok_side_of (hr.mono (by decide)) rfl T.D_side_of.g T.D_side_of.F.kp T.D_side_of.b .nil (passes_call (takes_of rfl rfl rfl rfl) (fun _ _ _ _ h => h)) (pa_cons (pv 1) pa_nil)))
    (pss_cons (ps_expr (pe_meth (pv 0) T.cl_Hall T.D_Hall_check_end.m ok_Hall_check_end (hr.mono (by decide)) T.D_Hall_check_end.b .nil (passes_call (takes_of rfl rfl rfl rfl) (fun _ _ _ _ h => h)) (pa_cons (pv 3) (pa_cons (pv 2) pa_nil))))
    (pss_one (ps_ret (pe_call ok_free_at (hr.mono (by decide)) rfl T.D_free_at.g T.D_free_at.F.kp T.D_free_at.b .nil pass0 (pa_cons (pe_call ok_table_of (hr.mono (by decide)) rfl T.D_table_of.g T.D_table_of.F.kp T.D_table_of.b .nil pass0 (pa_cons (fldC K (pe_fld (pv 0) rfl)) pa_nil)) (pa_cons (pv 3) (pa_cons (pv 2) (pa_cons (pe_meth0 (pv 0) T.cl_Hall T.D_Hall_count.m ok_Hall_count (hr.mono (by decide)) T.D_Hall_count.b .nil pass0) pa_nil))))))))), ?_⟩
    refine ⟨_, rfl, v0, t0, rfl, h0, fun sd es H1 x1 => ?_, qs⟩
    have s2 := wSide_lt es
    have hH1 := hH.ext x1
    obtain ⟨dx1, e1, kv1, ha1, he1, hd1, hE1⟩ := hH1.ex
    refine ⟨_, rfl, a, dx1, _, rfl, ha1, hf_no _ _ _ (by decide +kernel) (by decide +kernel) (by decide +kernel), _, rfl, _, rfl, a, d, L, Y, n, R, sd, v1, t1, rfl, hH1, s2, TyB.ext x1 h1, fun i1 => ?_, fun i1 => qb sd es i1 H1 x1⟩
    have i1 : isIn v1 0 ((sideOf L Y sd : Nat) - 1) = true := i1
    obtain ⟨e, rfl, le⟩ := isIn_nat i1
    refine ⟨_, rfl, a, T.C_Hall, dx1, _, _, rfl, ha1, T.cl_Hall, T.nA_rows, hf_rows _ _ _, d, kv1, R, rfl, hd1, hE1, by omega, fun p tk H2 np x2 hp hT => ?_⟩
    have hH2 := hH1.ext x2
    obtain ⟨dx2, e2, kv2, ha2, he2, hd2, hE2⟩ := hH2.ex
    refine ⟨_, rfl, _, rfl, _, rfl, a, dx2, _, rfl, ha2, hf_no _ _ _ (by decide +kernel) (by decide +kernel) (by decide +kernel), a, d, L, Y, n, R, rfl, hH2, by omega, fun H3 x3 => ?_⟩
    have cl := cnt_le R
    have x13 := x1.trans (x2.trans x3)
    exact ⟨p, tk, R, sd, e, cnt R, rfl, x3.dt hp, x3.tabOf hT, s2, by omega, fun l H4 nl x4 hl => q sd e es rfl le l H4 (x13.f _ nl) (x13.trans x4) hl⟩
end
end My

set_option Elab.async false
set_option linter.all false
set_option maxRecDepth 100000
set_option maxHeartbeats 4000000
namespace My
open PySem PySem.Spec PyProof.Rows L2 Own Mt
/-- the ends of a side that as many pairs have as there are hues -/
def fullAt (R : List Pr) (s S m : Nat) : List Nat := (List.range S).filter fun e => decide (deg R s e = m)
theorem vN_add (l : List Nat) (x : Nat) : vN (l ++ [x]) = vN l ++ [V.int (x : Nat)] := by
  unfold vN
  rw [List.map_append]
  rfl
section
variable {P : Program} {w : World} {K : PySem.W.Frag} {mg : Str → Option Value} {base : Heap} {W : Tbs}
def spAsFull (K : PySem.W.Frag) (W : Tbs) (C : Addr) : Sp := fun vs H Q _ => ∃ (a d : Addr) (L Y n : Nat) (R : List Pr) (s m : Nat), vs = [.ref a, .int (s : Nat), .int (m : Nat)] ∧ HallOf K C H a d L Y n R ∧ R.length ≤ 50 ∧ s < 2 ∧ L ≤ 8 ∧ Y ≤ 8 ∧
  ∀ l H', H l = none → Ext W H H' → H' l = some (.lst (vN (fullAt R s (sideOf L Y s) m))) → Q (.ref l) H'
theorem ok_Hall_as_full (T : Txt K mg) : FnOk P w K mg base CX0 1 T.f_Hall_as_full T.d_Hall_as_full ["self", "side", "many"] (spAsFull K W T.C_Hall) := by
  refine T.D_Hall_as_full.F.ok sc_Hall_as_full (fun vs H Q E h => ?_) (fun cdv A outer s H vs Q E hr h => ?_)
  · obtain ⟨a, d, L, Y, n, R, sd, m, rfl, _⟩ := h
    rfl
  · obtain ⟨a, d, L, Y, n, R, sd, m, rfl, hH, few, s2, lL, lY, q⟩ := h
    obtain ⟨dx, e, kvs, ha, he, hd, hE⟩ := hH.ex
    refine ⟨_, (pss_cons (ps_set (i := 3) sc_Hall_as_full.nd rfl (.inr rfl) (pe_lock (pe_lc rfl sc_Hall_as_full.nd (own := [("row", 4)]) (pi_values (fldC K (pe_fld (pv 0) rfl))) (blkOk_by (N := N_Hall_as_full) (sc := defScope s_Hall_as_full) (by decide +kernel)) (fun _ _ _ _ _ => (pg_name (i := 4) sc_Hall_as_full.nd rfl (.inl rfl))) (fun _ _ _ _ _ => pts_nil) (fun _ _ _ _ _ => (pe_ix (ixT K) (pv 4) (pv 1) (fun _ _ => rfl))))))
    (pss_one (ps_ret (pe_lc rfl sc_Hall_as_full.nd (own := [("end", 5)]) (pi_range1 rfl T.z_range (pa_cons (pe_ix (ixT K) (fldC K (pe_fld (pv 0) rfl)) (pv 1) (fun _ _ => rfl)) pa_nil)) (blkOk_by (N := N_Hall_as_full) (sc := defScope s_Hall_as_full) (by decide +kernel)) (fun _ _ _ _ _ => (pg_name (i := 5) sc_Hall_as_full.nd rfl (.inl rfl))) (fun _ _ _ _ _ => (pts_one (pt_cmpR op_eq (bmC K (pe_bm PySem.F.plainAttrs_list PySem.F.slot_list_count PySem.F.type_list_count (cntL K) (pv 3) (pa_cons (pv 5) pa_nil))) (pv 2) (nomark _)))) (fun _ _ _ _ _ => (pv 5)))))), ?_⟩
    have nad := hH.ne
    -- met = [row[side] for row in self._rows.values()]
    refine ⟨d, _, hd, trivial, fun od => ?_⟩
    have hl : (upd H d (.frz od (.dK kvs))) a = some (.ins T.C_Hall dx (hf e d n)) := by rw [upd_ne nad]; exact ha
    refine ⟨_, rfl, a, T.C_Hall, dx, _, _, rfl, hl, T.cl_Hall, T.nA_rows, hf_rows _ _ _, d, od, kvs, rfl, upd_same, fun D nD => lc_it walk_values (fun j H3 => Fx W [D] (upd H d (.frz od (.dK kvs))) H3 ∧ H3 D = some (.lst (vN ((R.map (·.e sd)).take j))))
      ⟨.new nD, by rw [List.take_zero]; exact upd_same⟩ (fun j H3 _ ⟨x3, _⟩ => x3.fz upd_same (by simpa using (ne_of_none upd_same nD))) ?_ ?_⟩
    · rintro j y H3 H4 hj ⟨x3, hD⟩ ⟨rfl, kk, hk⟩
      obtain ⟨p, hp, b, e1, tb⟩ := pon hE hk
      cases e1
      have tb3 := x3.tup (tup_upd (o := .frz od (.dK kvs)) hd (fun _ z => by cases z) (fun _ _ z => by cases z) tb)
      have hat : atI [V.int (p.l : Nat), .int (p.r : Nat), .int (p.h : Nat)] (sd : Int) = some (V.int (p.e sd : Nat)) := by
        match sd, s2 with
        | 0, _ => exact atI_nat (j := 0) rfl
        | 1, _ => exact atI_nat (j := 1) rfl
      refine ⟨rfl, yesT ?_⟩
      refine ⟨_, rfl, _, rfl, b, _, _, _, rfl, rfl, tb3, hat, _, hD, ?_, x3.put (.inr (by simp)) hD, ?_⟩
      · rw [List.length_map, List.length_take, List.length_map]
        exact small1000 (by omega)
      · rw [upd_same, take_one (show (R.map (·.e sd))[j]? = some (p.e sd) by rw [List.getElem?_map, hp]; rfl), vN_add]
    rintro H3 ⟨x3, hD⟩
    have nDd : D ≠ d := (ne_of_none upd_same nD).symm
    have hd3 := x3.fz (a := d) upd_same (by simpa using nDd.symm)
    refine ⟨hd3, ?_⟩
    have eT : (R.map (·.e sd)).take kvs.length = R.map (·.e sd) := List.take_of_length_le (by rw [List.length_map, hE.len]; exact Nat.le_refl _)
    rw [eT] at hD
    have nD2 : H D = none := by
      rw [upd_ne nDd] at nD
      exact nD
    have x03 : Ext W H (upd H3 d (.dK kvs)) := (Fx.locked hd rfl rfl x3 hd3).down fun b hb => by rw [List.mem_singleton.mp hb]; exact nD2
    have hD' : (upd H3 d (.dK kvs)) D = some (.lst (vN (R.map (·.e sd)))) := by
      rw [upd_ne nDd]
      exact hD
    revert x03 hD'
    generalize upd H3 d (.dK kvs) = H4
    intro x04 hD4
    have sS : sideOf L Y sd ≤ 8 := by
      unfold sideOf
      split <;> omega
    refine ⟨_, rfl, a, T.C_Hall, dx, _, _, rfl, x04.ins ha, T.cl_Hall, T.nA_ends, hf_ends _ _ _, _, rfl, e, _, _, _, rfl, rfl, x04.tup he, ends_at2 L Y sd s2, _, rfl, by omega, by omega, ?_⟩
    have en : ((sideOf L Y sd : Nat) : Int).toNat = sideOf L Y sd := by omega
    rw [en]
    refine fun F nF => lc_range (lo := 0) (n := sideOf L Y sd) (fun j H5 => Ext W H4 H5 ∧ H5 F = some (.lst (vN (fullAt R sd j m)))) ⟨.new nF, upd_same⟩ ?_ ?_
    · rintro j H5 hj ⟨x5, hF⟩
      have ej : ((0 : Int) + (j : Nat)) = (j : Nat) := by omega
      rw [ej]
      have hD5 : SqL K H5 D (((R.map (·.e sd)).map fun n : Nat => (n : Int)).map V.int) := by
        rw [← vN_ints]
        exact SqL.of (x5.lst hD4)
      refine ⟨rfl, ?_⟩
      refine ⟨_, rfl, .inl ⟨rfl, _, hD5⟩, _, rfl, D, _, _, rfl, rfl, hD5, _, rfl, rfl, _, rfl, ?_⟩
      have ec : (((R.map (·.e sd)).map fun n : Nat => (n : Int)).count (j : Int) : Nat) = deg R sd j := count_cast _ _
      rw [ec]
      have fs : fullAt R sd (j + 1) m = fullAt R sd j m ++ if deg R sd j = m then [j] else [] := by
        unfold fullAt
        rw [List.range_succ, List.filter_append]
        by_cases c : deg R sd j = m <;> simp [c]
      have fl : (fullAt R sd j m).length ≤ j := by
        unfold fullAt
        exact Nat.le_trans (List.length_filter_le _ _) (by rw [List.length_range]; exact Nat.le_refl _)
      by_cases c : deg R sd j = m
      · rw [decide_eq_true (show V.int (deg R sd j : Nat) = V.int (m : Nat) by rw [c])]
        refine iteT ⟨_, rfl, _, hF, ?_, x5.put (.inl nF) hF, ?_⟩
        · rw [List.length_map]
          exact small1000 (by omega)
        · rw [upd_same, fs, if_pos c, vN_add]
      · rw [decide_eq_false (show ¬ V.int (deg R sd j : Nat) = V.int (m : Nat) from fun z => c (by have := V.int.inj z; omega))]
        refine iteF ⟨x5, ?_⟩
        rw [fs, if_neg c, List.append_nil]
        exact hF
    · rintro H5 ⟨x5, hF⟩
      exact q F H5 (x04.f _ nF) (x04.trans x5) hF
end
end My

set_option Elab.async false
set_option linter.all false
set_option maxRecDepth 100000
set_option maxHeartbeats 4000000
namespace My
open PySem PySem.Spec PyProof.Rows L2 Own Mt
section
variable {P : Program} {w : World} {K : PySem.W.Frag} {mg : Str → Option Value} {base : Heap} {W : Tbs}
/-- the full ends of both sides; none where there is no pair -/
def fullOf (R : List Pr) (s S : Nat) : List Nat := if cnt R = 0 then [] else fullAt R s S (cnt R)
def spFullest (K : PySem.W.Frag) (W : Tbs) (C : Addr) : Sp := fun vs H Q _ => ∃ (a d : Addr) (L Y n : Nat) (R : List Pr), vs = [.ref a] ∧ HallOf K C H a d L Y n R ∧ R.length ≤ 50 ∧ L ≤ 8 ∧ Y ≤ 8 ∧
  ∀ t b c H', H t = none → H b = none → H c = none → b ≠ c → Ext W H H' → H' t = some (.tup [.ref b, .ref c]) → H' b = some (.lst (vN (fullOf R 0 L))) → H' c = some (.lst (vN (fullOf R 1 Y))) → Q (.ref t) H'
theorem ok_Hall_fullest (T : Txt K mg) : FnOk P w K mg base CX0 4 T.f_Hall_fullest T.d_Hall_fullest ["self"] (spFullest K W T.C_Hall) := by
  have ok_Hall_count : FnOk P w K mg base CX0 3 T.f_Hall_count T.d_Hall_count ["self"] (spCount0 K W T.C_Hall) := ok_Hall_count T
  have ok_Hall_as_full : FnOk P w K mg base CX0 1 T.f_Hall_as_full T.d_Hall_as_full ["self", "side", "many"] (spAsFull K W T.C_Hall) := ok_Hall_as_full T
  refine T.D_Hall_fullest.F.ok sc_Hall_fullest (fun vs H Q E h => ?_) (fun cdv A outer s H vs Q E hr h => ?_)
  · obtain ⟨a, d, L, Y, n, R, rfl, _⟩ := h
    rfl
  · obtain ⟨a, d, L, Y, n, R, rfl, hH, few, lL, lY, q⟩ := h
    obtain ⟨dx, e, kvs, ha, he, hd, hE⟩ := hH.ex
    refine ⟨_, (pss_cons (ps_set (i := 1) sc_Hall_fullest.nd rfl (.inl rfl) (pe_meth0 (pv 0) T.cl_Hall T.D_Hall_count.m ok_Hall_count (hr.mono (by decide)) T.D_Hall_count.b .nil pass0))
    (pss_cons (ps_if (pt_cmpR op_eq (pv 1) pe_int (nomark _)) 
      (pss_one (ps_ret (pe_tup (pa_cons (pe_lst pa_nil) (pa_cons (pe_lst pa_nil) pa_nil))))) pss_nil)
    (pss_one (ps_ret (pe_tup (pa_cons (pe_meth (pv 0) T.cl_Hall T.D_Hall_as_full.m ok_Hall_as_full (hr.mono (by decide)) T.D_Hall_as_full.b .nil pass0 (pa_cons (pe_gi rfl T.c_LEFT) (pa_cons (pv 1) pa_nil))) (pa_cons (pe_meth (pv 0) T.cl_Hall T.D_Hall_as_full.m ok_Hall_as_full (hr.mono (by decide)) T.D_Hall_as_full.b .nil pass0 (pa_cons (pe_gi rfl T.c_RIGHT) (pa_cons (pv 1) pa_nil))) pa_nil))))))), ?_⟩
    refine ⟨_, rfl, a, dx, _, rfl, ha, hf_no _ _ _ (by decide +kernel) (by decide +kernel) (by decide +kernel), a, d, L, Y, n, R, rfl, hH, by omega, fun H1 x1 => ?_⟩
    refine ⟨_, rfl, rfl, _, rfl, ?_⟩
    by_cases c : cnt R = 0
    · rw [decide_eq_true (show V.int (cnt R : Nat) = V.int 0 by rw [c]; rfl)]
      refine iteT ?_
      refine ⟨by show 0 ≤ sizeLine; decide, fun b nb => ?_⟩
      refine newO W (H := H1) (p := b) nb fun H2 x2 hb => ?_
      refine ⟨by show 0 ≤ sizeLine; decide, fun c' nc => ?_⟩
      refine newO W (H := H2) (p := c') nc fun H3 x3 hc => ?_
      refine ⟨by show 2 ≤ sizeLine; decide, fun t nt => ?_⟩
      refine newO W (H := H3) (p := t) nt fun H4 x4 ht => ?_
      have f0 : ∀ s S, fullOf R s S = [] := fun s S => by unfold fullOf; rw [if_pos c]
      exact q t b c' H4 (x1.f _ (x2.f _ (x3.f _ nt))) (x1.f _ nb) (x1.f _ (x2.f _ nc)) (ne_of_none hb nc) (x1.trans (x2.trans (x3.trans x4))) ht (by rw [f0]; exact x4.lst (x3.lst hb)) (by rw [f0]; exact x4.lst hc)
    · rw [decide_eq_false (show ¬ V.int (cnt R : Nat) = V.int 0 from fun z => c (by have := V.int.inj z; omega))]
      refine iteF ?_
      have hH1 := hH.ext x1
      obtain ⟨dx1, e1, kv1, ha1, _⟩ := hH1.ex
      refine ⟨_, rfl, a, dx1, _, rfl, ha1, hf_no _ _ _ (by decide +kernel) (by decide +kernel) (by decide +kernel), _, rfl, a, d, L, Y, n, R, 0, cnt R, rfl, hH1, few, by decide, lL, lY, fun b H2 nb x2 hb => ?_⟩
      have hH2 := hH1.ext x2
      obtain ⟨dx2, e2, kv2, ha2, _⟩ := hH2.ex
      refine ⟨_, rfl, a, dx2, _, rfl, ha2, hf_no _ _ _ (by decide +kernel) (by decide +kernel) (by decide +kernel), _, rfl, a, d, L, Y, n, R, 1, cnt R, rfl, hH2, few, by decide, lL, lY, fun c' H3 nc x3 hc => ?_⟩
      refine ⟨by show 2 ≤ sizeLine; decide, fun t nt => ?_⟩
      refine newO W (H := H3) (p := t) nt fun H4 x4 ht => ?_
      have f0 : ∀ s S, fullOf R s S = fullAt R s S (cnt R) := fun s S => by unfold fullOf; rw [if_neg c]
      exact q t b c' H4 (x1.f _ (x2.f _ (x3.f _ nt))) (x1.f _ nb) (x1.f _ (x2.f _ nc)) (ne_of_none hb nc) (x1.trans (x2.trans (x3.trans x4))) ht (by rw [f0]; exact x4.lst (x3.lst hb)) (by rw [f0]; exact x4.lst hc)
end
end My

set_option Elab.async false
set_option linter.all false
set_option maxRecDepth 100000
namespace Own
open PySem PySem.Spec PyProof.Rows L2
/-! data: ints, None, texts, and lists and tuples of them -/
def okD (k : Nat) (d : PyData) : Prop := d.canLay0 = true ∧ d.depth ≤ k
theorem okD.of {k j : Nat} {d : PyData} (h : okD k d) (l : k ≤ j) : okD j d := ⟨h.1, Nat.le_trans h.2 l⟩
theorem okD_int (i : Int) : okD 1 (.int i) := ⟨rfl, by simp [PyData.depth]⟩
theorem okD_non : okD 1 .none := ⟨rfl, by simp [PyData.depth]⟩
theorem okD_all {k : Nat} : ∀ {ds : List PyData}, (∀ d ∈ ds, okD k d) → PyData.canLayAll0 ds = true ∧ PyData.depthAll ds ≤ k
  | [], _ => ⟨rfl, Nat.zero_le _⟩
  | d :: ds, h => by
    obtain ⟨h1, h2⟩ := okD_all (k := k) (ds := ds) fun x hx => h x (List.mem_cons_of_mem _ hx)
    obtain ⟨g1, g2⟩ := h d List.mem_cons_self
    simp only [PyData.canLayAll0, PyData.depthAll, h1, g1, Bool.and_self, true_and]
    omega
theorem okD.list {k : Nat} {ds : List PyData} (h : ∀ d ∈ ds, okD k d) : okD (k + 1) (.list ds) := by
  obtain ⟨h1, h2⟩ := okD_all h
  refine ⟨h1, ?_⟩
  simp only [PyData.depth]
  omega
theorem okD.tuple {k : Nat} {ds : List PyData} (h : ∀ d ∈ ds, okD k d) : okD (k + 1) (.tuple ds) := by
  obtain ⟨h1, h2⟩ := okD_all h
  refine ⟨h1, ?_⟩
  simp only [PyData.depth]
  omega
theorem okD.shaped {k : Nat} {d : PyData} (h : okD k d) (l : k ≤ 64 := by decide) : SeqAt.shaped d = true := by
  unfold SeqAt.shaped
  rw [h.1, Bool.true_and]
  exact decide_eq_true (Nat.le_trans h.2 l)
mutual
theorem eqv_same : ∀ d : PyData, d.canLay0 = true → PyData.eqv d d = true
  | .none, _ => by simp [PyData.eqv]
  | .bool b, _ => by simp [PyData.eqv]
  | .int i, _ => by simp [PyData.eqv]
  | .str x, _ => by simp [PyData.eqv]
  | .list xs, h => by
    rw [PyData.eqv]
    exact eqvAll_same xs h
  | .tuple xs, h => by
    rw [PyData.eqv]
    exact eqvAll_same xs h
  | .dict _, h => by cases h
theorem eqvAll_same : ∀ ds : List PyData, PyData.canLayAll0 ds = true → PyData.eqvAll ds ds = true
  | [], _ => by simp [PyData.eqvAll]
  | d :: ds, h => by
    rw [PyData.canLayAll0, Bool.and_eq_true] at h
    rw [PyData.eqvAll, eqv_same d h.1, eqvAll_same ds h.2]
    rfl
end
/-- lists of ints as data -/
def intsD (ns : List Int) : PyData := .list (ns.map PyData.int)
theorem intsD_ok (ns : List Int) : okD 2 (intsD ns) := okD.list fun d hd => by
  obtain ⟨i, _, rfl⟩ := List.mem_map.mp hd
  exact okD_int i
theorem eqv_intsD (a b : List Int) : PyData.eqv (intsD a) (intsD b) = decide (a = b) := PySem.W.ked_eqvAll a b
def natsD (ns : List Nat) : PyData := intsD (ns.map fun n : Nat => (n : Int))
theorem natsD_ok (ns : List Nat) : okD 2 (natsD ns) := intsD_ok _
theorem casts_inj {a b : List Nat} (h : (a.map fun n : Nat => (n : Int)) = b.map fun n : Nat => (n : Int)) : a = b := by
  induction a generalizing b with
  | nil => cases b with
    | nil => rfl
    | cons y b => cases h
  | cons x a ih => cases b with
    | nil => cases h
    | cons y b =>
      rw [List.map_cons, List.map_cons] at h
      have h1 := (List.cons.inj h).1
      rw [ih (List.cons.inj h).2, show x = y by omega]
theorem eqv_natsD (a b : List Nat) : PyData.eqv (natsD a) (natsD b) = decide (a = b) := by
  unfold natsD
  rw [eqv_intsD, Bool.eq_iff_iff, decide_eq_true_eq, decide_eq_true_eq]
  exact ⟨casts_inj, fun h => by rw [h]⟩
/-! rows of ints as data -/
def rowD (r : List Int) : PyData := .tuple (r.map PyData.int)
theorem rowD_ok (r : List Int) : okD 2 (rowD r) := okD.tuple fun d hd => by
  obtain ⟨i, _, rfl⟩ := List.mem_map.mp hd
  exact okD_int i
def rowsD (ts : List (List Int)) : PyData := .list (ts.map rowD)
theorem rowsD_ok (ts : List (List Int)) : okD 3 (rowsD ts) := okD.list fun d hd => by
  obtain ⟨i, _, rfl⟩ := List.mem_map.mp hd
  exact rowD_ok i
theorem eqv_rowD (t u : List Int) : PyData.eqv (rowD t) (rowD u) = decide (t = u) := PySem.W.ked_eqvAll t u
theorem eqvAll_rows : ∀ ts us : List (List Int), PyData.eqvAll (ts.map rowD) (us.map rowD) = decide (ts = us)
  | [], [] => by simp [PyData.eqvAll]
  | [], _ :: _ => by simp [PyData.eqvAll]
  | _ :: _, [] => by simp [PyData.eqvAll]
  | t :: ts, u :: us => by
    have h := eqvAll_rows ts us
    simp only [List.map_cons, PyData.eqvAll]
    rw [eqv_rowD, h, Bool.eq_iff_iff]
    simp
theorem eqv_rows (ts us : List (List Int)) : PyData.eqv (rowsD ts) (rowsD us) = decide (ts = us) := eqvAll_rows ts us
section
variable {K : PySem.W.Frag} {H : Hp}
theorem dp_ints : ∀ r : List Int, DpAll K H (r.map V.int) (r.map PyData.int)
  | [] => .nil
  | x :: r => .cons (.int x) (dp_ints r)
theorem dp_nats {a : Addr} {ns : List Nat} (h : SqL K H a (vN ns)) : Dp K H (.ref a) (natsD ns) := by
  rw [vN_ints] at h
  exact .lst h (dp_ints _)
theorem dp_each : ∀ {as : List Addr} {ts : List (List Int)}, Each K H as ts → DpAll K H (as.map V.ref) (ts.map rowD)
  | _, _, .nil => .nil
  | _, _, .cons h t => .cons (.tup h (dp_ints _)) (dp_each t)
theorem dp_rows {a : Addr} {ts : List (List Int)} (h : Rows K H a ts) : Dp K H (.ref a) (rowsD ts) := by
  obtain ⟨as, h1, h2⟩ := h
  exact .lst h1 (dp_each h2)
end
end Own

set_option Elab.async false
set_option linter.all false
set_option maxRecDepth 100000
set_option maxHeartbeats 4000000
namespace My
open PySem PySem.Spec PyProof.Rows L2 Own TL Mt
/-- what is refused, and as what -/
inductive Ref (K : PySem.W.Frag) (H : Hp) (L Y : Nat) (R : List Pr) : Nat → V → V → V → String → Prop where
  | end0 {v1 v2 v3 : V} (h : (isIn v1 0 ((L : Nat) - 1) && isIn v2 0 ((Y : Nat) - 1)) = false) : Ref K H L Y R 0 v1 v2 v3 "end"
  | many0 {v1 v2 v3 : V} (h : (isIn v1 0 ((L : Nat) - 1) && isIn v2 0 ((Y : Nat) - 1)) = true) (f : 40 ≤ R.length) : Ref K H L Y R 0 v1 v2 v3 "many"
  | pair1 {v1 v2 v3 : V} (h : ∀ p ∈ R, v1 ≠ .int (p.n : Nat)) : Ref K H L Y R 1 v1 v2 v3 "pair"
  | pair2 {v1 v2 v3 : V} (h : ∀ p ∈ R, v1 ≠ .int (p.n : Nat)) : Ref K H L Y R 2 v1 v2 v3 "pair"
  | hue3 {v1 v2 v3 : V} (h : isIn v1 0 ((cnt R : Nat) - 1) = false) : Ref K H L Y R 3 v1 v2 v3 "hue"
  | side4 {v1 v2 v3 : V} (h : wSide v1 = none) : Ref K H L Y R 4 v1 v2 v3 "side"
  | end4 {v1 v2 v3 : V} {s : Nat} (h : wSide v1 = some s) (g : isIn v2 0 ((sideOf L Y s : Nat) - 1) = false) : Ref K H L Y R 4 v1 v2 v3 "end"
  | side5 {v1 v2 u1 u2 : V} {c : Addr} {t3 t4 : String} (hc : SqL K H c [u1, u2] ∨ SqT K H c [u1, u2]) (h3 : TyB K H u1 t3) (h4 : TyB K H u2 t4) (h : wSide v1 = none) : Ref K H L Y R 5 v1 v2 (.ref c) "side"
  | end5 {v1 v2 u1 u2 : V} {c : Addr} {t3 t4 : String} {s : Nat} (hc : SqL K H c [u1, u2] ∨ SqT K H c [u1, u2]) (h3 : TyB K H u1 t3) (h4 : TyB K H u2 t4) (h : wSide v1 = some s) (g : isIn v2 0 ((sideOf L Y s : Nat) - 1) = false) : Ref K H L Y R 5 v1 v2 (.ref c) "end"
  | hue5 {v1 v2 u1 u2 : V} {c : Addr} {t3 t4 : String} {s : Nat} (hc : SqL K H c [u1, u2] ∨ SqT K H c [u1, u2]) (h3 : TyB K H u1 t3) (h4 : TyB K H u2 t4) (h : wSide v1 = some s) (g : isIn v2 0 ((sideOf L Y s : Nat) - 1) = true)
      (f : (isIn u1 0 ((cnt R : Nat) - 1) && isIn u2 0 ((cnt R : Nat) - 1)) = false ∨ u1 = u2) : Ref K H L Y R 5 v1 v2 (.ref c) "hue"
  | free5 {v1 : V} {c : Addr} {s e one other : Nat} (hc : SqL K H c [.int (one : Nat), .int (other : Nat)] ∨ SqT K H c [.int (one : Nat), .int (other : Nat)]) (h : wSide v1 = some s) (g : e < sideOf L Y s) (h1 : one < cnt R) (h2 : other < cnt R) (ne : one ≠ other)
      (f : at_ R s e one ≠ none) : Ref K H L Y R 5 v1 (.int (e : Nat)) (.ref c) "free"
section
variable {P : Program} {w : World} {K : PySem.W.Frag} {mg : Str → Option Value} {base : Heap} {W : Tbs}
def spAsked (K : PySem.W.Frag) (W : Tbs) (C : Addr) : Sp := fun vs H Q _ => ∃ (a d : Addr) (L Y n : Nat) (R : List Pr) (wy : Nat) (v1 v2 v3 : V) (t1 t2 : String) (t : String), vs = [.ref a, .int (wy : Nat), v1, v2, v3] ∧ HallOf K C H a d L Y n R ∧ Good R ∧ (∀ p ∈ R, p.n < n) ∧ R.length ≤ 50 ∧
  (∀ p ∈ W.l, LamX.TabS H p.1 p.2) ∧ TyB K H v1 t1 ∧ TyB K H v2 t2 ∧ Ref K H L Y R wy v1 v2 v3 t ∧ ∀ p H', Ext W H H' → H' p = some (.tup [.str (Str.ofString t)]) → Q (.ref p) H'
theorem ok_l_asked (T : Txt K mg) (B : LamX.TabB base mg T.k_place T.p_place) (WO : Wok W T.p_place) : FnOk P w K mg base CX0 7 T.f_l_asked T.d_l_asked ["_law_hall", "_law_way", "_law_one", "_law_other", "_law_third"] (spAsked K W T.C_Hall) := by
  have ok_Hall_come : FnOk P w K mg base (L2.CX P w) 5 T.f_Hall_come T.d_Hall_come ["self", "left", "right"] (spCome K W T.C_Hall T.E_BadEnd T.E_TooMany) := ok_Hall_come T B WO
  have ok_Hall_go : FnOk P w K mg base (L2.CX P w) 6 T.f_Hall_go T.d_Hall_go ["self", "number"] (spGo K W T.C_Hall T.E_NoPair) := ok_Hall_go T B WO
  have ok_Hall_hue_of : FnOk P w K mg base (L2.CX P w) 3 T.f_Hall_hue_of T.d_Hall_hue_of ["self", "number"] (spHueOf K T.C_Hall T.E_NoPair) := ok_Hall_hue_of T
  have ok_Hall_of_hue : FnOk P w K mg base (L2.CX P w) 5 T.f_Hall_of_hue T.d_Hall_of_hue ["self", "hue"] (spOfHue K W T.C_Hall T.E_BadHue) := ok_Hall_of_hue T
  have ok_Hall_free : FnOk P w K mg base (L2.CX P w) 4 T.f_Hall_free T.d_Hall_free ["self", "side", "end"] (spHFree K W T.C_Hall T.E_BadSide T.E_BadEnd) := ok_Hall_free T
  have ok_Hall_chain : FnOk P w K mg base (L2.CX P w) 5 T.f_Hall_chain T.d_Hall_chain ["self", "side", "end", "one", "other"] (spHChain K W T.C_Hall T.E_BadSide T.E_BadEnd T.E_BadHue T.E_NotFree) := ok_Hall_chain T
  refine T.D_l_asked.F.ok sc_l_asked (fun vs H Q E h => ?_) (fun cdv A outer s H vs Q E hr h => ?_)
  · obtain ⟨a, d, L, Y, n, R, wy, v1, v2, v3, t1, t2, t, rfl, _⟩ := h
    rfl
  · obtain ⟨a, d, L, Y, n, R, wy, v1, v2, v3, t1, t2, t, rfl, hH, G, hn, few, tabs, ht1, ht2, hR, q⟩ := h
    obtain ⟨dx, e0, kv, ha, he, hd, hE⟩ := hH.ex
    have x0 : Ext W H H := .refl
    have bad : ∀ {l r : Nat}, l < L → r < Y → (isIn (V.int (l : Nat)) 0 ((L : Nat) - 1) && isIn (V.int (r : Nat)) 0 ((Y : Nat) - 1)) = true := fun h1 h2 => by
      rw [isIn_of h1, isIn_of h2]
      rfl
    refine ⟨_, (pss_one (ps_try_as (i := 5) rfl rfl sc_l_asked.nd rfl rfl ⟨rfl, by decide, .inl T.x_PairError.g⟩ takes0 (fun W pn xe tk _ => 
      (pss_cons (ps_if (pt_cmpR op_eq (pv 1) pe_int (nomark _)) 
        (pss_one (ps_ret (pe_methAt (pv 0) T.cl_Hall T.D_Hall_come.m ok_Hall_come (hr.mono (by decide)) T.D_Hall_come.b (fun σ => passAt tk σ) (pa_cons (pv 2) (pa_cons (pv 3) pa_nil))))) pss_nil)
      (pss_cons (ps_if (pt_cmpR op_eq (pv 1) pe_int (nomark _)) 
        (pss_one (ps_ret (pe_methAt (pv 0) T.cl_Hall T.D_Hall_go.m ok_Hall_go (hr.mono (by decide)) T.D_Hall_go.b (fun σ => passAt tk σ) (pa_cons (pv 2) pa_nil)))) pss_nil)
      (pss_cons (ps_if (pt_cmpR op_eq (pv 1) pe_int (nomark _)) 
        (pss_one (ps_ret (pe_methAt (pv 0) T.cl_Hall T.D_Hall_hue_of.m ok_Hall_hue_of (hr.mono (by decide)) T.D_Hall_hue_of.b (fun σ => passAt tk σ) (pa_cons (pv 2) pa_nil)))) pss_nil)
      (pss_cons (ps_if (pt_cmpR op_eq (pv 1) pe_int (nomark _)) 
        (pss_one (ps_ret (pe_methAt (pv 0) T.cl_Hall T.D_Hall_of_hue.m ok_Hall_of_hue (hr.mono (by decide)) T.D_Hall_of_hue.b (fun σ => passAt tk σ) (pa_cons (pv 2) pa_nil)))) pss_nil)
      (pss_cons (ps_if (pt_cmpR op_eq (pv 1) pe_int (nomark _)) 
        (pss_one (ps_ret (pe_methAt (pv 0) T.cl_Hall T.D_Hall_free.m ok_Hall_free (hr.mono (by decide)) T.D_Hall_free.b (fun σ => passAt tk σ) (pa_cons (pv 2) (pa_cons (pv 3) pa_nil))))) pss_nil)
      (pss_one (ps_ret (pe_methAt (pv 0) T.cl_Hall T.D_Hall_chain.m ok_Hall_chain (hr.mono (by decide)) T.D_Hall_chain.b (fun σ => passAt tk σ) (pa_cons (pv 2) (pa_cons (pv 3) (pa_cons (pe_ix (ixLT K) (pv 4) pe_int (fun _ _ => rfl)) (pa_cons (pe_ix (ixLT K) (pv 4) pe_int (fun _ _ => rfl)) pa_nil))))))))))))) (fun a oe cls d pn hz hf => 
      (pss_one (ps_ret (pe_tup (pa_cons (pe_callE (k := 1) (R := fun al : Addr × Str => cls = .ref al.1 ∧ d = none ∧ KindOf T al.1 al.2) (spf := fun al => spKind W a al.2) List.mem_cons_self (kindE T hz hf) (roomS hr (by decide)) rfl T.D_l_kind.g T.D_l_kind.F.kp T.D_l_kind.b (pa_cons (pv 5) pa_nil)) pa_nil))))))), ?_⟩
    cases hR with
    | end0 h =>
      refine ⟨_, rfl, rfl, _, rfl, ?_⟩
      rw [decide_eq_true (show V.int ((0 : Nat) : Int) = V.int 0 from rfl)]
      refine iteT ?_
      refine ⟨_, rfl, a, dx, _, rfl, ha, hf_no _ _ _ (by decide +kernel) (by decide +kernel) (by decide +kernel), _, rfl, _, rfl, a, d, L, Y, n, R, v1, v2, t1, t2, rfl, hH, G, hn, few, tabs, ht1, ht2, fun l r e1 e2 h1 h2 _ _ _ _ _ _ _ _ _ => ?_, fun _ => ⟨true, T.e_BadEnd_PairError, fun _ u nu => hand T (kind_end T) rfl fun p H' x hp => q p H' (x0.trans x) hp, fun z => by cases z⟩, fun z => (by rw [h] at z; cases z)⟩
      exfalso
      rw [e1, e2, bad h1 h2] at h
      cases h
    | many0 h f =>
      refine ⟨_, rfl, rfl, _, rfl, ?_⟩
      rw [decide_eq_true (show V.int ((0 : Nat) : Int) = V.int 0 from rfl)]
      refine iteT ?_
      refine ⟨_, rfl, a, dx, _, rfl, ha, hf_no _ _ _ (by decide +kernel) (by decide +kernel) (by decide +kernel), _, rfl, _, rfl, a, d, L, Y, n, R, v1, v2, t1, t2, rfl, hH, G, hn, few, tabs, ht1, ht2, fun l r e1 e2 h1 h2 f40 _ _ _ _ _ _ _ _ => ?_, fun z => (by rw [h] at z; cases z), fun _ _ => ⟨true, T.e_TooMany_PairError, fun _ u nu => hand T (kind_many T) rfl fun p H' x hp => q p H' (x0.trans x) hp, fun z => by cases z⟩⟩
      omega
    | pair1 h =>
      refine ⟨_, rfl, rfl, _, rfl, ?_⟩
      rw [decide_eq_false (show ¬ V.int ((1 : Nat) : Int) = V.int 0 from fun z => absurd (V.int.inj z) (by decide))]
      refine iteF ?_
      refine ⟨_, rfl, rfl, _, rfl, ?_⟩
      rw [decide_eq_true (show V.int ((1 : Nat) : Int) = V.int 1 from rfl)]
      refine iteT ?_
      refine ⟨_, rfl, a, dx, _, rfl, ha, hf_no _ _ _ (by decide +kernel) (by decide +kernel) (by decide +kernel), _, rfl, a, d, L, Y, n, R, v1, t1, rfl, hH, G, few, tabs, ht1, fun p hp e => absurd e (h p hp), fun _ => ⟨true, T.e_NoPair_PairError, fun _ u nu => hand T (kind_pair T) rfl fun p H' x hp => q p H' (x0.trans x) hp, fun z => by cases z⟩⟩
    | pair2 h =>
      refine ⟨_, rfl, rfl, _, rfl, ?_⟩
      rw [decide_eq_false (show ¬ V.int ((2 : Nat) : Int) = V.int 0 from fun z => absurd (V.int.inj z) (by decide))]
      refine iteF ?_
      refine ⟨_, rfl, rfl, _, rfl, ?_⟩
      rw [decide_eq_false (show ¬ V.int ((2 : Nat) : Int) = V.int 1 from fun z => absurd (V.int.inj z) (by decide))]
      refine iteF ?_
      refine ⟨_, rfl, rfl, _, rfl, ?_⟩
      rw [decide_eq_true (show V.int ((2 : Nat) : Int) = V.int 2 from rfl)]
      refine iteT ?_
      refine ⟨_, rfl, a, dx, _, rfl, ha, hf_no _ _ _ (by decide +kernel) (by decide +kernel) (by decide +kernel), _, rfl, a, d, L, Y, n, R, v1, t1, rfl, hH, G.N, ht1, fun p hp e => absurd e (h p hp), fun _ => ⟨true, T.e_NoPair_PairError, fun _ u nu => hand T (kind_pair T) rfl fun p H' x hp => q p H' (x0.trans x) hp, fun z => by cases z⟩⟩
    | hue3 h =>
      refine ⟨_, rfl, rfl, _, rfl, ?_⟩
      rw [decide_eq_false (show ¬ V.int ((3 : Nat) : Int) = V.int 0 from fun z => absurd (V.int.inj z) (by decide))]
      refine iteF ?_
      refine ⟨_, rfl, rfl, _, rfl, ?_⟩
      rw [decide_eq_false (show ¬ V.int ((3 : Nat) : Int) = V.int 1 from fun z => absurd (V.int.inj z) (by decide))]
      refine iteF ?_
      refine ⟨_, rfl, rfl, _, rfl, ?_⟩
      rw [decide_eq_false (show ¬ V.int ((3 : Nat) : Int) = V.int 2 from fun z => absurd (V.int.inj z) (by decide))]
      refine iteF ?_
      refine ⟨_, rfl, rfl, _, rfl, ?_⟩
      rw [decide_eq_true (show V.int ((3 : Nat) : Int) = V.int 3 from rfl)]
      refine iteT ?_
      refine ⟨_, rfl, a, dx, _, rfl, ha, hf_no _ _ _ (by decide +kernel) (by decide +kernel) (by decide +kernel), _, rfl, a, d, L, Y, n, R, v1, t1, rfl, hH, few, G.N, ht1, fun k e lk => ?_, fun _ H1 x1 => ⟨true, T.e_BadHue_PairError, fun _ u nu => hand T (kind_hue T) rfl fun p H' x hp => q p H' (x1.trans x) hp, fun z => by cases z⟩⟩
      exfalso
      rw [e, isIn_of lk] at h
      cases h
    | side4 h =>
      refine ⟨_, rfl, rfl, _, rfl, ?_⟩
      rw [decide_eq_false (show ¬ V.int ((4 : Nat) : Int) = V.int 0 from fun z => absurd (V.int.inj z) (by decide))]
      refine iteF ?_
      refine ⟨_, rfl, rfl, _, rfl, ?_⟩
      rw [decide_eq_false (show ¬ V.int ((4 : Nat) : Int) = V.int 1 from fun z => absurd (V.int.inj z) (by decide))]
      refine iteF ?_
      refine ⟨_, rfl, rfl, _, rfl, ?_⟩
      rw [decide_eq_false (show ¬ V.int ((4 : Nat) : Int) = V.int 2 from fun z => absurd (V.int.inj z) (by decide))]
      refine iteF ?_
      refine ⟨_, rfl, rfl, _, rfl, ?_⟩
      rw [decide_eq_false (show ¬ V.int ((4 : Nat) : Int) = V.int 3 from fun z => absurd (V.int.inj z) (by decide))]
      refine iteF ?_
      refine ⟨_, rfl, rfl, _, rfl, ?_⟩
      rw [decide_eq_true (show V.int ((4 : Nat) : Int) = V.int 4 from rfl)]
      refine iteT ?_
      refine ⟨_, rfl, a, dx, _, rfl, ha, hf_no _ _ _ (by decide +kernel) (by decide +kernel) (by decide +kernel), _, rfl, _, rfl, a, d, L, Y, n, R, v1, v2, t1, t2, rfl, hH, few, ht1, ht2, fun _ H1 x1 => ⟨true, T.e_BadSide_PairError, fun _ u nu => hand T (kind_side T) rfl fun p H' x hp => q p H' (x1.trans x) hp, fun z => by cases z⟩, fun s hs => (by rw [h] at hs; cases hs), fun s e hs => (by rw [h] at hs; cases hs)⟩
    | @end4 _ _ _ sd h g =>
      refine ⟨_, rfl, rfl, _, rfl, ?_⟩
      rw [decide_eq_false (show ¬ V.int ((4 : Nat) : Int) = V.int 0 from fun z => absurd (V.int.inj z) (by decide))]
      refine iteF ?_
      refine ⟨_, rfl, rfl, _, rfl, ?_⟩
      rw [decide_eq_false (show ¬ V.int ((4 : Nat) : Int) = V.int 1 from fun z => absurd (V.int.inj z) (by decide))]
      refine iteF ?_
      refine ⟨_, rfl, rfl, _, rfl, ?_⟩
      rw [decide_eq_false (show ¬ V.int ((4 : Nat) : Int) = V.int 2 from fun z => absurd (V.int.inj z) (by decide))]
      refine iteF ?_
      refine ⟨_, rfl, rfl, _, rfl, ?_⟩
      rw [decide_eq_false (show ¬ V.int ((4 : Nat) : Int) = V.int 3 from fun z => absurd (V.int.inj z) (by decide))]
      refine iteF ?_
      refine ⟨_, rfl, rfl, _, rfl, ?_⟩
      rw [decide_eq_true (show V.int ((4 : Nat) : Int) = V.int 4 from rfl)]
      refine iteT ?_
      refine ⟨_, rfl, a, dx, _, rfl, ha, hf_no _ _ _ (by decide +kernel) (by decide +kernel) (by decide +kernel), _, rfl, _, rfl, a, d, L, Y, n, R, v1, v2, t1, t2, rfl, hH, few, ht1, ht2, fun z => (by rw [h] at z; cases z), fun s hs _ H1 x1 => ⟨true, T.e_BadEnd_PairError, fun _ u nu => hand T (kind_end T) rfl fun p H' x hp => q p H' (x1.trans x) hp, fun z => by cases z⟩, fun s e hs e2 lt => ?_⟩
      exfalso
      rw [h] at hs
      cases hs
      rw [e2, isIn_of lt] at g
      cases g
    | @side5 _ _ u1 u2 c t3 t4 hc h3 h4 h =>
      refine ⟨_, rfl, rfl, _, rfl, ?_⟩
      rw [decide_eq_false (show ¬ V.int ((5 : Nat) : Int) = V.int 0 from fun z => absurd (V.int.inj z) (by decide))]
      refine iteF ?_
      refine ⟨_, rfl, rfl, _, rfl, ?_⟩
      rw [decide_eq_false (show ¬ V.int ((5 : Nat) : Int) = V.int 1 from fun z => absurd (V.int.inj z) (by decide))]
      refine iteF ?_
      refine ⟨_, rfl, rfl, _, rfl, ?_⟩
      rw [decide_eq_false (show ¬ V.int ((5 : Nat) : Int) = V.int 2 from fun z => absurd (V.int.inj z) (by decide))]
      refine iteF ?_
      refine ⟨_, rfl, rfl, _, rfl, ?_⟩
      rw [decide_eq_false (show ¬ V.int ((5 : Nat) : Int) = V.int 3 from fun z => absurd (V.int.inj z) (by decide))]
      refine iteF ?_
      refine ⟨_, rfl, rfl, _, rfl, ?_⟩
      rw [decide_eq_false (show ¬ V.int ((5 : Nat) : Int) = V.int 4 from fun z => absurd (V.int.inj z) (by decide))]
      refine iteF ?_
      rcases hc with hc | hc
      · refine ⟨_, rfl, a, dx, _, rfl, ha, hf_no _ _ _ (by decide +kernel) (by decide +kernel) (by decide +kernel), _, rfl, _, rfl, _, rfl, .inl ⟨c, _, _, _, rfl, rfl, hc, atI_nat (j := 0) rfl, _, rfl, .inl ⟨c, _, _, _, rfl, rfl, hc, atI_nat (j := 1) rfl, a, d, L, Y, n, R, v1, _, _, _, t1, t2, _, _, rfl, hH, G, few, ht1, ht2, h3, h4, fun _ H1 x1 => ⟨true, T.e_BadSide_PairError, fun _ u nu => hand T (kind_side T) rfl fun p H' x hp => q p H' (x1.trans x) hp, fun z => by cases z⟩, fun s hs => (by rw [h] at hs; cases hs), fun s hs => (by rw [h] at hs; cases hs), fun s _ _ _ hs => (by rw [h] at hs; cases hs)⟩⟩⟩
      · refine ⟨_, rfl, a, dx, _, rfl, ha, hf_no _ _ _ (by decide +kernel) (by decide +kernel) (by decide +kernel), _, rfl, _, rfl, _, rfl, .inr ⟨c, _, _, _, rfl, rfl, hc, atI_nat (j := 0) rfl, _, rfl, .inr ⟨c, _, _, _, rfl, rfl, hc, atI_nat (j := 1) rfl, a, d, L, Y, n, R, v1, _, _, _, t1, t2, _, _, rfl, hH, G, few, ht1, ht2, h3, h4, fun _ H1 x1 => ⟨true, T.e_BadSide_PairError, fun _ u nu => hand T (kind_side T) rfl fun p H' x hp => q p H' (x1.trans x) hp, fun z => by cases z⟩, fun s hs => (by rw [h] at hs; cases hs), fun s hs => (by rw [h] at hs; cases hs), fun s _ _ _ hs => (by rw [h] at hs; cases hs)⟩⟩⟩
    | @end5 _ _ u1 u2 c t3 t4 sd hc h3 h4 h g =>
      refine ⟨_, rfl, rfl, _, rfl, ?_⟩
      rw [decide_eq_false (show ¬ V.int ((5 : Nat) : Int) = V.int 0 from fun z => absurd (V.int.inj z) (by decide))]
      refine iteF ?_
      refine ⟨_, rfl, rfl, _, rfl, ?_⟩
      rw [decide_eq_false (show ¬ V.int ((5 : Nat) : Int) = V.int 1 from fun z => absurd (V.int.inj z) (by decide))]
      refine iteF ?_
      refine ⟨_, rfl, rfl, _, rfl, ?_⟩
      rw [decide_eq_false (show ¬ V.int ((5 : Nat) : Int) = V.int 2 from fun z => absurd (V.int.inj z) (by decide))]
      refine iteF ?_
      refine ⟨_, rfl, rfl, _, rfl, ?_⟩
      rw [decide_eq_false (show ¬ V.int ((5 : Nat) : Int) = V.int 3 from fun z => absurd (V.int.inj z) (by decide))]
      refine iteF ?_
      refine ⟨_, rfl, rfl, _, rfl, ?_⟩
      rw [decide_eq_false (show ¬ V.int ((5 : Nat) : Int) = V.int 4 from fun z => absurd (V.int.inj z) (by decide))]
      refine iteF ?_
      rcases hc with hc | hc
      · refine ⟨_, rfl, a, dx, _, rfl, ha, hf_no _ _ _ (by decide +kernel) (by decide +kernel) (by decide +kernel), _, rfl, _, rfl, _, rfl, .inl ⟨c, _, _, _, rfl, rfl, hc, atI_nat (j := 0) rfl, _, rfl, .inl ⟨c, _, _, _, rfl, rfl, hc, atI_nat (j := 1) rfl, a, d, L, Y, n, R, v1, _, _, _, t1, t2, _, _, rfl, hH, G, few, ht1, ht2, h3, h4, fun z => (by rw [h] at z; cases z), fun s hs _ H1 x1 => ⟨true, T.e_BadEnd_PairError, fun _ u nu => hand T (kind_end T) rfl fun p H' x hp => q p H' (x1.trans x) hp, fun z => by cases z⟩, fun s hs z => (by rw [h] at hs; cases hs; rw [g] at z; cases z), fun s e one other hs e2 _ _ lt => (by rw [h] at hs; cases hs; rw [e2, isIn_of lt] at g; cases g)⟩⟩⟩
      · refine ⟨_, rfl, a, dx, _, rfl, ha, hf_no _ _ _ (by decide +kernel) (by decide +kernel) (by decide +kernel), _, rfl, _, rfl, _, rfl, .inr ⟨c, _, _, _, rfl, rfl, hc, atI_nat (j := 0) rfl, _, rfl, .inr ⟨c, _, _, _, rfl, rfl, hc, atI_nat (j := 1) rfl, a, d, L, Y, n, R, v1, _, _, _, t1, t2, _, _, rfl, hH, G, few, ht1, ht2, h3, h4, fun z => (by rw [h] at z; cases z), fun s hs _ H1 x1 => ⟨true, T.e_BadEnd_PairError, fun _ u nu => hand T (kind_end T) rfl fun p H' x hp => q p H' (x1.trans x) hp, fun z => by cases z⟩, fun s hs z => (by rw [h] at hs; cases hs; rw [g] at z; cases z), fun s e one other hs e2 _ _ lt => (by rw [h] at hs; cases hs; rw [e2, isIn_of lt] at g; cases g)⟩⟩⟩
    | @hue5 _ _ u1 u2 c t3 t4 sd hc h3 h4 h g f =>
      refine ⟨_, rfl, rfl, _, rfl, ?_⟩
      rw [decide_eq_false (show ¬ V.int ((5 : Nat) : Int) = V.int 0 from fun z => absurd (V.int.inj z) (by decide))]
      refine iteF ?_
      refine ⟨_, rfl, rfl, _, rfl, ?_⟩
      rw [decide_eq_false (show ¬ V.int ((5 : Nat) : Int) = V.int 1 from fun z => absurd (V.int.inj z) (by decide))]
      refine iteF ?_
      refine ⟨_, rfl, rfl, _, rfl, ?_⟩
      rw [decide_eq_false (show ¬ V.int ((5 : Nat) : Int) = V.int 2 from fun z => absurd (V.int.inj z) (by decide))]
      refine iteF ?_
      refine ⟨_, rfl, rfl, _, rfl, ?_⟩
      rw [decide_eq_false (show ¬ V.int ((5 : Nat) : Int) = V.int 3 from fun z => absurd (V.int.inj z) (by decide))]
      refine iteF ?_
      refine ⟨_, rfl, rfl, _, rfl, ?_⟩
      rw [decide_eq_false (show ¬ V.int ((5 : Nat) : Int) = V.int 4 from fun z => absurd (V.int.inj z) (by decide))]
      refine iteF ?_
      rcases hc with hc | hc
      · refine ⟨_, rfl, a, dx, _, rfl, ha, hf_no _ _ _ (by decide +kernel) (by decide +kernel) (by decide +kernel), _, rfl, _, rfl, _, rfl, .inl ⟨c, _, _, _, rfl, rfl, hc, atI_nat (j := 0) rfl, _, rfl, .inl ⟨c, _, _, _, rfl, rfl, hc, atI_nat (j := 1) rfl, a, d, L, Y, n, R, v1, _, _, _, t1, t2, _, _, rfl, hH, G, few, ht1, ht2, h3, h4, fun z => (by rw [h] at z; cases z), fun s hs z => (by rw [h] at hs; cases hs; rw [g] at z; cases z), fun s hs _ _ H1 x1 => ⟨true, T.e_BadHue_PairError, fun _ u nu => hand T (kind_hue T) rfl fun p H' x hp => q p H' (x1.trans x) hp, fun z => by cases z⟩, fun s e one other hs e2 e3 e4 lt l1 l2 ne => (by
          exfalso
          rcases f with f | f
          · rw [e3, e4, isIn_of l1, isIn_of l2] at f
            cases f
          · rw [e3, e4] at f
            have := V.int.inj f
            exact ne (by omega))⟩⟩⟩
      · refine ⟨_, rfl, a, dx, _, rfl, ha, hf_no _ _ _ (by decide +kernel) (by decide +kernel) (by decide +kernel), _, rfl, _, rfl, _, rfl, .inr ⟨c, _, _, _, rfl, rfl, hc, atI_nat (j := 0) rfl, _, rfl, .inr ⟨c, _, _, _, rfl, rfl, hc, atI_nat (j := 1) rfl, a, d, L, Y, n, R, v1, _, _, _, t1, t2, _, _, rfl, hH, G, few, ht1, ht2, h3, h4, fun z => (by rw [h] at z; cases z), fun s hs z => (by rw [h] at hs; cases hs; rw [g] at z; cases z), fun s hs _ _ H1 x1 => ⟨true, T.e_BadHue_PairError, fun _ u nu => hand T (kind_hue T) rfl fun p H' x hp => q p H' (x1.trans x) hp, fun z => by cases z⟩, fun s e one other hs e2 e3 e4 lt l1 l2 ne => (by
          exfalso
          rcases f with f | f
          · rw [e3, e4, isIn_of l1, isIn_of l2] at f
            cases f
          · rw [e3, e4] at f
            have := V.int.inj f
            exact ne (by omega))⟩⟩⟩
    | @free5 _ c sd en one other hc h g h1 h2 ne f =>
      refine ⟨_, rfl, rfl, _, rfl, ?_⟩
      rw [decide_eq_false (show ¬ V.int ((5 : Nat) : Int) = V.int 0 from fun z => absurd (V.int.inj z) (by decide))]
      refine iteF ?_
      refine ⟨_, rfl, rfl, _, rfl, ?_⟩
      rw [decide_eq_false (show ¬ V.int ((5 : Nat) : Int) = V.int 1 from fun z => absurd (V.int.inj z) (by decide))]
      refine iteF ?_
      refine ⟨_, rfl, rfl, _, rfl, ?_⟩
      rw [decide_eq_false (show ¬ V.int ((5 : Nat) : Int) = V.int 2 from fun z => absurd (V.int.inj z) (by decide))]
      refine iteF ?_
      refine ⟨_, rfl, rfl, _, rfl, ?_⟩
      rw [decide_eq_false (show ¬ V.int ((5 : Nat) : Int) = V.int 3 from fun z => absurd (V.int.inj z) (by decide))]
      refine iteF ?_
      refine ⟨_, rfl, rfl, _, rfl, ?_⟩
      rw [decide_eq_false (show ¬ V.int ((5 : Nat) : Int) = V.int 4 from fun z => absurd (V.int.inj z) (by decide))]
      refine iteF ?_
      have h3 := TyB.int (K := K) (H := H) ((one : Nat) : Int)
      have h4 := TyB.int (K := K) (H := H) ((other : Nat) : Int)
      rcases hc with hc | hc
      · refine ⟨_, rfl, a, dx, _, rfl, ha, hf_no _ _ _ (by decide +kernel) (by decide +kernel) (by decide +kernel), _, rfl, _, rfl, _, rfl, .inl ⟨c, _, _, _, rfl, rfl, hc, atI_nat (j := 0) rfl, _, rfl, .inl ⟨c, _, _, _, rfl, rfl, hc, atI_nat (j := 1) rfl, a, d, L, Y, n, R, v1, _, _, _, t1, t2, _, _, rfl, hH, G, few, ht1, ht2, h3, h4, fun z => (by rw [h] at z; cases z), fun s hs z => (by rw [h] at hs; cases hs; rw [isIn_of g] at z; cases z), fun s hs _ z => (by
          exfalso
          rcases z with z | z
          · rw [isIn_of h1, isIn_of h2] at z
            cases z
          · have := V.int.inj z
            exact ne (by omega)), fun s e one' other' hs e2 e3 e4 lt l1 l2 ne' => (by
          rw [h] at hs
          cases hs
          have k1 : e = en := by have := V.int.inj e2; omega
          have k2 : one' = one := by have := V.int.inj e3; omega
          have k3 : other' = other := by have := V.int.inj e4; omega
          subst k1 k2 k3
          exact ⟨fun _ H1 x1 => ⟨true, T.e_NotFree_PairError, fun _ u nu => hand T (kind_free T) rfl fun p H' x hp => q p H' (x1.trans x) hp, fun z => by cases z⟩, fun z => absurd z f⟩)⟩⟩⟩
      · refine ⟨_, rfl, a, dx, _, rfl, ha, hf_no _ _ _ (by decide +kernel) (by decide +kernel) (by decide +kernel), _, rfl, _, rfl, _, rfl, .inr ⟨c, _, _, _, rfl, rfl, hc, atI_nat (j := 0) rfl, _, rfl, .inr ⟨c, _, _, _, rfl, rfl, hc, atI_nat (j := 1) rfl, a, d, L, Y, n, R, v1, _, _, _, t1, t2, _, _, rfl, hH, G, few, ht1, ht2, h3, h4, fun z => (by rw [h] at z; cases z), fun s hs z => (by rw [h] at hs; cases hs; rw [isIn_of g] at z; cases z), fun s hs _ z => (by
          exfalso
          rcases z with z | z
          · rw [isIn_of h1, isIn_of h2] at z
            cases z
          · have := V.int.inj z
            exact ne (by omega)), fun s e one' other' hs e2 e3 e4 lt l1 l2 ne' => (by
          rw [h] at hs
          cases hs
          have k1 : e = en := by have := V.int.inj e2; omega
          have k2 : one' = one := by have := V.int.inj e3; omega
          have k3 : other' = other := by have := V.int.inj e4; omega
          subst k1 k2 k3
          exact ⟨fun _ H1 x1 => ⟨true, T.e_NotFree_PairError, fun _ u nu => hand T (kind_free T) rfl fun p H' x hp => q p H' (x1.trans x) hp, fun z => by cases z⟩, fun z => absurd z f⟩)⟩⟩⟩
end
end My

set_option Elab.async false
set_option linter.all false
set_option maxRecDepth 100000
set_option maxHeartbeats 4000000
namespace My
open PySem PySem.Spec PyProof.Rows L2 Own TL Mt
def stateD (R : List Pr) (L Y : Nat) : PyData := .list [.int (cnt R : Nat), rowsD (pairsOf R), .tuple [natsD (fullOf R 0 L), natsD (fullOf R 1 Y)]]
theorem stateD_ok (R : List Pr) (L Y : Nat) : okD 4 (stateD R L Y) := okD.list fun d hd => by
  simp only [List.mem_cons, List.not_mem_nil, or_false] at hd
  rcases hd with rfl | rfl | rfl
  · exact (okD_int _).of (by decide)
  · exact rowsD_ok _
  · refine okD.tuple fun d hd => ?_
    simp only [List.mem_cons, List.not_mem_nil, or_false] at hd
    rcases hd with rfl | rfl <;> exact natsD_ok _
/-- signs that a text may have -/
def okS (l : List Nat) : Prop := ∀ c ∈ l, c < 1114112
theorem okD_str {x : Str} (h : okS (tl x)) : okD 1 (.str x) := by
  refine ⟨?_, by simp [PyData.depth]⟩
  rw [show (PyData.str x).canLay0 = PyData.strOk x by simp [PyData.canLay0]]
  unfold PyData.strOk
  rw [← Array.all_toList, List.all_eq_true]
  exact fun c hc => decide_eq_true (h c hc)
theorem okS_of {x : Str} (h : x.cps.all (· < 128) = true) : okS (tl x) := fun c hc => by
  rw [← Array.all_toList] at h
  have := of_decide_eq_true (List.all_eq_true.mp h c hc)
  omega
def kindD (t : String) : PyData := .tuple [.str (Str.ofString t)]
theorem mod_nat (x : Int) {m : Int} (hm : 0 < m) : ∃ k : Nat, x % m = (k : Nat) ∧ (k : Int) < m := by
  have h0 := Int.emod_nonneg x (show m ≠ 0 by omega)
  have h1 := Int.emod_lt_of_pos x hm
  exact ⟨(x % m).toNat, by omega, by omega⟩
section
variable {P : Program} {w : World} {K : PySem.W.Frag} {mg : Str → Option Value} {base : Heap} {W : Tbs}
/-- what was refused is told as a tuple of its kind: it is not other than that -/
theorem neK {t : String} {G : Hp} {p : Addr} {Q : Bool → Hp → Prop} (hp : G p = some (.tup [.str (Str.ofString t)])) (ok : okD 2 (kindD t)) (q : ∀ H', Ext W G H' → Q false H') :
    ([V.str (Str.ofString t)] : List V).length ≤ sizeLine ∧ ∀ r, G r = none → rNeD K (.ref p) (.ref r) (upd G r (.tup [.str (Str.ofString t)])) fun x H1 => ∃ c, x = .bl c ∧ Q c H1 := by
  refine ⟨by show 1 ≤ sizeLine; decide, fun r nr => ?_⟩
  refine newO W (H := G) (p := r) nr fun G2 y2 hr2 => ?_
  refine ⟨kindD t, kindD t, .tup (SqT.of (y2.tp hp)) (.cons (.str _) .nil), .tup (SqT.of hr2) (.cons (.str _) .nil), ok.shaped, ok.shaped, _, rfl, ?_⟩
  rw [eqv_same _ ok.1]
  exact q G2 y2
theorem kindOk {t : String} (h : (Str.ofString t).cps.all (· < 128) = true) : okD 2 (kindD t) := okD.tuple fun d hd => by
  rw [List.mem_singleton.mp hd]
  exact okD_str (okS_of h)
def spState (K : PySem.W.Frag) (W : Tbs) (C : Addr) : Sp := fun vs H Q _ => ∃ (a d : Addr) (L Y n : Nat) (R : List Pr), vs = [.ref a] ∧ HallOf K C H a d L Y n R ∧ R.length ≤ 50 ∧ (R.map (·.n)).Nodup ∧ L ≤ 8 ∧ Y ≤ 8 ∧
  ∀ p H', Ext W H H' → (∀ H'', Ext W H' H'' → Dp K H'' (.ref p) (stateD R L Y)) → Q (.ref p) H'
theorem ok_l_state (T : Txt K mg) : FnOk P w K mg base CX0 5 T.f_l_state T.d_l_state ["_law_hall"] (spState K W T.C_Hall) := by
  have ok_Hall_count : FnOk P w K mg base CX0 3 T.f_Hall_count T.d_Hall_count ["self"] (spCount0 K W T.C_Hall) := ok_Hall_count T
  have ok_Hall_pairs : FnOk P w K mg base CX0 1 T.f_Hall_pairs T.d_Hall_pairs ["self"] (spPairs K W T.C_Hall) := ok_Hall_pairs T
  have ok_Hall_fullest : FnOk P w K mg base CX0 4 T.f_Hall_fullest T.d_Hall_fullest ["self"] (spFullest K W T.C_Hall) := ok_Hall_fullest T
  refine T.D_l_state.F.ok sc_l_state (fun vs H Q E h => ?_) (fun cdv A outer s H vs Q E hr h => ?_)
  · obtain ⟨a, d, L, Y, n, R, rfl, _⟩ := h
    rfl
  · obtain ⟨a, d, L, Y, n, R, rfl, hH, few, N, l8, y8, q⟩ := h
    refine ⟨_, (pss_one (ps_ret (pe_lst (pa_cons (pe_meth0 (pv 0) T.cl_Hall T.D_Hall_count.m ok_Hall_count (hr.mono (by decide)) T.D_Hall_count.b .nil pass0) (pa_cons (pe_meth0 (pv 0) T.cl_Hall T.D_Hall_pairs.m ok_Hall_pairs (hr.mono (by decide)) T.D_Hall_pairs.b .nil pass0) (pa_cons (pe_meth0 (pv 0) T.cl_Hall T.D_Hall_fullest.m ok_Hall_fullest (hr.mono (by decide)) T.D_Hall_fullest.b .nil pass0) pa_nil)))))), ?_⟩
    obtain ⟨dx, e0, kv, ha, he, hd, hE⟩ := hH.ex
    refine ⟨_, rfl, a, dx, _, rfl, ha, hf_no _ _ _ (by decide +kernel) (by decide +kernel) (by decide +kernel), a, d, L, Y, n, R, rfl, hH, by omega, fun H1 x1 => ?_⟩
    have hH1 := hH.ext x1
    obtain ⟨dx1, e1, kv1, ha1, _⟩ := hH1.ex
    refine ⟨_, rfl, a, dx1, _, rfl, ha1, hf_no _ _ _ (by decide +kernel) (by decide +kernel) (by decide +kernel), a, d, L, Y, n, R, rfl, hH1, by omega, N, fun b as H2 nb x2 hb hA => ?_⟩
    have hH2 := hH1.ext x2
    obtain ⟨dx2, e2, kv2, ha2, _⟩ := hH2.ex
    refine ⟨_, rfl, a, dx2, _, rfl, ha2, hf_no _ _ _ (by decide +kernel) (by decide +kernel) (by decide +kernel), a, d, L, Y, n, R, rfl, hH2, few, l8, y8, fun t u1 u2 H3 nt nu1 nu2 nu x3 ht hu1 hu2 => ?_⟩
    refine ⟨by show 3 ≤ sizeLine; decide, fun p np => ?_⟩
    refine newO W (H := H3) (p := p) np fun H4 x4 hp => ?_
    refine q p H4 (x1.trans (x2.trans (x3.trans x4))) fun H5 x5 => ?_
    have x35 := x4.trans x5
    have x25 := x3.trans x35
    exact .lst (SqL.of (x5.lst hp)) (.cons (.int _) (.cons (dp_rows ⟨as, SqL.of (x25.lst hb), x25.each hA⟩) (.cons (.tup (SqT.of (x35.tp ht)) (.cons (dp_nats (SqL.of (x35.lst hu1))) (.cons (dp_nats (SqL.of (x35.lst hu2))) .nil))) .nil)))
def spCountsRefused (W : Tbs) : Sp := fun vs H Q _ => ∃ c : Int, vs = [.int c] ∧ (∀ p ∈ W.l, LamX.TabS H p.1 p.2) ∧ ∀ H', Ext W H H' → Q (.bl true) H'
theorem ok_l_counts_refused (T : Txt K mg) (B : LamX.TabB base mg T.k_place T.p_place) (WO : Wok W T.p_place) : FnOk P w K mg base CX0 11 T.f_l_counts_refused T.d_l_counts_refused ["_law_cell"] (spCountsRefused W) := by
  have ok_l_made : FnOk P w K mg base CX0 10 T.f_l_made T.d_l_made ["_law_way", "_law_lefts", "_law_rights"] (spMade K W T.C_Hall) := ok_l_made T B WO
  refine T.D_l_counts_refused.F.ok sc_l_counts_refused (fun vs H Q E h => ?_) (fun cdv A outer s H vs Q E hr h => ?_)
  · obtain ⟨c, rfl, _⟩ := h
    rfl
  · obtain ⟨c, rfl, tabs, q⟩ := h
    refine ⟨_, (pss_cons (ps_set (i := 1) sc_l_counts_refused.nd rfl (.inl rfl) (pe_ix (ixL K) (pe_lst (pa_cons pe_int (pa_cons (pe_un un_neg pe_int) (pa_cons pe_int (pa_cons pe_bl (pa_cons pe_non (pa_cons pe_str (pa_cons (pe_lst (pa_cons pe_int pa_nil)) (pa_cons (pe_op op_add pe_int (pe_op op_mod (pe_op op_fdiv (pv 0) pe_int) (pe_op op_pow pe_int pe_int))) (pa_cons pe_bl (pa_cons (pe_tup (pa_cons pe_int pa_nil)) pa_nil))))))))))) (pe_op op_mod (pv 0) pe_int) (fun _ _ => rfl)))
    (pss_cons (ps_set (i := 2) sc_l_counts_refused.nd rfl (.inl rfl) (pe_op op_add pe_int (pe_op op_mod (pe_op op_fdiv (pv 0) pe_int) pe_int)))
    (pss_cons (ps_for PassesOwn.never rfl (pi_range1 rfl T.z_range (pa_cons pe_int pa_nil)) (pg_name (i := 3) sc_l_counts_refused.nd rfl (.inl rfl)) 
      (pss_cons (ps_if (PW.pt (pw_or (pt_cmpR (neD K hr.units) (pe_call ok_l_made (hr.mono (by decide)) rfl T.D_l_made.g T.D_l_made.F.kp T.D_l_made.b .nil pass0 (pa_cons (pv 3) (pa_cons (pv 1) (pa_cons (pv 2) pa_nil)))) (pe_tup (pa_cons pe_str pa_nil)) (nomark _)) (pw_or1 (pt_cmpR (neD K hr.units) (pe_call ok_l_made (hr.mono (by decide)) rfl T.D_l_made.g T.D_l_made.F.kp T.D_l_made.b .nil pass0 (pa_cons (pv 3) (pa_cons (pv 2) (pa_cons (pv 1) pa_nil)))) (pe_tup (pa_cons pe_str pa_nil)) (nomark _))))) 
        (pss_one (ps_ret pe_bl)) pss_nil)
      (pss_one (ps_if (pt_val (pe_callB (isiO K) (by rfl) T.z_isinstance (by decide +kernel) (pa_cons (pe_call ok_l_made (hr.mono (by decide)) rfl T.D_l_made.g T.D_l_made.F.kp T.D_l_made.b .nil pass0 (pa_cons (pv 3) (pa_cons (pv 2) (pa_cons (pe_op op_sub pe_int (pv 2)) pa_nil)))) (pa_cons (pe_bltn (v := .ty "tuple") (by rfl) T.z_tuple (by decide +kernel) rfl) pa_nil)))) 
        (pss_one (ps_ret pe_bl)) pss_nil))))
    (pss_one (ps_ret (pe_and (pe_cmpR op_eq (pe_gi rfl T.c_MOST_ENDS) pe_int (nomark _)) (pe_one (pe_cmpR op_eq (pe_gi rfl T.c_MOST_PAIRS) pe_int (nomark _))))))))), ?_⟩
    refine ⟨_, rfl, by show 1 ≤ sizeLine; decide, fun p1 np1 => ?_⟩
    refine newO W (H := H) (p := p1) np1 fun H1 x1 hp1 => ?_
    refine ⟨_, rfl, _, _, rfl, rfl, ⟨by decide, by decide⟩, _, _, rfl, rfl, ⟨by decide, by decide, by decide⟩, _, _, rfl, rfl, (by show (0 : Int) < 10 ^ 12; decide), _, _, rfl, rfl, by show 1 ≤ sizeLine; decide, fun p2 np2 => ?_⟩
    dsimp only
    have far : ∀ x : Int, 9 ≤ 9 + x % 10 ^ (12 : Int).toNat := fun x => by
      have := Int.emod_nonneg x (show (10 : Int) ^ (12 : Int).toNat ≠ 0 by decide)
      omega
    have hfar := far (c / 10)
    generalize 9 + c / 10 % 10 ^ (12 : Int).toNat = xf at hfar
    refine newO W (H := H1) (p := p2) np2 fun H2 x2 hp2 => ?_
    refine ⟨by show 10 ≤ sizeLine; decide, fun p3 np3 => ?_⟩
    refine newO W (H := H2) (p := p3) np3 fun H3 x3 hp3 => ?_
    obtain ⟨k, ek, bk⟩ := mod_nat c (m := 10) (by decide)
    refine ⟨_, rfl, _, _, rfl, rfl, (by show (0 : Int) < 10; decide), ?_⟩
    dsimp only
    rw [ek]
    have x03 := x1.trans (x2.trans x3)
    obtain ⟨bv, bt, eb, hbt, nb⟩ : ∃ (bv : V) (bt : String), ([V.int 0, .int (-1), .int 9, .bl true, .non, .str (Str.ofString "3"), .ref p1, .int xf, .bl false, .ref p2] : List V)[k]? = some bv ∧ TyB K H3 bv bt ∧ isIn bv 1 8 = false := by
      match k, bk with
      | 0, _ => exact ⟨_, _, rfl, .int _, by decide⟩
      | 1, _ => exact ⟨_, _, rfl, .int _, by decide⟩
      | 2, _ => exact ⟨_, _, rfl, .int _, by decide⟩
      | 3, _ => exact ⟨_, _, rfl, .bl _, rfl⟩
      | 4, _ => exact ⟨_, _, rfl, .non, rfl⟩
      | 5, _ => exact ⟨_, _, rfl, .str _, rfl⟩
      | 6, _ => exact ⟨_, _, rfl, .lst (SqL.of ((x2.trans x3).lst hp1)), rfl⟩
      | 7, _ =>
        refine ⟨_, _, rfl, .int _, ?_⟩
        show (decide ((1 : Int) ≤ xf) && decide (xf ≤ 8)) = false
        rw [decide_eq_false (show ¬ xf ≤ 8 by omega), Bool.and_false]
      | 8, _ => exact ⟨_, _, rfl, .bl _, rfl⟩
      | 9, _ => exact ⟨_, _, rfl, .tup (.inl (.inl (x3.tp hp2))), rfl⟩
      | n + 10, h => exact absurd h (by omega)
    refine ⟨p3, _, _, _, rfl, rfl, SqL.of hp3, atI_nat eb, ?_⟩
    refine ⟨_, rfl, _, _, rfl, rfl, ⟨by decide, by decide⟩, _, _, rfl, rfl, (by show (0 : Int) < 8; decide), _, _, rfl, rfl, ?_⟩
    dsimp only
    obtain ⟨g, eg, bg⟩ := mod_nat (c / 100) (m := 8) (by decide)
    rw [eg, show (1 : Int) + (g : Nat) = ((1 + g : Nat) : Int) by omega]
    have g18 := in18 (L := 1 + g) (by omega) (by omega)
    refine ⟨3, rfl, by decide, by decide, for_range (lo := 0) (n := 3) (fun i σ G => ∃ v3 : Option V, σ = [some (.int c), some bv, some (.int ((1 + g : Nat) : Int)), v3] ∧ Ext W H3 G) ⟨none, rfl, .refl⟩ ?_ ?_⟩
    · rintro i σ G hi ⟨v3, rfl, y⟩
      rw [show (0 : Int) + (i : Nat) = ((i : Nat) : Int) by omega]
      have tabsG : ∀ p ∈ W.l, LamX.TabS G p.1 p.2 := fun p hp => y.l p hp (x03.l p hp (tabs p hp))
      have hbG := tyb_ext y hbt
      have ig : TyB K G (.int ((1 + g : Nat) : Int)) "int" := .int _
      refine ⟨_, rfl, _, rfl, _, rfl, i, bv, _, bt, "int", rfl, hbG, ig, tabsG, fun L Y e1 e2 l1 l2 y1 y2 => ?_, fun z p G1 y1 hp => ?_⟩
      · exfalso
        rw [e1, in18 l1 l2] at nb
        cases nb
      refine neK (W := W) hp (kindOk (by decide +kernel)) fun G2 y2 => iteF ?_
      have y12 := y1.trans y2
      have tabs2 : ∀ p ∈ W.l, LamX.TabS G2 p.1 p.2 := fun p hp => y12.l p hp (tabsG p hp)
      refine ⟨_, rfl, _, rfl, _, rfl, i, _, bv, "int", bt, rfl, .int _, tyb_ext y12 hbG, tabs2, fun L Y e1 e2 l1 l2 y1 y2 => ?_, fun z p2 G3 y3 hp2 => ?_⟩
      · exfalso
        rw [e2, in18 y1 y2] at nb
        cases nb
      refine neK (W := W) hp2 (kindOk (by decide +kernel)) fun G4 y4 => iteF ?_
      have y14 := y12.trans (y3.trans y4)
      have tabs4 : ∀ p ∈ W.l, LamX.TabS G4 p.1 p.2 := fun p hp => y14.l p hp (tabsG p hp)
      refine ⟨_, rfl, _, rfl, _, rfl, _, _, rfl, rfl, i, _, _, "int", "int", rfl, .int _, .int _, tabs4, fun L Y e1 e2 l1 l2 y1 y2 v G5 y5 hm => ?_, fun z => ?_⟩
      · have y15 := y.trans (y14.trans y5)
        obtain ⟨b, rfl, ⟨dx, fs, hb⟩ | ⟨xs, hb⟩⟩ := hm
        · exact ⟨_, _, _, _, false, rfl, ClsV.ty _, .base (.ins hb T.cl_Hall T.r_c T.r_n T.r_t T.r_m), T.r_k, ⟨_, rfl, iteF ⟨_, rfl, y15⟩⟩⟩
        · exact ⟨_, _, _, _, false, rfl, ClsV.ty _, .base (.lst hb), kit_ty (by decide +kernel), ⟨_, rfl, iteF ⟨_, rfl, y15⟩⟩⟩
      · exfalso
        have e9 : (9 : Int) - ((1 + g : Nat) : Int) = ((8 - g : Nat) : Int) := by omega
        have z : (isIn (V.int ((1 + g : Nat) : Int)) 1 8 && isIn (V.int (9 - ((1 + g : Nat) : Int))) 1 8) = false := z
        rw [g18, e9, in18 (by omega) (by omega)] at z
        cases z
    · rintro σ G ⟨v3, rfl, y⟩
      refine ⟨rfl, _, rfl, ?_⟩
      rw [decide_eq_true (show V.int 8 = V.int 8 from rfl), if_pos rfl]
      refine ⟨rfl, ?_⟩
      rw [decide_eq_true (show V.int 40 = V.int 40 from rfl)]
      exact q G (x03.trans y)
end
end My

set_option Elab.async false
set_option linter.all false
set_option maxRecDepth 100000
set_option maxHeartbeats 4000000
namespace My
open PySem PySem.Spec PyProof.Rows L2 Own TL Mt
theorem TyB.fx {K : PySem.W.Frag} {W : Tbs} {H H' : Hp} {F : Addr} {v : V} {t : String} (x1 : Fx W [F] H H') (ht : TyB K H v t) (ne : v ≠ .ref F) : TyB K H' v t := by
  cases ht with
  | non => exact .non
  | bl b => exact .bl b
  | int i => exact .int i
  | str x => exact .str x
  | byt b => exact .byt b
  | lst h => exact .lst (x1.seq h (by simp; exact fun z => ne (by rw [z])))
  | tup h => exact .tup (x1.tup h)
  | dK h => exact .dK (x1.dk h (by simp; exact fun z => ne (by rw [z])))
section
variable {P : Program} {w : World} {K : PySem.W.Frag} {mg : Str → Option Value} {base : Heap} {W : Tbs}
def spEndsRefused (K : PySem.W.Frag) (W : Tbs) (C : Addr) : Sp := fun vs H Q _ => ∃ (a d z : Addr) (L Y n : Nat) (R : List Pr) (c : Int), vs = [.ref a, .ref z, .int c] ∧ HallOf K C H a d L Y n R ∧ SqT K H z [.int (L : Nat), .int (Y : Nat)] ∧ Good R ∧ (∀ p ∈ R, p.n < n) ∧ R.length ≤ 40 ∧
  1 ≤ L ∧ L ≤ 8 ∧ 1 ≤ Y ∧ Y ≤ 8 ∧ (∀ p ∈ W.l, LamX.TabS H p.1 p.2) ∧ ∀ H', Ext W H H' → Q (.bl true) H'
theorem ok_l_ends_refused (T : Txt K mg) (B : LamX.TabB base mg T.k_place T.p_place) (WO : Wok W T.p_place) : FnOk P w K mg base CX0 8 T.f_l_ends_refused T.d_l_ends_refused ["_law_hall", "_law_sizes", "_law_cell"] (spEndsRefused K W T.C_Hall) := by
  have ok_l_asked : FnOk P w K mg base CX0 7 T.f_l_asked T.d_l_asked ["_law_hall", "_law_way", "_law_one", "_law_other", "_law_third"] (spAsked K W T.C_Hall) := ok_l_asked T B WO
  have ok_l_state : FnOk P w K mg base CX0 5 T.f_l_state T.d_l_state ["_law_hall"] (spState K W T.C_Hall) := ok_l_state T
  refine T.D_l_ends_refused.F.ok sc_l_ends_refused (fun vs H Q E h => ?_) (fun cdv A outer s H vs Q E hr h => ?_)
  · obtain ⟨a, d, z, L, Y, n, R, c, rfl, _⟩ := h
    rfl
  · obtain ⟨a, d, z, L, Y, n, R, c, rfl, hH, hz, G, hn, few, L1, L8, Y1, Y8, tabs, q⟩ := h
    refine ⟨_, (pss_cons (ps_set (i := 3) sc_l_ends_refused.nd rfl (.inl rfl) (pe_op op_mod (pe_op op_fdiv (pv 2) pe_int) (pe_op op_pow pe_int pe_int)))
    (pss_cons (ps_set (i := 4) sc_l_ends_refused.nd rfl (.inl rfl) (pe_lst pa_nil))
    (pss_cons (ps_for PassesOwn.never rfl (pi_tup (pv 1)) (pg_name (i := 5) sc_l_ends_refused.nd rfl (.inl rfl)) 
      (pss_cons (ps_set (i := 6) sc_l_ends_refused.nd rfl (.inl rfl) (pe_lst (pa_cons (pe_op op_add (pv 5) (pe_ix (ixL K) (pe_lst (pa_cons pe_int (pa_cons pe_int (pa_cons (pv 3) pa_nil)))) (pe_op op_mod (pv 2) pe_int) (fun _ _ => rfl))) (pa_cons (pe_op op_sub (pe_un un_neg pe_int) (pv 3)) (pa_cons pe_bl (pa_cons pe_non (pa_cons pe_str (pa_cons (pe_lst (pa_cons pe_int pa_nil)) (pa_cons (pe_tup (pa_cons pe_int pa_nil)) (pa_cons pe_dnewK (pa_cons pe_bl (pa_cons pe_str pa_nil))))))))))))
      (pss_one (ps_expr (bmC K (pe_bm PySem.F.plainAttrs_list PySem.F.slot_list_append PySem.F.type_list_append mt_append (pv 4) (pa_cons (pe_ix (ixL K) (pv 6) (pe_op op_mod (pv 2) pe_int) (fun _ _ => rfl)) pa_nil)))))))
    (pss_cons (ps_set (i := 7) sc_l_ends_refused.nd rfl (.inl rfl) (pe_call ok_l_state (hr.mono (by decide)) rfl T.D_l_state.g T.D_l_state.F.kp T.D_l_state.b .nil pass0 (pa_cons (pv 0) pa_nil)))
    (pss_cons (ps_if (PW.pt (pw_or (pt_cmpR (neD K hr.units) (pe_call ok_l_asked (hr.mono (by decide)) rfl T.D_l_asked.g T.D_l_asked.F.kp T.D_l_asked.b .nil pass0 (pa_cons (pv 0) (pa_cons pe_int (pa_cons (pe_ix (ixL K) (pv 4) pe_int (fun _ _ => rfl)) (pa_cons pe_int (pa_cons pe_int pa_nil)))))) (pe_tup (pa_cons pe_str pa_nil)) (nomark _)) (pw_or1 (pt_cmpR (neD K hr.units) (pe_call ok_l_asked (hr.mono (by decide)) rfl T.D_l_asked.g T.D_l_asked.F.kp T.D_l_asked.b .nil pass0 (pa_cons (pv 0) (pa_cons pe_int (pa_cons pe_int (pa_cons (pe_ix (ixL K) (pv 4) pe_int (fun _ _ => rfl)) (pa_cons pe_int pa_nil)))))) (pe_tup (pa_cons pe_str pa_nil)) (nomark _))))) 
      (pss_one (ps_ret pe_bl)) pss_nil)
    (pss_cons (ps_for PassesOwn.never rfl (pi_range1 rfl T.z_range (pa_cons pe_int pa_nil)) (pg_name (i := 8) sc_l_ends_refused.nd rfl (.inl rfl)) 
      (pss_cons (ps_set (i := 9) sc_l_ends_refused.nd rfl (.inl rfl) (pe_ix (ixL K) (pe_lst (pa_cons pe_str (pa_cons pe_str pa_nil))) (pv 8) (fun _ _ => rfl)))
      (pss_cons (ps_if (pt_cmpR (neD K hr.units) (pe_call ok_l_asked (hr.mono (by decide)) rfl T.D_l_asked.g T.D_l_asked.F.kp T.D_l_asked.b .nil pass0 (pa_cons (pv 0) (pa_cons pe_int (pa_cons (pv 9) (pa_cons (pe_ix (ixL K) (pv 4) (pv 8) (fun _ _ => rfl)) (pa_cons pe_int pa_nil)))))) (pe_tup (pa_cons pe_str pa_nil)) (nomark _)) 
        (pss_one (ps_ret pe_bl)) pss_nil)
      (pss_one (ps_if (pt_cmpR (neD K hr.units) (pe_call ok_l_asked (hr.mono (by decide)) rfl T.D_l_asked.g T.D_l_asked.F.kp T.D_l_asked.b .nil pass0 (pa_cons (pv 0) (pa_cons pe_int (pa_cons (pv 9) (pa_cons (pe_ix (ixL K) (pv 4) (pv 8) (fun _ _ => rfl)) (pa_cons (pe_lst (pa_cons pe_non (pa_cons pe_non pa_nil))) pa_nil)))))) (pe_tup (pa_cons pe_str pa_nil)) (nomark _)) 
        (pss_one (ps_ret pe_bl)) pss_nil)))))
    (pss_cons (ps_set (i := 8) sc_l_ends_refused.nd rfl (.inl rfl) (pe_ix (ixL K) (pe_lst (pa_cons pe_str (pa_cons pe_str (pa_cons pe_int (pa_cons pe_bl (pa_cons pe_non (pa_cons (pe_lst (pa_cons pe_str pa_nil)) (pa_cons pe_str (pa_cons pe_int (pa_cons (pe_tup (pa_cons pe_str pa_nil)) (pa_cons pe_dnewK pa_nil))))))))))) (pe_op op_mod (pe_op op_fdiv (pv 2) pe_int) pe_int) (fun _ _ => rfl)))
    (pss_cons (ps_if (PW.pt (pw_or (pt_cmpR (neD K hr.units) (pe_call ok_l_asked (hr.mono (by decide)) rfl T.D_l_asked.g T.D_l_asked.F.kp T.D_l_asked.b .nil pass0 (pa_cons (pv 0) (pa_cons pe_int (pa_cons (pv 8) (pa_cons (pe_ix (ixL K) (pv 4) pe_int (fun _ _ => rfl)) (pa_cons pe_int pa_nil)))))) (pe_tup (pa_cons pe_str pa_nil)) (nomark _)) (pw_or1 (pt_cmpR (neD K hr.units) (pe_call ok_l_asked (hr.mono (by decide)) rfl T.D_l_asked.g T.D_l_asked.F.kp T.D_l_asked.b .nil pass0 (pa_cons (pv 0) (pa_cons pe_int (pa_cons (pv 8) (pa_cons pe_int (pa_cons (pe_lst (pa_cons pe_int (pa_cons pe_int pa_nil))) pa_nil)))))) (pe_tup (pa_cons pe_str pa_nil)) (nomark _))))) 
      (pss_one (ps_ret pe_bl)) pss_nil)
    (pss_one (ps_ret (pe_cmpR (eqD K hr.units) (pe_call ok_l_state (hr.mono (by decide)) rfl T.D_l_state.g T.D_l_state.F.kp T.D_l_state.b .nil pass0 (pa_cons (pv 0) pa_nil)) (pv 7) (nomark _)))))))))))), ?_⟩
    refine ⟨_, rfl, _, _, rfl, rfl, ⟨by decide, by decide⟩, _, _, rfl, rfl, ⟨by decide, by decide, by decide⟩, _, _, rfl, rfl, (by show (0 : Int) < 10 ^ 12; decide), by show 0 ≤ sizeLine; decide, fun F nF => ?_⟩
    dsimp only
    have far0 := Int.emod_nonneg (c / 10) (show (10 : Int) ^ (12 : Int).toNat ≠ 0 by decide)
    generalize c / 10 % 10 ^ (12 : Int).toNat = far at far0
    refine newO W (H := H) (p := F) nF fun H1 x1 hF => ?_
    obtain ⟨k3, e3, b3⟩ := mod_nat c (m := 3) (by decide)
    obtain ⟨k, ek, bk⟩ := mod_nat c (m := 10) (by decide)
    have hz1 := x1.tup hz
    refine ⟨_, rfl, z, rfl, ⟨_, hz1⟩, for_tup (K := K) (a := z) (xs := [.int (L : Nat), .int (Y : Nat)]) (fun i σ G1 => ∃ (v5 v6 : Option V) (bs : List V), σ = [some (.ref a), some (.ref z), some (.int c), some (.int far), some (.ref F), v5, v6, none, none, none] ∧ Fx W [F] H1 G1 ∧ G1 F = some (.lst bs) ∧ bs.length = i ∧
      ∀ (j : Nat) (b : V), bs[j]? = some b → b ≠ .ref F ∧ ∃ t, TyB K G1 b t ∧ isIn b 0 ((sideOf L Y j : Nat) - 1) = false) ⟨none, none, [], rfl, .refl, hF, rfl, fun j b h => by simp at h⟩ (fun i σ G1 _ ⟨_, _, _, _, x, _⟩ => x.tup hz1) ?_ ?_⟩
    · rintro i y σ G1 hi ⟨v5, v6, bs, rfl, x2, hF1, lb, hb⟩
      obtain ⟨sz, ey, esz⟩ : ∃ sz : Nat, y = .int (sz : Nat) ∧ sz = sideOf L Y i := by
        match i, hi with
        | 0, hi =>
          cases hi
          exact ⟨L, rfl, rfl⟩
        | 1, hi =>
          cases hi
          exact ⟨Y, rfl, rfl⟩
      subst ey
      refine ⟨_, rfl, _, rfl, by show 3 ≤ sizeLine; decide, fun u1 nu1 => ?_⟩
      refine newO W (H := G1) (p := u1) nu1 fun G2 y1 hu1 => ?_
      refine ⟨_, rfl, _, _, rfl, rfl, (by show (0 : Int) < 3; decide), ?_⟩
      dsimp only
      rw [e3]
      obtain ⟨more, em, m0⟩ : ∃ m : Int, ([V.int 0, .int 0, .int far] : List V)[k3]? = some (V.int m) ∧ 0 ≤ m := by
        match k3, b3 with
        | 0, _ => exact ⟨0, rfl, by decide⟩
        | 1, _ => exact ⟨0, rfl, by decide⟩
        | 2, _ => exact ⟨far, rfl, far0⟩
        | k + 3, h => exact absurd h (by omega)
      refine ⟨u1, _, _, _, rfl, rfl, SqL.of hu1, atI_nat em, _, _, rfl, rfl, _, rfl, _, rfl, _, _, rfl, rfl, by show 1 ≤ sizeLine; decide, fun u2 nu2 => ?_⟩
      refine newO W (H := G2) (p := u2) nu2 fun G3 y2 hu2 => ?_
      refine ⟨by show 1 ≤ sizeLine; decide, fun u3 nu3 => ?_⟩
      refine newO W (H := G3) (p := u3) nu3 fun G4 y3 hu3 => ?_
      intro u4 nu4
      refine newO W (H := G4) (p := u4) nu4 fun G5 y4 hu4 => ?_
      refine ⟨by show 10 ≤ sizeLine; decide, fun u5 nu5 => ?_⟩
      refine newO W (H := G5) (p := u5) nu5 fun G6 y5 hu5 => ?_
      have y16 := y1.trans (y2.trans (y3.trans (y4.trans y5)))
      have y26 := y3.trans (y4.trans y5)
      have y46 := y4.trans y5
      have xx := x2.trans y16.up
      have hF6 := y16.lst hF1
      have nef : ∀ {u : Addr} {G : Hp}, Ext W G1 G → G u = none → V.ref u ≠ V.ref F := fun {u G} x h e => by
        cases e
        have := x.lst hF1
        rw [h] at this
        cases this
      obtain ⟨bv, bt, eb, hbt, nb, ne⟩ : ∃ (bv : V) (bt : String), ([V.int (((sz : Nat) : Int) + more), .int (-1 - far), .bl true, .non, .str (Str.ofString "0"), .ref u2, .ref u3, .ref u4, .bl false, .str (Str.ofString "left")] : List V)[k]? = some bv ∧ TyB K G6 bv bt ∧ isIn bv 0 ((sz : Nat) - 1) = false ∧ bv ≠ .ref F := by
        match k, bk with
        | 0, _ =>
          refine ⟨_, _, rfl, .int _, ?_, fun e => by cases e⟩
          show (decide ((0 : Int) ≤ (sz : Nat) + more) && decide (((sz : Nat) : Int) + more ≤ (sz : Nat) - 1)) = false
          rw [decide_eq_false (show ¬ ((sz : Nat) : Int) + more ≤ (sz : Nat) - 1 by omega), Bool.and_false]
        | 1, _ =>
          refine ⟨_, _, rfl, .int _, ?_, fun e => by cases e⟩
          show (decide ((0 : Int) ≤ -1 - far) && decide (-1 - far ≤ (sz : Nat) - 1)) = false
          rw [decide_eq_false (show ¬ (0 : Int) ≤ -1 - far by omega), Bool.false_and]
        | 2, _ => exact ⟨_, _, rfl, .bl _, rfl, fun e => by cases e⟩
        | 3, _ => exact ⟨_, _, rfl, .non, rfl, fun e => by cases e⟩
        | 4, _ => exact ⟨_, _, rfl, .str _, rfl, fun e => by cases e⟩
        | 5, _ => exact ⟨_, _, rfl, .lst (SqL.of (y26.lst hu2)), rfl, nef (y1.trans .refl) nu2⟩
        | 6, _ => exact ⟨_, _, rfl, .tup (.inl (.inl (y46.tp hu3))), rfl, nef (y1.trans y2) nu3⟩
        | 7, _ => exact ⟨_, _, rfl, .dK (y5.dk hu4), rfl, nef (y1.trans (y2.trans y3)) nu4⟩
        | 8, _ => exact ⟨_, _, rfl, .bl _, rfl, fun e => by cases e⟩
        | 9, _ => exact ⟨_, _, rfl, .str _, rfl, fun e => by cases e⟩
        | n + 10, h => exact absurd h (by omega)
      refine ⟨_, rfl, .inl ⟨rfl, _, SqL.of hF6⟩, _, rfl, _, rfl, _, _, rfl, rfl, (by show (0 : Int) < 10; decide), ?_⟩
      dsimp only
      rw [ek]
      refine ⟨u5, _, _, _, rfl, rfl, SqL.of hu5, atI_nat eb, F, _, _, rfl, rfl, hF6, by rw [lb]; exact small1000 (by have := (List.getElem?_eq_some_iff.mp hi).1; simp at this; omega), ?_⟩
      have z1 : Fx W [F] G6 (upd G6 F (.lst (bs ++ [bv]))) := Fx.refl.put (.inr (by simp)) hF6
      refine ⟨_, _, bs ++ [bv], rfl, xx.trans z1, upd_same, by rw [List.length_append, List.length_singleton, lb], fun j b hj => ?_⟩
      by_cases lj : j < i
      · rw [List.getElem?_append_left (by omega)] at hj
        obtain ⟨h1, t, h2, h3⟩ := hb j b hj
        exact ⟨h1, t, TyB.fx (y16.up.trans z1) h2 h1, h3⟩
      · rw [List.getElem?_append_right (by omega)] at hj
        have e0 : j - bs.length = 0 := by
          by_cases c0 : j - bs.length = 0
          · exact c0
          · rw [List.getElem?_eq_none (by simp; omega)] at hj
            cases hj
        rw [e0] at hj
        cases hj
        have ej : j = i := by omega
        subst ej
        rw [← esz]
        exact ⟨ne, bt, TyB.fx z1 hbt ne, nb⟩
    · rintro σ G1 ⟨v5, v6, bs, rfl, x2, hF1, lb, hb⟩
      have x01 : Ext W H G1 := (x1.up.trans x2).down fun b hb => by rw [List.mem_singleton.mp hb]; exact nF
      have lb : bs.length = 2 := lb
      obtain ⟨b0, b1, rfl⟩ : ∃ b0 b1, bs = [b0, b1] := by
        match bs, lb with
        | [b0, b1], _ => exact ⟨b0, b1, rfl⟩
      obtain ⟨_, t0, hb0, n0⟩ := hb 0 b0 rfl
      obtain ⟨_, t1, hb1, n1⟩ := hb 1 b1 rfl
      have n0 : isIn b0 0 ((L : Nat) - 1) = false := n0
      have n1 : isIn b1 0 ((Y : Nat) - 1) = false := n1
      have hH1 := hH.ext x01
      have tabs1 : ∀ {G : Hp}, Ext W G1 G → ∀ p ∈ W.l, LamX.TabS G p.1 p.2 := fun y p hp => y.l p hp (x01.l p hp (tabs p hp))
      refine ⟨_, rfl, a, d, L, Y, n, R, rfl, hH1, by omega, G.N, L8, Y8, fun p G2 y2 hp => ?_⟩
      -- come
      refine ⟨_, rfl, _, rfl, F, _, _, _, rfl, rfl, SqL.of (y2.lst hF1), atI_nat (j := 0) rfl, a, d, L, Y, n, R, 0, b0, _, _, t0, "int", "end", rfl, hH1.ext y2, G, hn, by omega, tabs1 y2, tyb_ext y2 hb0, .int _, .end0 (by rw [n0, Bool.false_and]), fun r G3 y3 hr3 => ?_⟩
      refine neK (W := W) hr3 (kindOk (by decide +kernel)) fun G4 y4 => iteF ?_
      have y24 := y3.trans y4
      have y14 := y2.trans y24
      refine ⟨_, rfl, _, rfl, F, _, _, _, rfl, rfl, SqL.of (y14.lst hF1), atI_nat (j := 1) rfl, a, d, L, Y, n, R, 0, _, b1, _, "int", t1, "end", rfl, hH1.ext y14, G, hn, by omega, tabs1 y14, .int _, tyb_ext y14 hb1, .end0 (by rw [n1, Bool.and_false]), fun r G5 y5 hr5 => ?_⟩
      refine neK (W := W) hr5 (kindOk (by decide +kernel)) fun G6 y6 => iteF ?_
      have y26 := y24.trans (y5.trans y6)
      refine ⟨2, rfl, by decide, by decide, for_range (lo := 0) (n := 2) (fun i σ G7 => ∃ (v8 v9 : Option V), σ = [some (.ref a), some (.ref z), some (.int c), some (.int far), some (.ref F), v5, v6, some (.ref p), v8, v9] ∧ Ext W G2 G7) ⟨none, none, rfl, y26⟩ ?_ ?_⟩
      · rintro i σ G7 hi ⟨v8, v9, rfl, y7⟩
        rw [show (0 : Int) + (i : Nat) = ((i : Nat) : Int) by omega]
        obtain ⟨nm, enm, hs⟩ : ∃ nm : Str, ([V.str (Str.ofString "left"), .str (Str.ofString "right")] : List V)[i]? = some (V.str nm) ∧ wSide (.str nm) = some i := by
          match i, hi with
          | 0, _ => exact ⟨_, rfl, by decide +kernel⟩
          | 1, _ => exact ⟨_, rfl, by decide +kernel⟩
          | k + 2, h => exact absurd h (by show ¬ k + 2 < 2; omega)
        obtain ⟨bi, ebi, ti, hbi, ni⟩ : ∃ bi, ([b0, b1] : List V)[i]? = some bi ∧ ∃ ti, TyB K G1 bi ti ∧ isIn bi 0 ((sideOf L Y i : Nat) - 1) = false := by
          match i, hi with
          | 0, _ => exact ⟨b0, rfl, t0, hb0, n0⟩
          | 1, _ => exact ⟨b1, rfl, t1, hb1, n1⟩
          | k + 2, h => exact absurd h (by show ¬ k + 2 < 2; omega)
        refine ⟨by show 2 ≤ sizeLine; decide, fun u nu => ?_⟩
        refine newO W (H := G7) (p := u) nu fun G8 y8 hu => ?_
        have y18 := y2.trans (y7.trans y8)
        refine ⟨_, rfl, u, _, _, _, rfl, rfl, SqL.of hu, atI_nat enm, ?_⟩
        refine ⟨_, rfl, _, rfl, _, rfl, _, rfl, F, _, _, _, rfl, rfl, SqL.of (y18.lst hF1), atI_nat ebi, a, d, L, Y, n, R, 4, _, bi, _, "str", ti, "end", rfl, hH1.ext y18, G, hn, by omega, tabs1 y18, .str _, tyb_ext y18 hbi, .end4 hs ni, fun r G9 y9 hr9 => ?_⟩
        refine neK (W := W) hr9 (kindOk (by decide +kernel)) fun Ga ya => iteF ?_
        have y1a := y18.trans (y9.trans ya)
        refine ⟨_, rfl, _, rfl, _, rfl, _, rfl, F, _, _, _, rfl, rfl, SqL.of (y1a.lst hF1), atI_nat ebi, by show 2 ≤ sizeLine; decide, fun u2 nu2 => ?_⟩
        refine newO W (H := Ga) (p := u2) nu2 fun Gb yb hu2 => ?_
        have y1b := y1a.trans yb
        refine ⟨a, d, L, Y, n, R, 5, _, bi, _, "str", ti, "end", rfl, hH1.ext y1b, G, hn, by omega, tabs1 y1b, .str _, tyb_ext y1b hbi, .end5 (.inl (SqL.of hu2)) .non .non hs ni, fun r Gc yc hrc => ?_⟩
        refine neK (W := W) hrc (kindOk (by decide +kernel)) fun Gd yd => iteF ?_
        exact ⟨_, _, rfl, y7.trans (y8.trans (y9.trans (ya.trans (yb.trans (yc.trans yd)))))⟩
      · rintro σ G7 ⟨v8, v9, rfl, y7⟩
        refine ⟨by show 1 ≤ sizeLine; decide, fun u1 nu1 => ?_⟩
        refine newO W (H := G7) (p := u1) nu1 fun G8 y8 hu1 => ?_
        refine ⟨by show 1 ≤ sizeLine; decide, fun u2 nu2 => ?_⟩
        refine newO W (H := G8) (p := u2) nu2 fun G9 y9 hu2 => ?_
        intro u3 nu3
        refine newO W (H := G9) (p := u3) nu3 fun Ga ya hu3 => ?_
        refine ⟨by show 10 ≤ sizeLine; decide, fun u4 nu4 => ?_⟩
        refine newO W (H := Ga) (p := u4) nu4 fun Gb yb hu4 => ?_
        obtain ⟨k2, ek2, bk2⟩ := mod_nat (c / 10) (m := 10) (by decide)
        refine ⟨_, rfl, _, _, rfl, rfl, ⟨by decide, by decide⟩, _, _, rfl, rfl, (by show (0 : Int) < 10; decide), ?_⟩
        dsimp only
        rw [ek2]
        obtain ⟨sv, st, es, hst, ns⟩ : ∃ (sv : V) (st : String), ([V.str (Str.ofString "Left"), .str (Str.ofString ""), .int 0, .bl true, .non, .ref u1, .str (Str.ofString "right "), .int 1, .ref u2, .ref u3] : List V)[k2]? = some sv ∧ TyB K Gb sv st ∧ wSide sv = none := by
          match k2, bk2 with
          | 0, _ => exact ⟨_, _, rfl, .str _, by decide +kernel⟩
          | 1, _ => exact ⟨_, _, rfl, .str _, by decide +kernel⟩
          | 2, _ => exact ⟨_, _, rfl, .int _, rfl⟩
          | 3, _ => exact ⟨_, _, rfl, .bl _, rfl⟩
          | 4, _ => exact ⟨_, _, rfl, .non, rfl⟩
          | 5, _ => exact ⟨_, _, rfl, .lst (SqL.of ((y9.trans (ya.trans yb)).lst hu1)), rfl⟩
          | 6, _ => exact ⟨_, _, rfl, .str _, by decide +kernel⟩
          | 7, _ => exact ⟨_, _, rfl, .int _, rfl⟩
          | 8, _ => exact ⟨_, _, rfl, .tup (.inl (.inl ((ya.trans yb).tp hu2))), rfl⟩
          | 9, _ => exact ⟨_, _, rfl, .dK (yb.dk hu3), rfl⟩
          | n + 10, h => exact absurd h (by omega)
        refine ⟨u4, _, _, _, rfl, rfl, SqL.of hu4, atI_nat es, ?_⟩
        have y2b := y7.trans (y8.trans (y9.trans (ya.trans yb)))
        have y1b := y2.trans y2b
        refine ⟨_, rfl, _, rfl, _, rfl, F, _, _, _, rfl, rfl, SqL.of (y1b.lst hF1), atI_nat (j := 0) rfl, a, d, L, Y, n, R, 4, _, b0, _, st, t0, "side", rfl, hH1.ext y1b, G, hn, by omega, tabs1 y1b, hst, tyb_ext y1b hb0, .side4 ns, fun r Gc yc hrc => ?_⟩
        refine neK (W := W) hrc (kindOk (by decide +kernel)) fun Gd yd => iteF ?_
        refine ⟨_, rfl, _, rfl, by show 2 ≤ sizeLine; decide, fun u5 nu5 => ?_⟩
        refine newO W (H := Gd) (p := u5) nu5 fun Ge ye hu5 => ?_
        have yce := yc.trans (yd.trans ye)
        have y1e := y1b.trans yce
        refine ⟨a, d, L, Y, n, R, 5, _, _, _, st, "int", "side", rfl, hH1.ext y1e, G, hn, by omega, tabs1 y1e, tyb_ext yce hst, .int _, .side5 (.inl (SqL.of hu5)) (.int _) (.int _) ns, fun r Gf yf hrf => ?_⟩
        refine neK (W := W) hrf (kindOk (by decide +kernel)) fun Gg yg => iteF ?_
        have y2g := y2b.trans (yce.trans (yf.trans yg))
        have y1g := y2.trans y2g
        refine ⟨_, rfl, a, d, L, Y, n, R, rfl, hH1.ext y1g, by omega, G.N, L8, Y8, fun p2 Gh yh hp2 => ?_⟩
        have okt := stateD_ok R L Y
        refine ⟨_, rfl, stateD R L Y, stateD R L Y, hp2 Gh .refl, hp Gh (y2g.trans yh), okt.shaped, okt.shaped, ?_⟩
        rw [eqv_same _ okt.1]
        exact q Gh (x01.trans (y1g.trans yh))
end
end My

set_option Elab.async false
set_option linter.all false
set_option maxRecDepth 100000
set_option maxHeartbeats 4000000
namespace My
open PySem PySem.Spec PyProof.Rows L2 Own TL Mt
section
variable {P : Program} {w : World} {K : PySem.W.Frag} {mg : Str → Option Value} {base : Heap} {W : Tbs}
def spNumbersRefused (K : PySem.W.Frag) (W : Tbs) (C : Addr) : Sp := fun vs H Q _ => ∃ (a d gl : Addr) (L Y n : Nat) (R : List Pr) (gs : List Nat) (c : Int), vs = [.ref a, .int (n : Nat), .ref gl, .int (cnt R : Nat), .int c] ∧ HallOf K C H a d L Y n R ∧ H gl = some (.lst (vN gs)) ∧ gs.length ≤ 10 ∧ (∀ g ∈ gs, ∀ p ∈ R, p.n ≠ g) ∧
  Good R ∧ (∀ p ∈ R, p.n < n) ∧ R.length ≤ 40 ∧ 1 ≤ L ∧ L ≤ 8 ∧ 1 ≤ Y ∧ Y ≤ 8 ∧ (∀ p ∈ W.l, LamX.TabS H p.1 p.2) ∧ ∀ H', Ext W H H' → Q (.bl true) H'
theorem ok_l_numbers_refused (T : Txt K mg) (B : LamX.TabB base mg T.k_place T.p_place) (WO : Wok W T.p_place) : FnOk P w K mg base CX0 8 T.f_l_numbers_refused T.d_l_numbers_refused ["_law_hall", "_law_came", "_law_gone", "_law_count", "_law_cell"] (spNumbersRefused K W T.C_Hall) := by
  have ok_l_asked : FnOk P w K mg base CX0 7 T.f_l_asked T.d_l_asked ["_law_hall", "_law_way", "_law_one", "_law_other", "_law_third"] (spAsked K W T.C_Hall) := ok_l_asked T B WO
  have ok_l_state : FnOk P w K mg base CX0 5 T.f_l_state T.d_l_state ["_law_hall"] (spState K W T.C_Hall) := ok_l_state T
  refine T.D_l_numbers_refused.F.ok sc_l_numbers_refused (fun vs H Q E h => ?_) (fun cdv A outer s H vs Q E hr h => ?_)
  · obtain ⟨a, d, gl, L, Y, n, R, gs, c, rfl, _⟩ := h
    rfl
  · obtain ⟨a, d, gl, L, Y, n, R, gs, c, rfl, hH, hgl, lg, hg, G, hn, few, L1, L8, Y1, Y8, tabs, q⟩ := h
    refine ⟨_, (pss_cons (ps_set (i := 5) sc_l_numbers_refused.nd rfl (.inl rfl) (pe_op op_mod (pe_op op_fdiv (pv 4) pe_int) (pe_op op_pow pe_int pe_int)))
    (pss_cons (ps_set (i := 6) sc_l_numbers_refused.nd rfl (.inl rfl) (pe_call ok_l_state (hr.mono (by decide)) rfl T.D_l_state.g T.D_l_state.F.kp T.D_l_state.b .nil pass0 (pa_cons (pv 0) pa_nil)))
    (pss_cons (ps_for PassesOwn.never rfl (pi_list (pe_op op_cat (pe_lst (pa_cons (pe_ix (ixL K) (pe_lst (pa_cons (pv 1) (pa_cons (pe_un un_neg pe_int) (pa_cons pe_bl (pa_cons pe_non (pa_cons pe_str (pa_cons (pe_lst (pa_cons pe_int pa_nil)) (pa_cons (pe_op op_add (pv 1) (pv 5)) (pa_cons pe_bl (pa_cons pe_dnewK (pa_cons (pe_op op_sub (pe_un un_neg pe_int) (pv 5)) pa_nil))))))))))) (pe_op op_mod (pv 4) pe_int) (fun _ _ => rfl)) pa_nil)) (pv 2))) (pg_name (i := 7) sc_l_numbers_refused.nd rfl (.inl rfl)) 
      (pss_one (ps_if (PW.pt (pw_or (pt_cmpR (neD K hr.units) (pe_call ok_l_asked (hr.mono (by decide)) rfl T.D_l_asked.g T.D_l_asked.F.kp T.D_l_asked.b .nil pass0 (pa_cons (pv 0) (pa_cons pe_int (pa_cons (pv 7) (pa_cons pe_int (pa_cons pe_int pa_nil)))))) (pe_tup (pa_cons pe_str pa_nil)) (nomark _)) (pw_or1 (pt_cmpR (neD K hr.units) (pe_call ok_l_asked (hr.mono (by decide)) rfl T.D_l_asked.g T.D_l_asked.F.kp T.D_l_asked.b .nil pass0 (pa_cons (pv 0) (pa_cons pe_int (pa_cons (pv 7) (pa_cons pe_int (pa_cons pe_int pa_nil)))))) (pe_tup (pa_cons pe_str pa_nil)) (nomark _))))) 
        (pss_one (ps_ret pe_bl)) pss_nil)))
    (pss_cons (ps_set (i := 8) sc_l_numbers_refused.nd rfl (.inl rfl) (pe_ix (ixL K) (pe_lst (pa_cons (pv 3) (pa_cons (pe_un un_neg pe_int) (pa_cons pe_bl (pa_cons pe_non (pa_cons pe_str (pa_cons (pe_lst (pa_cons pe_int pa_nil)) (pa_cons (pe_op op_add (pv 3) (pv 5)) (pa_cons pe_bl (pa_cons pe_dnewK (pa_cons (pe_op op_sub (pe_un un_neg pe_int) (pv 5)) pa_nil))))))))))) (pe_op op_mod (pe_op op_fdiv (pv 4) pe_int) pe_int) (fun _ _ => rfl)))
    (pss_cons (ps_if (pt_cmpR (neD K hr.units) (pe_call ok_l_asked (hr.mono (by decide)) rfl T.D_l_asked.g T.D_l_asked.F.kp T.D_l_asked.b .nil pass0 (pa_cons (pv 0) (pa_cons pe_int (pa_cons (pv 8) (pa_cons pe_int (pa_cons pe_int pa_nil)))))) (pe_tup (pa_cons pe_str pa_nil)) (nomark _)) 
      (pss_one (ps_ret pe_bl)) pss_nil)
    (pss_cons (ps_set (i := 9) sc_l_numbers_refused.nd rfl (.inl rfl) (pe_callB (call_max2 rfl) (by rfl) T.z_max (by decide +kernel) (pa_cons pe_int (pa_cons (pe_op op_sub (pv 3) pe_int) pa_nil))))
    (pss_cons (ps_for PassesOwn.never rfl (pi_list (pe_lst (pa_cons (pe_tup (pa_cons (pv 8) (pa_cons pe_int pa_nil))) (pa_cons (pe_tup (pa_cons pe_int (pa_cons (pv 8) pa_nil))) (pa_cons (pe_tup (pa_cons pe_int (pa_cons pe_int pa_nil))) (pa_cons (pe_tup (pa_cons (pv 9) (pa_cons (pv 9) pa_nil))) pa_nil)))))) (pg_name (i := 10) sc_l_numbers_refused.nd rfl (.inl rfl)) 
      (pss_one (ps_if (pt_cmpR (neD K hr.units) (pe_call ok_l_asked (hr.mono (by decide)) rfl T.D_l_asked.g T.D_l_asked.F.kp T.D_l_asked.b .nil pass0 (pa_cons (pv 0) (pa_cons pe_int (pa_cons pe_str (pa_cons pe_int (pa_cons (pv 10) pa_nil)))))) (pe_tup (pa_cons pe_str pa_nil)) (nomark _)) 
        (pss_one (ps_ret pe_bl)) pss_nil)))
    (pss_one (ps_ret (pe_cmpR (eqD K hr.units) (pe_call ok_l_state (hr.mono (by decide)) rfl T.D_l_state.g T.D_l_state.F.kp T.D_l_state.b .nil pass0 (pa_cons (pv 0) pa_nil)) (pv 6) (nomark _))))))))))), ?_⟩
    refine ⟨_, rfl, _, _, rfl, rfl, ⟨by decide, by decide⟩, _, _, rfl, rfl, ⟨by decide, by decide, by decide⟩, _, _, rfl, rfl, (by show (0 : Int) < 10 ^ 12; decide), ?_⟩
    dsimp only
    have far0 := Int.emod_nonneg (c / 10) (show (10 : Int) ^ (12 : Int).toNat ≠ 0 by decide)
    generalize c / 10 % 10 ^ (12 : Int).toNat = far at far0
    obtain ⟨k, ek, bk⟩ := mod_nat c (m := 10) (by decide)
    obtain ⟨k2, ek2, bk2⟩ := mod_nat (c / 10) (m := 10) (by decide)
    have tabsG : ∀ {G : Hp}, Ext W H G → ∀ p ∈ W.l, LamX.TabS G p.1 p.2 := fun y p hp => y.l p hp (tabs p hp)
    refine ⟨_, rfl, a, d, L, Y, n, R, rfl, hH, by omega, G.N, L8, Y8, fun p0 H1 x1 hp0 => ?_⟩
    -- the numbers
    refine ⟨_, rfl, _, rfl, by show 1 ≤ sizeLine; decide, fun u1 nu1 => ?_⟩
    refine newO W (H := H1) (p := u1) nu1 fun H2 x2 hu1 => ?_
    refine ⟨_, rfl, _, rfl, _, _, rfl, rfl, fun u2 nu2 => ?_⟩
    refine newO W (H := H2) (p := u2) nu2 fun H3 x3 hu2 => ?_
    refine ⟨_, rfl, _, rfl, _, _, rfl, rfl, by show 10 ≤ sizeLine; decide, fun u3 nu3 => ?_⟩
    refine newO W (H := H3) (p := u3) nu3 fun H4 x4 hu3 => ?_
    refine ⟨_, rfl, _, _, rfl, rfl, (by show (0 : Int) < 10; decide), ?_⟩
    dsimp only
    rw [ek]
    obtain ⟨bv, bt, eb, hbt, nb⟩ : ∃ (bv : V) (bt : String), ([V.int (n : Nat), .int (-1), .bl true, .non, .str (Str.ofString "0"), .ref u1, .int (((n : Nat) : Int) + far), .bl false, .ref u2, .int (-1 - far)] : List V)[k]? = some bv ∧ TyB K H4 bv bt ∧ ∀ p ∈ R, bv ≠ .int (p.n : Nat) := by
      have notI : ∀ {x : Int}, (x < 0 ∨ ((n : Nat) : Int) ≤ x) → ∀ p ∈ R, V.int x ≠ V.int (p.n : Nat) := fun {x} h p hp e => by
        have := hn p hp
        have := V.int.inj e
        omega
      match k, bk with
      | 0, _ => exact ⟨_, _, rfl, .int _, notI (.inr (Int.le_refl _))⟩
      | 1, _ => exact ⟨_, _, rfl, .int _, notI (.inl (by decide))⟩
      | 2, _ => exact ⟨_, _, rfl, .bl _, fun p _ e => by cases e⟩
      | 3, _ => exact ⟨_, _, rfl, .non, fun p _ e => by cases e⟩
      | 4, _ => exact ⟨_, _, rfl, .str _, fun p _ e => by cases e⟩
      | 5, _ => exact ⟨_, _, rfl, .lst (SqL.of ((x3.trans x4).lst hu1)), fun p _ e => by cases e⟩
      | 6, _ => exact ⟨_, _, rfl, .int _, notI (.inr (by omega))⟩
      | 7, _ => exact ⟨_, _, rfl, .bl _, fun p _ e => by cases e⟩
      | 8, _ => exact ⟨_, _, rfl, .dK (x4.dk hu2), fun p _ e => by cases e⟩
      | 9, _ => exact ⟨_, _, rfl, .int _, notI (.inl (by omega))⟩
      | k + 10, h => exact absurd h (by omega)
    have x14 := x2.trans (x3.trans x4)
    refine ⟨u3, _, _, _, rfl, rfl, SqL.of hu3, atI_nat eb, by show 1 ≤ sizeLine; decide, fun u4 nu4 => ?_⟩
    refine newO W (H := H4) (p := u4) nu4 fun H5 x5 hu4 => ?_
    have x05 := x1.trans (x14.trans x5)
    refine ⟨_, rfl, u4, gl, _, _, rfl, rfl, hu4, x05.lst hgl, by
      unfold vN
      rw [List.length_map]
      exact Nat.le_of_lt (small1000 (by show 1 + _ ≤ 1000; omega)), fun u5 nu5 => ?_⟩
    refine newO W (H := H5) (p := u5) nu5 fun H6 x6 hu5 => ?_
    have x06 := x05.trans x6
    have hb6 := tyb_ext (x5.trans x6) hbt
    have x16 := x14.trans (x5.trans x6)
    refine ⟨u5, rfl, ⟨_, SqL.of hu5⟩, for_list (D := { nx := _, rt := _, bk := fun _ _ => False, ct := fun _ _ => False }) (K := K) (a := u5) (xs := [bv] ++ vN gs) (fun i σ G1 => ∃ v7 : Option V, σ = [some (.ref a), some (.int (n : Nat)), some (.ref gl), some (.int (cnt R : Nat)), some (.int c), some (.int far), some (.ref p0), v7, none, none, none] ∧ Ext W H6 G1) ⟨none, rfl, .refl⟩ (fun i σ G1 _ ⟨_, _, y⟩ => SqL.of (y.lst hu5)) ?_ ?_⟩
    · rintro i v σ G1 hi ⟨v7, rfl, y1⟩
      obtain ⟨vt, hvt, nv⟩ : ∃ vt, TyB K G1 v vt ∧ ∀ p ∈ R, v ≠ .int (p.n : Nat) := by
        have hm := List.mem_of_getElem? hi
        rcases List.mem_append.mp hm with e | e
        · rw [List.mem_singleton.mp e]
          exact ⟨bt, tyb_ext y1 hb6, nb⟩
        · obtain ⟨g, hg1, rfl⟩ := List.mem_map.mp e
          exact ⟨_, .int _, fun p hp e => hg g hg1 p hp (by have := V.int.inj e; omega)⟩
      have y01 := x06.trans y1
      refine ⟨_, rfl, _, rfl, a, d, L, Y, n, R, 1, v, _, _, vt, "int", "pair", rfl, hH.ext y01, G, hn, by omega, tabsG y01, hvt, .int _, .pair1 nv, fun r G2 y2 hr2 => ?_⟩
      refine neK (W := W) hr2 (kindOk (by decide +kernel)) fun G3 y3 => iteF ?_
      have y13 := y2.trans y3
      have y03 := y01.trans y13
      refine ⟨_, rfl, _, rfl, a, d, L, Y, n, R, 2, v, _, _, vt, "int", "pair", rfl, hH.ext y03, G, hn, by omega, tabsG y03, tyb_ext y13 hvt, .int _, .pair2 nv, fun r G4 y4 hr4 => ?_⟩
      refine neK (W := W) hr4 (kindOk (by decide +kernel)) fun G5 y5 => iteF ?_
      exact ⟨_, rfl, y1.trans (y13.trans (y4.trans y5))⟩
    · rintro σ G1 ⟨v7, rfl, y1⟩
      have y01 := x06.trans y1
      refine ⟨_, rfl, _, rfl, by show 1 ≤ sizeLine; decide, fun w1 nw1 => ?_⟩
      refine newO W (H := G1) (p := w1) nw1 fun G2 z1 hw1 => ?_
      refine ⟨_, rfl, _, rfl, _, _, rfl, rfl, fun w2 nw2 => ?_⟩
      refine newO W (H := G2) (p := w2) nw2 fun G3 z2 hw2 => ?_
      refine ⟨_, rfl, _, rfl, _, _, rfl, rfl, by show 10 ≤ sizeLine; decide, fun w3 nw3 => ?_⟩
      refine newO W (H := G3) (p := w3) nw3 fun G4 z3 hw3 => ?_
      obtain ⟨hv, ht, eh, hht, nh⟩ : ∃ (hv : V) (ht : String), ([V.int (cnt R : Nat), .int (-1), .bl true, .non, .str (Str.ofString "0"), .ref w1, .int (((cnt R : Nat) : Int) + far), .bl false, .ref w2, .int (-1 - far)] : List V)[k2]? = some hv ∧ TyB K G4 hv ht ∧ isIn hv 0 ((cnt R : Nat) - 1) = false := by
        have notI : ∀ {x : Int}, (x < 0 ∨ ((cnt R : Nat) : Int) ≤ x) → isIn (V.int x) 0 ((cnt R : Nat) - 1) = false := fun {x} h => by
          show (decide ((0 : Int) ≤ x) && decide (x ≤ ((cnt R : Nat) : Int) - 1)) = false
          rcases h with h | h
          · rw [decide_eq_false (show ¬ (0 : Int) ≤ x by omega), Bool.false_and]
          · rw [decide_eq_false (show ¬ x ≤ ((cnt R : Nat) : Int) - 1 by omega), Bool.and_false]
        match k2, bk2 with
        | 0, _ => exact ⟨_, _, rfl, .int _, notI (.inr (Int.le_refl _))⟩
        | 1, _ => exact ⟨_, _, rfl, .int _, notI (.inl (by decide))⟩
        | 2, _ => exact ⟨_, _, rfl, .bl _, rfl⟩
        | 3, _ => exact ⟨_, _, rfl, .non, rfl⟩
        | 4, _ => exact ⟨_, _, rfl, .str _, rfl⟩
        | 5, _ => exact ⟨_, _, rfl, .lst (SqL.of ((z2.trans z3).lst hw1)), rfl⟩
        | 6, _ => exact ⟨_, _, rfl, .int _, notI (.inr (by omega))⟩
        | 7, _ => exact ⟨_, _, rfl, .bl _, rfl⟩
        | 8, _ => exact ⟨_, _, rfl, .dK (z3.dk hw2), rfl⟩
        | 9, _ => exact ⟨_, _, rfl, .int _, notI (.inl (by omega))⟩
        | k + 10, h => exact absurd h (by omega)
      have z13 := z1.trans (z2.trans z3)
      have y04 := y01.trans z13
      refine ⟨_, rfl, _, _, rfl, rfl, ⟨by decide, by decide⟩, _, _, rfl, rfl, (by show (0 : Int) < 10; decide), w3, _, _, hv, rfl, rfl, SqL.of hw3, (by
        show atI _ (c / 10 % 10) = _
        rw [ek2]
        exact atI_nat eh), ?_⟩
      refine ⟨_, rfl, _, rfl, a, d, L, Y, n, R, 3, hv, _, _, ht, "int", "hue", rfl, hH.ext y04, G, hn, by omega, tabsG y04, hht, .int _, .hue3 nh, fun r G5 z5 hr5 => ?_⟩
      refine neK (W := W) hr5 (kindOk (by decide +kernel)) fun G6 z6 => iteF ?_
      refine ⟨_, rfl, _, _, rfl, rfl, _, _, rfl, ?_⟩
      refine ⟨_, rfl, by show 2 ≤ sizeLine; decide, fun t1 nt1 => ?_⟩
      refine newO W (H := G6) (p := t1) nt1 fun G7 z7 ht1 => ?_
      refine ⟨_, rfl, by show 2 ≤ sizeLine; decide, fun t2 nt2 => ?_⟩
      refine newO W (H := G7) (p := t2) nt2 fun G8 z8 ht2 => ?_
      refine ⟨by show 2 ≤ sizeLine; decide, fun t3 nt3 => ?_⟩
      refine newO W (H := G8) (p := t3) nt3 fun G9 z9 ht3 => ?_
      refine ⟨_, rfl, _, rfl, by show 2 ≤ sizeLine; decide, fun t4 nt4 => ?_⟩
      refine newO W (H := G9) (p := t4) nt4 fun Ga za ht4 => ?_
      refine ⟨by show 4 ≤ sizeLine; decide, fun t5 nt5 => ?_⟩
      refine newO W (H := Ga) (p := t5) nt5 fun Gb zb ht5 => ?_
      have z4b := z5.trans (z6.trans (z7.trans (z8.trans (z9.trans (za.trans zb)))))
      have y0b := y04.trans z4b
      have z7b := z8.trans (z9.trans (za.trans zb))
      have hhb := tyb_ext z4b hht
      have z1b := z13.trans z4b
      refine ⟨t5, rfl, ⟨_, SqL.of ht5⟩, ?_⟩
      refine for_list (D := { nx := _, rt := _, bk := fun _ _ => False, ct := fun _ _ => False }) (K := K) (a := t5) (xs := [.ref t1, .ref t2, .ref t3, .ref t4]) (fun i σ G1 => ∃ (v9 v10 : Option V), σ = [some (.ref a), some (.int (n : Nat)), some (.ref gl), some (.int (cnt R : Nat)), some (.int c), some (.int far), some (.ref p0), v7, some hv, v9, v10] ∧ Ext W Gb G1) ⟨_, none, rfl, .refl⟩ (fun i σ G1 _ ⟨_, _, _, y⟩ => SqL.of (y.lst ht5)) ?_ ?_
      · rintro i v σ Gc hi ⟨v9, v10, rfl, yc⟩
        obtain ⟨tp, u1, u2, s1, s2, rfl, htp, hu1, hu2, hf⟩ : ∃ (tp : Addr) (u1 u2 : V) (s1 s2 : String), v = .ref tp ∧ SqT K Gc tp [u1, u2] ∧ TyB K Gc u1 s1 ∧ TyB K Gc u2 s2 ∧ ((isIn u1 0 ((cnt R : Nat) - 1) && isIn u2 0 ((cnt R : Nat) - 1)) = false ∨ u1 = u2) := by
          match i, hi with
          | 0, hi =>
            cases hi
            exact ⟨t1, _, _, _, _, rfl, .inl (.inl (yc.tp (z7b.tp ht1))), tyb_ext yc hhb, .int _, .inl (by rw [nh, Bool.false_and])⟩
          | 1, hi =>
            cases hi
            exact ⟨t2, _, _, _, _, rfl, .inl (.inl (yc.tp ((z9.trans (za.trans zb)).tp ht2))), .int _, tyb_ext yc hhb, .inl (by rw [nh, Bool.and_false])⟩
          | 2, hi =>
            cases hi
            exact ⟨t3, _, _, _, _, rfl, .inl (.inl (yc.tp ((za.trans zb).tp ht3))), .int _, .int _, .inr rfl⟩
          | 3, hi =>
            cases hi
            exact ⟨t4, _, _, _, _, rfl, .inl (.inl (yc.tp (zb.tp ht4))), .int _, .int _, .inr rfl⟩
        have y0c := y0b.trans yc
        have hs0 : wSide (.str (Str.ofString "left")) = some 0 := by decide +kernel
        refine ⟨_, rfl, _, rfl, a, d, L, Y, n, R, 5, _, _, _, "str", "int", "hue", rfl, hH.ext y0c, G, hn, by omega, tabsG y0c, .str _, .int _, .hue5 (.inr htp) hu1 hu2 hs0 (isIn_of (i := 0) (m := sideOf L Y 0) L1) hf, fun r Gd yd hrd => ?_⟩
        refine neK (W := W) hrd (kindOk (by decide +kernel)) fun Ge ye => iteF ?_
        exact ⟨_, _, rfl, yc.trans (yd.trans ye)⟩
      · rintro σ Gc ⟨v9, v10, rfl, yc⟩
        have x1c := x16.trans (y1.trans (z1b.trans yc))
        have x0c := x1.trans x1c
        refine ⟨_, rfl, a, d, L, Y, n, R, rfl, hH.ext x0c, by omega, G.N, L8, Y8, fun p2 Gd yd hp2 => ?_⟩
        have okt := stateD_ok R L Y
        refine ⟨_, rfl, stateD R L Y, stateD R L Y, hp2 Gd .refl, hp0 Gd (x1c.trans yd), okt.shaped, okt.shaped, ?_⟩
        rw [eqv_same _ okt.1]
        exact q Gd (x0c.trans yd)
end
end My

set_option Elab.async false
set_option linter.all false
set_option maxRecDepth 100000
set_option maxHeartbeats 4000000
namespace My
open PySem PySem.Spec PyProof.Rows L2 Own TL Mt
theorem all_deg {R : List Pr} {s e : Nat} (h : ∀ p ∈ R, p.e s = e) : deg R s e = R.length := by
  rw [deg_filter, List.filter_eq_self.mpr fun p hp => decide_eq_true (h p hp)]
theorem one_end {R : List Pr} {s e : Nat} (hs : s < 2) (h : ∀ p ∈ R, p.e s = e) : cnt R = R.length := by
  have h1 := deg_le R (e := e) hs
  rw [all_deg h] at h1
  have h2 := cnt_le R
  omega
/-- all pairs join the first ends -/
def At00 (R : List Pr) : Prop := ∀ p ∈ R, p.l = 0 ∧ p.r = 0
theorem At00.e {R : List Pr} (A : At00 R) (s : Nat) : ∀ p ∈ R, p.e s = 0 := fun p hp => by
  unfold Pr.e
  split
  · exact (A p hp).1
  · exact (A p hp).2
theorem At00.cnt {R : List Pr} (A : At00 R) : Mt.cnt R = R.length := one_end (s := 0) (by decide) (A.e 0)
theorem At00.at {R : List Pr} (A : At00 R) (G : Good R) {s h : Nat} (hs : s < 2) (lt : h < R.length) : at_ R s 0 h ≠ none := by
  obtain ⟨p, hp, e1, e2⟩ := G.full (e := 0) hs (by rw [all_deg (A.e s), A.cnt]) (by rw [A.cnt]; exact lt)
  rw [at_is G.P hs hp e1 e2]
  exact fun z => by cases z
theorem At00.free {R : List Pr} (A : At00 R) (G : Good R) {s : Nat} (hs : s < 2) : Mt.free R s 0 (R.length + 1) = [R.length] := by
  unfold Mt.free
  rw [List.range_succ, List.filter_append, List.filter_eq_nil_iff.mpr fun h hh => ?_, List.nil_append, List.filter_cons, List.filter_nil, if_pos ?_]
  · rw [at_no fun p hp _ => ?_]
    · rfl
    · have := G.H p hp
      rw [A.cnt] at this
      omega
  · have := A.at G hs (List.mem_range.mp hh)
    cases e : at_ R s 0 h with
    | none => exact absurd e this
    | some p => simp
theorem At00.snoc {R : List Pr} (A : At00 R) (n h : Nat) : At00 (R ++ [⟨n, 0, 0, h⟩]) := fun p hp => by
  rcases List.mem_append.mp hp with e | e
  · exact A p e
  · rw [List.mem_singleton.mp e]
    exact ⟨rfl, rfl⟩
theorem At00.come {R : List Pr} (A : At00 R) (G : Good R) (n : Nat) : Mt.come R n 0 0 = (⟨n, R.length, none, []⟩, R ++ [⟨n, 0, 0, R.length⟩]) := by
  have hm : manyWith R 0 0 = R.length + 1 := by
    rw [many_is R n 0 0 0, (A.snoc n 0).cnt, List.length_append, List.length_singleton]
  unfold Mt.come
  rw [hm]
  refine place_both (t := []) ?_
  unfold both
  rw [A.free G (s := 0) (by decide), A.free G (s := 1) (by decide), List.filter_cons, if_pos (decide_eq_true List.mem_cons_self), List.filter_nil]
theorem At00.go {R : List Pr} (A : At00 R) (G : Good R) {x : Nat} (hx : x ∈ R.map (·.n)) : At00 (Mt.go R x).2 ∧ (Mt.go R x).2.length + 1 = R.length := by
  have pm := (go_ok G hx).2
  obtain ⟨p, hp, e⟩ := List.mem_map.mp hx
  have e : p.n = x := e
  subst e
  refine ⟨fun q hq => ?_, ?_⟩
  · have hm := pm.mem_iff.mp (List.mem_map.mpr ⟨q, hq, rfl⟩)
    obtain ⟨u, hu, eu⟩ := List.mem_map.mp hm
    have h1 : u.l = q.l := congrArg (fun t => t.2.1) eu
    have h2 : u.r = q.r := congrArg (fun t => t.2.2) eu
    rw [← h1, ← h2]
    exact A u (mem_drop.mp hu).1
  · have h1 := pm.length_eq
    rw [List.length_map, List.length_map] at h1
    have h2 := (drop_perm G.N hp).length_eq
    rw [List.length_append, List.length_singleton] at h2
    omega
def toldD (n h : Nat) : PyData := .tuple [.int (n : Nat), .int (h : Nat), .none, natsD []]
theorem toldD_ok (n h : Nat) : okD 3 (toldD n h) := okD.tuple fun d hd => by
  simp only [List.mem_cons, List.not_mem_nil, or_false] at hd
  rcases hd with rfl | rfl | rfl | rfl
  · exact (okD_int _).of (by decide)
  · exact (okD_int _).of (by decide)
  · exact okD_non.of (by decide)
  · exact natsD_ok _
theorem dp_told {K : PySem.W.Frag} {H : Hp} {a c : Addr} {n h : Nat} (t : ToldAt K H a c ⟨n, h, none, []⟩) : Dp K H (.ref a) (toldD n h) := .tup (SqT.of t.1) (.cons (.int _) (.cons (.int _) (.cons .non (.cons (dp_nats (SqL.of t.2)) .nil))))
theorem dp_due {K : PySem.W.Frag} {H : Hp} {a c : Addr} {n h : Nat} (t : H a = some (.tup [.int (n : Nat), .int (h : Nat), .non, .ref c])) (tc : H c = some (.lst [])) : Dp K H (.ref a) (toldD n h) := .tup (SqT.of t) (.cons (.int _) (.cons (.int _) (.cons .non (.cons (dp_nats (ns := []) (SqL.of tc)) .nil))))
section
variable {P : Program} {w : World} {K : PySem.W.Frag} {mg : Str → Option Value} {base : Heap} {W : Tbs}
def spFull (K : PySem.W.Frag) (W : Tbs) : Sp := fun vs H Q _ => ∃ c : Int, vs = [.int c] ∧ (∀ p ∈ W.l, LamX.TabS H p.1 p.2) ∧ ∀ H', Q (.bl true) H'
theorem ok_l_full (T : Txt K mg) (B : LamX.TabB base mg T.k_place T.p_place) (WO : Wok W T.p_place) : FnOk P w K mg base CX0 8 T.f_l_full T.d_l_full ["_law_cell"] (spFull K W) := by
  have ok_l_asked : FnOk P w K mg base CX0 7 T.f_l_asked T.d_l_asked ["_law_hall", "_law_way", "_law_one", "_law_other", "_law_third"] (spAsked K W T.C_Hall) := ok_l_asked T B WO
  have ok_Hall_init : FnOk P w K mg base (L2.CX P w) 3 T.f_Hall_init T.d_Hall_init ["self", "lefts", "rights"] (spInit K W T.C_Hall T.E_BadCount) := ok_Hall_init T
  have ok_Hall_come : FnOk P w K mg base (L2.CX P w) 5 T.f_Hall_come T.d_Hall_come ["self", "left", "right"] (spCome K W T.C_Hall T.E_BadEnd T.E_TooMany) := ok_Hall_come T B WO
  have ok_Hall_go : FnOk P w K mg base (L2.CX P w) 6 T.f_Hall_go T.d_Hall_go ["self", "number"] (spGo K W T.C_Hall T.E_NoPair) := ok_Hall_go T B WO
  have ok_Hall_count : FnOk P w K mg base CX0 3 T.f_Hall_count T.d_Hall_count ["self"] (spCount0 K W T.C_Hall) := ok_Hall_count T
  refine T.D_l_full.F.ok sc_l_full (fun vs H Q E h => ?_) (fun cdv A outer s H vs Q E hr h => ?_)
  · obtain ⟨c, rfl, _⟩ := h
    rfl
  · obtain ⟨c, rfl, tabs, q⟩ := h
    refine ⟨_, (pss_cons (ps_set (i := 1) sc_l_full.nd rfl (.inl rfl) (pe_make T.M_Hall ok_Hall_init (hr.mono (by decide)) rfl T.g_Hall T.b_Hall_init .nil passL (pa_cons pe_int (pa_cons pe_int pa_nil))))
    (pss_cons (ps_for PassesOwn.never rfl (pi_range1 rfl T.z_range (pa_cons pe_int pa_nil)) (pg_name (i := 2) sc_l_full.nd rfl (.inl rfl)) 
      (pss_one (ps_if (pt_cmpR (neD K hr.units) (pe_meth (pv 1) T.cl_Hall T.D_Hall_come.m ok_Hall_come (hr.mono (by decide)) T.D_Hall_come.b .nil passL (pa_cons pe_int (pa_cons pe_int pa_nil))) (pe_tup (pa_cons (pv 2) (pa_cons (pv 2) (pa_cons pe_non (pa_cons (pe_lst pa_nil) pa_nil))))) (nomark _)) 
        (pss_one (ps_ret pe_bl)) pss_nil)))
    (pss_cons (ps_if (PW.pt (pw_or (pt_cmpR (neD K hr.units) (pe_call ok_l_asked (hr.mono (by decide)) rfl T.D_l_asked.g T.D_l_asked.F.kp T.D_l_asked.b .nil pass0 (pa_cons (pv 1) (pa_cons pe_int (pa_cons pe_int (pa_cons pe_int (pa_cons pe_int pa_nil)))))) (pe_tup (pa_cons pe_str pa_nil)) (nomark _)) (pw_or1 (pt_cmpR (neD K hr.units) (pe_call ok_l_asked (hr.mono (by decide)) rfl T.D_l_asked.g T.D_l_asked.F.kp T.D_l_asked.b .nil pass0 (pa_cons (pv 1) (pa_cons pe_int (pa_cons pe_int (pa_cons pe_int (pa_cons pe_int pa_nil)))))) (pe_tup (pa_cons pe_str pa_nil)) (nomark _))))) 
      (pss_one (ps_ret pe_bl)) pss_nil)
    (pss_cons (ps_if (pt_cmpR (neD K hr.units) (pe_call ok_l_asked (hr.mono (by decide)) rfl T.D_l_asked.g T.D_l_asked.F.kp T.D_l_asked.b .nil pass0 (pa_cons (pv 1) (pa_cons pe_int (pa_cons pe_str (pa_cons pe_int (pa_cons (pe_tup (pa_cons (pe_op op_mod (pv 0) pe_int) (pa_cons (pe_op op_mod (pe_op op_add (pv 0) pe_int) pe_int) pa_nil))) pa_nil)))))) (pe_tup (pa_cons pe_str pa_nil)) (nomark _)) 
      (pss_one (ps_ret pe_bl)) pss_nil)
    (pss_cons (ps_expr (pe_meth (pv 1) T.cl_Hall T.D_Hall_go.m ok_Hall_go (hr.mono (by decide)) T.D_Hall_go.b .nil passL (pa_cons (pe_op op_mod (pv 0) pe_int) pa_nil)))
    (pss_cons (ps_set (i := 3) sc_l_full.nd rfl (.inl rfl) (pe_meth (pv 1) T.cl_Hall T.D_Hall_come.m ok_Hall_come (hr.mono (by decide)) T.D_Hall_come.b .nil passL (pa_cons pe_int (pa_cons pe_int pa_nil))))
    (pss_one (ps_ret (pe_and (pe_cmpR (eqD K hr.units) (pv 3) (pe_tup (pa_cons pe_int (pa_cons pe_int (pa_cons pe_non (pa_cons (pe_lst pa_nil) pa_nil))))) (nomark _)) (pe_and (pe_cmpR (eqD K hr.units) (pe_call ok_l_asked (hr.mono (by decide)) rfl T.D_l_asked.g T.D_l_asked.F.kp T.D_l_asked.b .nil pass0 (pa_cons (pv 1) (pa_cons pe_int (pa_cons pe_int (pa_cons pe_int (pa_cons pe_int pa_nil)))))) (pe_tup (pa_cons pe_str pa_nil)) (nomark _)) (pe_one (pe_cmpR op_eq (pe_meth0 (pv 1) T.cl_Hall T.D_Hall_count.m ok_Hall_count (hr.mono (by decide)) T.D_Hall_count.b .nil pass0) pe_int (nomark _))))))))))))), ?_⟩
    intro a dx na ndx nax
    have x2 : Ext W H (upd (upd H dx (.own a)) a (.ins T.C_Hall dx [])) := (Fx.new (W := W) (S := []) ndx).trans (.new (by rw [upd_ne nax.symm]; exact na))
    have ha2 : (upd (upd H dx (.own a)) a (.ins T.C_Hall dx [])) a = some (.ins T.C_Hall dx []) := upd_same
    revert x2 ha2
    generalize upd (upd H dx (.own a)) a (.ins T.C_Hall dx []) = H2
    intro x2 ha2
    refine ⟨a, dx, _, _, _, _, rfl, ha2, TyB.int _, TyB.int _, fun L Y eL eY L1 L8 Y1 Y8 d H3 nd x3 hH3 => ⟨rfl, ?main⟩, fun z => ?bad⟩
    case bad => cases z
    have eL : L = 1 := by have := V.int.inj eL; omega
    have eY : Y = 1 := by have := V.int.inj eY; omega
    subst eL eY
    have x03 : Ext W H H3 := (x2.up.trans x3).down fun b hb => by rw [List.mem_singleton.mp hb]; exact na
    have tabs3 := fun p hp => x03.l p hp (tabs p hp)
    refine ⟨40, rfl, by decide, by decide, for_range (lo := 0) (n := 40) (fun i σ G => ∃ (v2 : Option V) (R : List Pr), σ = [some (.int c), some (.ref a), v2, none] ∧ Fx W [a, d] H3 G ∧ HallOf K T.C_Hall G a d 1 1 i R ∧ Good R ∧ At00 R ∧ R.map (·.n) = List.range i)
      ⟨none, [], rfl, .refl, hH3, Good.nil, fun p hp => absurd hp (by simp), rfl⟩ ?_ ?_⟩
    · rintro i σ G hi ⟨v2, R, rfl, y, hH, GG, A0, hns⟩
      rw [show (0 : Int) + (i : Nat) = ((i : Nat) : Int) by omega]
      have i40 : i < 40 := hi
      have lR : R.length = i := by
        have := congrArg List.length hns
        rw [List.length_map, List.length_range] at this
        exact this
      have hn : ∀ p ∈ R, p.n < i := fun p hp => by
        have : p.n ∈ R.map (·.n) := List.mem_map.mpr ⟨p, hp, rfl⟩
        rw [hns] at this
        exact List.mem_range.mp this
      obtain ⟨dx1, e1, kv1, ha1, _⟩ := hH.ex
      have hz : (isIn (V.int 0) 0 ((1 : Nat) - 1) && isIn (V.int 0) 0 ((1 : Nat) - 1)) = true := by decide
      refine ⟨_, rfl, a, dx1, _, rfl, ha1, hf_no _ _ _ (by decide +kernel) (by decide +kernel) (by decide +kernel), a, d, 1, 1, i, R, _, _, _, _, rfl, hH, GG, hn, by omega, fun p hp => y.l p hp (tabs3 p hp), TyB.int _, TyB.int _, fun l r el er _ _ _ b1 c1 G2 nb1 nc1 y2 hH2 hT2 => ?_, fun z => (by rw [hz] at z; cases z), fun _ z => absurd z (by omega)⟩
      have el : l = 0 := by have := V.int.inj el; omega
      have er : r = 0 := by have := V.int.inj er; omega
      subst el er
      rw [A0.come GG i, lR] at hT2
      have hc := A0.come GG i
      rw [lR] at hc
      rw [hc] at hH2
      have GG2 := come_good GG (n := i) (l := 0) (r := 0) fun z => by
        rw [hns] at z
        have := List.mem_range.mp z
        omega
      rw [hc] at GG2
      refine ⟨_, rfl, _, rfl, by show 0 ≤ sizeLine; decide, fun u1 nu1 => ?_⟩
      refine newO W (H := G2) (p := u1) nu1 fun G3 y3 hu1 => ?_
      refine ⟨by show 4 ≤ sizeLine; decide, fun u2 nu2 => ?_⟩
      refine newO W (H := G3) (p := u2) nu2 fun G4 y4 hu2 => ?_
      have okt := toldD_ok i i
      have y34 := y3.trans y4
      refine ⟨toldD i i, toldD i i, dp_told (told_fx (S := []) y34 hT2), dp_due hu2 (y4.lst hu1), okt.shaped, okt.shaped, _, rfl, ?_⟩
      rw [eqv_same _ okt.1]
      refine iteF ⟨_, _, rfl, y.trans (y2.trans y34.up), hH2.ext y34, GG2, A0.snoc i i, ?_⟩
      rw [List.map_append, hns, List.range_succ]
      rfl
    · rintro σ G ⟨v2, R, rfl, y, hH, GG, A0, hns⟩
      have lR : R.length = 40 := by
        have := congrArg List.length hns
        rw [List.length_map, List.length_range] at this
        exact this
      have hn : ∀ p ∈ R, p.n < 40 := fun p hp => by
        have : p.n ∈ R.map (·.n) := List.mem_map.mpr ⟨p, hp, rfl⟩
        rw [hns] at this
        exact List.mem_range.mp this
      have cR := A0.cnt
      have tabsG : ∀ p ∈ W.l, LamX.TabS G p.1 p.2 := fun p hp => y.l p hp (tabs3 p hp)
      have tabsX : ∀ {G' : Hp}, Ext W G G' → ∀ p ∈ W.l, LamX.TabS G' p.1 p.2 := fun x p hp => x.l p hp (tabsG p hp)
      refine ⟨_, rfl, a, d, 1, 1, 40, R, 0, _, _, _, "int", "int", "many", rfl, hH, GG, hn, by omega, tabsG, .int _, .int _, .many0 (by decide) (by omega), fun r G1 y1 hr1 => ?_⟩
      refine neK (W := W) hr1 (kindOk (by decide +kernel)) fun G2 y2 => iteF ?_
      have y02 := y1.trans y2
      refine ⟨_, rfl, a, d, 1, 1, 40, R, 0, _, _, _, "int", "int", "end", rfl, hH.ext y02, GG, hn, by omega, tabsX y02, .int _, .int _, .end0 (by decide), fun r G3 y3 hr3 => ?_⟩
      refine neK (W := W) hr3 (kindOk (by decide +kernel)) fun G4 y4 => iteF ?_
      have y04 := y02.trans (y3.trans y4)
      obtain ⟨j1, e1, b1⟩ := mod_nat c (m := 40) (by decide)
      obtain ⟨j2, e2, b2⟩ := mod_nat (c + 1) (m := 40) (by decide)
      have j12 : j1 ≠ j2 := by omega
      refine ⟨_, rfl, _, rfl, _, _, rfl, rfl, (by show (0 : Int) < 40; decide), _, rfl, _, _, rfl, rfl, _, _, rfl, rfl, (by show (0 : Int) < 40; decide), by show 2 ≤ sizeLine; decide, fun t nt => ?_⟩
      refine newO W (H := G4) (p := t) nt fun G5 y5 ht => ?_
      have ht : G5 t = some (.tup [.int (c % 40), .int ((c + 1) % 40)]) := ht
      rw [e1, e2] at ht
      have y05 := y04.trans y5
      have hs1 : wSide (.str (Str.ofString "right")) = some 1 := by decide +kernel
      refine ⟨a, d, 1, 1, 40, R, 5, _, _, _, "str", "int", "free", rfl, hH.ext y05, GG, hn, by omega, tabsX y05, .str _, .int _, .free5 (e := 0) (.inr (.inl (.inl ht))) hs1 (by decide) (by rw [cR]; omega) (by rw [cR]; omega) j12 (A0.at GG (by decide) (by omega)), fun r G6 y6 hr6 => ?_⟩
      refine neK (W := W) hr6 (kindOk (by decide +kernel)) fun G7 y7 => iteF ?_
      have y07 := y05.trans (y6.trans y7)
      have hH7 := hH.ext y07
      obtain ⟨dx7, e7, kv7, ha7, _⟩ := hH7.ex
      refine ⟨_, rfl, a, dx7, _, rfl, ha7, hf_no _ _ _ (by decide +kernel) (by decide +kernel) (by decide +kernel), _, rfl, _, _, rfl, rfl, (by show (0 : Int) < 40; decide), ?_⟩
      refine ⟨a, d, 1, 1, 40, R, V.int (c % 40), _, rfl, hH7, GG, by omega, tabsX y07, TyB.int _, fun p hp ev bb acs G8 nb nacs y8 hH8 hb8 hT8 => ?_, fun hno => ?_⟩
      case refine_2 =>
        exfalso
        have hm : j1 ∈ R.map (·.n) := by
          rw [hns]
          exact List.mem_range.mpr (by omega)
        obtain ⟨p, hp, ep⟩ := List.mem_map.mp hm
        have ep : p.n = j1 := ep
        exact hno p hp (by rw [e1, ep])
      have hx : p.n ∈ R.map (·.n) := List.mem_map.mpr ⟨p, hp, rfl⟩
      obtain ⟨A8, l8⟩ := A0.go GG hx
      have G8ok := (go_ok GG hx).1
      have hn8 : ∀ q ∈ (go R p.n).2, q.n < 40 := fun q hq => by
        have pm := (go_ok GG hx).2
        obtain ⟨u, hu, eu⟩ := List.mem_map.mp (pm.mem_iff.mp (List.mem_map.mpr ⟨q, hq, rfl⟩))
        have h1 := hn u (mem_drop.mp hu).1
        have h2 : u.n = q.n := congrArg Prod.fst eu
        omega
      generalize (go R p.n).2 = R8 at hH8 A8 l8 G8ok hn8
      have l39 : R8.length = 39 := by omega
      obtain ⟨dx8, e8, kv8, ha8, _⟩ := hH8.ex
      have tabs8 : ∀ p ∈ W.l, LamX.TabS G8 p.1 p.2 := fun p hp => y8.l p hp (tabsX y07 p hp)
      have hz : (isIn (V.int 0) 0 ((1 : Nat) - 1) && isIn (V.int 0) 0 ((1 : Nat) - 1)) = true := by decide
      refine ⟨_, rfl, a, dx8, _, rfl, ha8, hf_no _ _ _ (by decide +kernel) (by decide +kernel) (by decide +kernel), a, d, 1, 1, 40, R8, _, _, _, _, rfl, hH8, G8ok, hn8, by omega, tabs8, TyB.int _, TyB.int _, fun l r el er _ _ _ f c1 G9 nf nc1 y9 hH9 hT9 => ?_, fun z => (by rw [hz] at z; cases z), fun _ z => absurd z (by omega)⟩
      have el : l = 0 := by have := V.int.inj el; omega
      have er : r = 0 := by have := V.int.inj er; omega
      subst el er
      have hc := A8.come G8ok 40
      rw [l39] at hc
      rw [hc] at hT9 hH9
      have G9ok := come_good G8ok (n := 40) (l := 0) (r := 0) fun z => by
        obtain ⟨q, hq, e⟩ := List.mem_map.mp z
        have := hn8 q hq
        have e : q.n = 40 := e
        omega
      rw [hc] at G9ok
      have A9 := A8.snoc 40 39
      have l40 : (R8 ++ [(⟨40, 0, 0, 39⟩ : Pr)]).length = 40 := by rw [List.length_append, List.length_singleton, l39]
      have hn9 : ∀ q ∈ R8 ++ [(⟨40, 0, 0, 39⟩ : Pr)], q.n < 41 := fun q hq => by
        rcases List.mem_append.mp hq with e | e
        · have := hn8 q e
          omega
        · rw [List.mem_singleton.mp e]
          decide
      have hH9 : HallOf K T.C_Hall G9 a d 1 1 41 (R8 ++ [(⟨40, 0, 0, 39⟩ : Pr)]) := hH9
      have G9ok : Good (R8 ++ [(⟨40, 0, 0, 39⟩ : Pr)]) := G9ok
      generalize R8 ++ [(⟨40, 0, 0, 39⟩ : Pr)] = R9 at hH9 G9ok A9 l40 hn9
      have tabs9 : ∀ p ∈ W.l, LamX.TabS G9 p.1 p.2 := fun p hp => y9.l p hp (tabs8 p hp)
      refine ⟨_, rfl, by show 0 ≤ sizeLine; decide, fun u1 nu1 => ?_⟩
      refine newO W (H := G9) (p := u1) nu1 fun Ga ya hu1 => ?_
      refine ⟨by show 4 ≤ sizeLine; decide, fun u2 nu2 => ?_⟩
      refine newO W (H := Ga) (p := u2) nu2 fun Gb yb hu2 => ?_
      have okt := toldD_ok 40 39
      have yab := ya.trans yb
      refine ⟨toldD 40 39, toldD 40 39, dp_told (told_fx (S := []) yab hT9), dp_due (n := 40) (h := 39) hu2 (yb.lst hu1), okt.shaped, okt.shaped, _, rfl, ?_⟩
      rw [eqv_same _ okt.1, if_pos rfl]
      refine ⟨_, rfl, a, d, 1, 1, 41, R9, 0, _, _, _, "int", "int", "many", rfl, hH9.ext yab, G9ok, hn9, by omega, fun p hp => yab.l p hp (tabs9 p hp), .int _, .int _, .many0 (by decide) (by omega), fun r Gc yc hrc => ?_⟩
      refine ⟨by show 1 ≤ sizeLine; decide, fun u3 nu3 => ?_⟩
      refine newO W (H := Gc) (p := u3) nu3 fun Gd yd hu3 => ?_
      have okk : okD 2 (kindD "many") := kindOk (by decide +kernel)
      refine ⟨kindD "many", kindD "many", .tup (SqT.of (yd.tp hrc)) (.cons (.str _) .nil), .tup (SqT.of hu3) (.cons (.str _) .nil), okk.shaped, okk.shaped, _, rfl, ?_⟩
      rw [eqv_same _ okk.1, if_pos rfl]
      have y9d := yab.trans (yc.trans yd)
      have hHd := hH9.ext y9d
      obtain ⟨dxd, ed, kvd, had, _⟩ := hHd.ex
      refine ⟨_, rfl, a, dxd, _, rfl, had, hf_no _ _ _ (by decide +kernel) (by decide +kernel) (by decide +kernel), a, d, 1, 1, 41, R9, rfl, hHd, by omega, fun Ge ye => ⟨rfl, ?_⟩⟩
      rw [A9.cnt, l40, decide_eq_true (show V.int ((40 : Nat) : Int) = V.int 40 from rfl)]
      exact q Ge
end
end My

set_option Elab.async false
set_option linter.all false
set_option maxRecDepth 100000
set_option maxHeartbeats 4000000
namespace My
open PySem PySem.Spec PyProof.Rows L2 Own TL Mt
theorem come_left {R : List Pr} {n l r : Nat} (h : ∀ p ∈ R, p.l = 0) (hl : l = 0) : ∀ p ∈ (come R n l r).2, p.l = 0 := fun p hp => by
  have e : (come R n l r).2.map nlr = R.map nlr ++ [(n, l, r)] := place_nlr
  have hm : nlr p ∈ (come R n l r).2.map nlr := List.mem_map.mpr ⟨p, hp, rfl⟩
  rw [e] at hm
  rcases List.mem_append.mp hm with z | z
  · obtain ⟨q, hq, eq⟩ := List.mem_map.mp z
    have h1 : q.l = p.l := congrArg (fun t => t.2.1) eq
    rw [← h1]
    exact h q hq
  · have h1 : p.l = l := congrArg (fun t => t.2.1) (List.mem_singleton.mp z)
    rw [h1, hl]
theorem come_n {R : List Pr} {n l r : Nat} : (come R n l r).1.n = n := by
  unfold come place
  split <;> rfl
theorem come_nums {R : List Pr} {n l r : Nat} (h : R.map (·.n) = List.range n) : (come R n l r).2.map (·.n) = List.range (n + 1) := by
  have e : (come R n l r).2.map (·.n) = R.map (·.n) ++ [n] := place_ns
  rw [e, h, List.range_succ]
section
variable {P : Program} {w : World} {K : PySem.W.Frag} {mg : Str → Option Value} {base : Heap} {W : Tbs}
def spLaw (K : PySem.W.Frag) (W : Tbs) : Sp := fun vs H Q _ => ∃ (a : Addr) (ns : List Int), vs = [.ref a] ∧ SqL K H a (ns.map V.int) ∧ (∀ p ∈ W.l, LamX.TabS H p.1 p.2) ∧ ∀ H', Q (.bl true) H'
theorem ok_law (T : Txt K mg) (B : LamX.TabB base mg T.k_place T.p_place) (WO : Wok W T.p_place) : FnOk P w K mg base CX0 12 T.f_law T.d_law ["_law_script"] (spLaw K W) := by
  have ok_l_cell_at : FnOk P w K mg base CX0 1 T.f_l_cell_at T.d_l_cell_at ["_law_script", "_law_k"] (spDraw K) := ok_l_cell_at T
  have ok_l_mixed : FnOk P w K mg base CX0 1 T.f_l_mixed T.d_l_mixed ["_law_cell", "_law_k"] spMix := ok_l_mixed T
  have ok_l_counts_refused : FnOk P w K mg base CX0 11 T.f_l_counts_refused T.d_l_counts_refused ["_law_cell"] (spCountsRefused W) := ok_l_counts_refused T B WO
  have ok_l_ends_refused : FnOk P w K mg base CX0 8 T.f_l_ends_refused T.d_l_ends_refused ["_law_hall", "_law_sizes", "_law_cell"] (spEndsRefused K W T.C_Hall) := ok_l_ends_refused T B WO
  have ok_l_numbers_refused : FnOk P w K mg base CX0 8 T.f_l_numbers_refused T.d_l_numbers_refused ["_law_hall", "_law_came", "_law_gone", "_law_count", "_law_cell"] (spNumbersRefused K W T.C_Hall) := ok_l_numbers_refused T B WO
  have ok_l_full : FnOk P w K mg base CX0 8 T.f_l_full T.d_l_full ["_law_cell"] (spFull K W) := ok_l_full T B WO
  have ok_Hall_init : FnOk P w K mg base (L2.CX P w) 3 T.f_Hall_init T.d_Hall_init ["self", "lefts", "rights"] (spInit K W T.C_Hall T.E_BadCount) := ok_Hall_init T
  have ok_Hall_come : FnOk P w K mg base (L2.CX P w) 5 T.f_Hall_come T.d_Hall_come ["self", "left", "right"] (spCome K W T.C_Hall T.E_BadEnd T.E_TooMany) := ok_Hall_come T B WO
  have ok_Hall_go : FnOk P w K mg base (L2.CX P w) 6 T.f_Hall_go T.d_Hall_go ["self", "number"] (spGo K W T.C_Hall T.E_NoPair) := ok_Hall_go T B WO
  refine T.D_law.F.ok sc_law (fun vs H Q E h => ?_) (fun cdv A outer s H vs Q E hr h => ?_)
  · obtain ⟨a, ns, rfl, _⟩ := h
    rfl
  · obtain ⟨a0, ns, rfl, hS, tabs, q⟩ := h
    refine ⟨_, (pss_cons (ps_set (i := 1) sc_law.nd rfl (.inl rfl) (pe_call ok_l_mixed (hr.mono (by decide)) rfl T.D_l_mixed.g T.D_l_mixed.F.kp T.D_l_mixed.b .nil pass0 (pa_cons (pe_call ok_l_cell_at (hr.mono (by decide)) rfl T.D_l_cell_at.g T.D_l_cell_at.F.kp T.D_l_cell_at.b .nil pass0 (pa_cons (pv 0) (pa_cons pe_int pa_nil))) (pa_cons pe_int pa_nil))))
    (pss_cons (ps_if (pt_not (pt_val (pe_call ok_l_counts_refused (hr.mono (by decide)) rfl T.D_l_counts_refused.g T.D_l_counts_refused.F.kp T.D_l_counts_refused.b .nil pass0 (pa_cons (pv 1) pa_nil)))) 
      (pss_one (ps_ret pe_bl)) pss_nil)
    (pss_cons (ps_set (i := 2) sc_law.nd rfl (.inl rfl) (pe_tup (pa_cons (pe_op op_add pe_int (pe_op op_mod (pe_call ok_l_cell_at (hr.mono (by decide)) rfl T.D_l_cell_at.g T.D_l_cell_at.F.kp T.D_l_cell_at.b .nil pass0 (pa_cons (pv 0) (pa_cons pe_int pa_nil))) pe_int)) (pa_cons (pe_op op_add pe_int (pe_op op_mod (pe_op op_fdiv (pe_call ok_l_cell_at (hr.mono (by decide)) rfl T.D_l_cell_at.g T.D_l_cell_at.F.kp T.D_l_cell_at.b .nil pass0 (pa_cons (pv 0) (pa_cons pe_int pa_nil))) pe_int) pe_int)) pa_nil))))
    (pss_cons (ps_set (i := 3) sc_law.nd rfl (.inl rfl) (pe_make T.M_Hall ok_Hall_init (hr.mono (by decide)) rfl T.g_Hall T.b_Hall_init .nil passL (pa_cons (pe_ix (ixT K) (pv 2) pe_int (fun _ _ => rfl)) (pa_cons (pe_ix (ixT K) (pv 2) pe_int (fun _ _ => rfl)) pa_nil))))
    (pss_cons (ps_set (i := 4) sc_law.nd rfl (.inl rfl) (pe_op op_mod (pe_call ok_l_cell_at (hr.mono (by decide)) rfl T.D_l_cell_at.g T.D_l_cell_at.F.kp T.D_l_cell_at.b .nil pass0 (pa_cons (pv 0) (pa_cons pe_int pa_nil))) pe_int))
    (pss_cons (ps_set (i := 5) sc_law.nd rfl (.inl rfl) (pe_lst pa_nil))
    (pss_cons (ps_for PassesOwn.never rfl (pi_range1 rfl T.z_range (pa_cons (pv 4) pa_nil)) (pg_name (i := 6) sc_law.nd rfl (.inl rfl)) 
      (pss_one (ps_expr (pe_meth (pv 3) T.cl_Hall T.D_Hall_come.m ok_Hall_come (hr.mono (by decide)) T.D_Hall_come.b .nil passL (pa_cons pe_int (pa_cons (pe_op op_mod (pv 6) (pe_ix (ixT K) (pv 2) pe_int (fun _ _ => rfl))) pa_nil))))))
    (pss_cons (ps_if (PW.pt (pw_and (pt_cmpR op_eq (pv 4) pe_int (nomark _)) (pw_and1 (pt_cmpR op_eq (pe_op op_mod (pe_op op_fdiv (pe_call ok_l_cell_at (hr.mono (by decide)) rfl T.D_l_cell_at.g T.D_l_cell_at.F.kp T.D_l_cell_at.b .nil pass0 (pa_cons (pv 0) (pa_cons pe_int pa_nil))) pe_int) pe_int) pe_int (nomark _))))) 
      (pss_cons (ps_expr (pe_meth (pv 3) T.cl_Hall T.D_Hall_go.m ok_Hall_go (hr.mono (by decide)) T.D_Hall_go.b .nil passL (pa_cons pe_int pa_nil)))
      (pss_one (ps_set (i := 5) sc_law.nd rfl (.inl rfl) (pe_lst (pa_cons pe_int pa_nil))))) pss_nil)
    (pss_cons (ps_set (i := 1) sc_law.nd rfl (.inl rfl) (pe_call ok_l_mixed (hr.mono (by decide)) rfl T.D_l_mixed.g T.D_l_mixed.F.kp T.D_l_mixed.b .nil pass0 (pa_cons (pe_call ok_l_cell_at (hr.mono (by decide)) rfl T.D_l_cell_at.g T.D_l_cell_at.F.kp T.D_l_cell_at.b .nil pass0 (pa_cons (pv 0) (pa_cons pe_int pa_nil))) (pa_cons pe_int pa_nil))))
    (pss_cons (ps_if (pt_not (pt_val (pe_call ok_l_ends_refused (hr.mono (by decide)) rfl T.D_l_ends_refused.g T.D_l_ends_refused.F.kp T.D_l_ends_refused.b .nil pass0 (pa_cons (pv 3) (pa_cons (pv 2) (pa_cons (pv 1) pa_nil)))))) 
      (pss_one (ps_ret pe_bl)) pss_nil)
    (pss_cons (ps_if (pt_not (pt_val (pe_call ok_l_numbers_refused (hr.mono (by decide)) rfl T.D_l_numbers_refused.g T.D_l_numbers_refused.F.kp T.D_l_numbers_refused.b .nil pass0 (pa_cons (pv 3) (pa_cons (pv 4) (pa_cons (pv 5) (pa_cons (pe_op op_sub (pv 4) (pe_callB (lenQ K) (by rfl) T.z_len PySem.boot_len (pa_cons (pv 5) pa_nil))) (pa_cons (pe_call ok_l_mixed (hr.mono (by decide)) rfl T.D_l_mixed.g T.D_l_mixed.F.kp T.D_l_mixed.b .nil pass0 (pa_cons (pe_call ok_l_cell_at (hr.mono (by decide)) rfl T.D_l_cell_at.g T.D_l_cell_at.F.kp T.D_l_cell_at.b .nil pass0 (pa_cons (pv 0) (pa_cons pe_int pa_nil))) (pa_cons pe_int pa_nil))) pa_nil)))))))) 
      (pss_one (ps_ret pe_bl)) pss_nil)
    (pss_cons (ps_if (pt_cmpR op_ne (pe_ix (ixT K) (pe_meth (pv 3) T.cl_Hall T.D_Hall_come.m ok_Hall_come (hr.mono (by decide)) T.D_Hall_come.b .nil passL (pa_cons (pe_op op_sub (pe_ix (ixT K) (pv 2) pe_int (fun _ _ => rfl)) pe_int) (pa_cons pe_int pa_nil))) pe_int (fun _ _ => rfl)) (pv 4) (nomark _)) 
      (pss_one (ps_ret pe_bl)) pss_nil)
    (pss_one (ps_ret (pe_or (pe_cmpR op_ne (pe_op op_mod (pe_call ok_l_cell_at (hr.mono (by decide)) rfl T.D_l_cell_at.g T.D_l_cell_at.F.kp T.D_l_cell_at.b .nil pass0 (pa_cons (pv 0) (pa_cons pe_int pa_nil))) pe_int) pe_int (nomark _)) (pe_one (pe_call ok_l_full (hr.mono (by decide)) rfl T.D_l_full.g T.D_l_full.F.kp T.D_l_full.b .nil pass0 (pa_cons (pe_call ok_l_mixed (hr.mono (by decide)) rfl T.D_l_mixed.g T.D_l_mixed.F.kp T.D_l_mixed.b .nil pass0 (pa_cons (pe_call ok_l_cell_at (hr.mono (by decide)) rfl T.D_l_cell_at.g T.D_l_cell_at.F.kp T.D_l_cell_at.b .nil pass0 (pa_cons (pv 0) (pa_cons pe_int pa_nil))) (pa_cons pe_int pa_nil))) pa_nil)))))))))))))))))), ?_⟩
    refine ⟨_, rfl, a0, ns, 0, rfl, hS, _, _, rfl, by decide, by decide, ?_⟩
    refine ⟨_, rfl, _, rfl, tabs, fun H1 x1 => ⟨_, rfl, iteF ?_⟩⟩
    have hS1 := x1.seq hS
    obtain ⟨g1, e1, b1⟩ := mod_nat (ns.getD 1 0) (m := 8) (by decide)
    obtain ⟨g2, e2, b2⟩ := mod_nat (ns.getD 1 0 / 8) (m := 8) (by decide)
    refine ⟨_, rfl, a0, ns, 1, rfl, hS1, _, _, rfl, rfl, (by show (0 : Int) < 8; decide), _, _, rfl, rfl, _, rfl, a0, ns, 1, rfl, hS1, _, _, rfl, rfl, ⟨by decide, by decide⟩, _, _, rfl, rfl, (by show (0 : Int) < 8; decide), _, _, rfl, rfl, by show 2 ≤ sizeLine; decide, fun z nz => ?_⟩
    refine newO W (H := H1) (p := z) nz fun H2 x2 hz => ?_
    have hz : H2 z = some (.tup [.int (1 + ns.getD 1 0 % 8), .int (1 + ns.getD 1 0 / 8 % 8)]) := hz
    rw [e1, e2, show (1 : Int) + (g1 : Nat) = ((1 + g1 : Nat) : Int) by omega, show (1 : Int) + (g2 : Nat) = ((1 + g2 : Nat) : Int) by omega] at hz
    obtain ⟨L, eL⟩ : ∃ L, L = 1 + g1 := ⟨_, rfl⟩
    obtain ⟨Y, eY⟩ : ∃ Y, Y = 1 + g2 := ⟨_, rfl⟩
    rw [← eL, ← eY] at hz
    have L1 : 1 ≤ L := by omega
    have L8 : L ≤ 8 := by omega
    have Y1 : 1 ≤ Y := by omega
    have Y8 : Y ≤ 8 := by omega
    have hzT : SqT K H2 z [.int (L : Nat), .int (Y : Nat)] := .inl (.inl hz)
    have x02 := x1.trans x2
    refine ⟨_, rfl, z, _, _, _, rfl, rfl, hzT, atI_nat (j := 0) rfl, _, rfl, z, _, _, _, rfl, rfl, hzT, atI_nat (j := 1) rfl, fun a dx na ndx nax => ?_⟩
    have x3 : Ext W H2 (upd (upd H2 dx (.own a)) a (.ins T.C_Hall dx [])) := (Fx.new (W := W) (S := []) ndx).trans (.new (by rw [upd_ne nax.symm]; exact na))
    have ha3 : (upd (upd H2 dx (.own a)) a (.ins T.C_Hall dx [])) a = some (.ins T.C_Hall dx []) := upd_same
    revert x3 ha3
    generalize upd (upd H2 dx (.own a)) a (.ins T.C_Hall dx []) = H3
    intro x3 ha3
    refine ⟨a, dx, _, _, _, _, rfl, ha3, TyB.int _, TyB.int _, fun L' Y' eL' eY' _ _ _ _ d H4 nd x4 hH4 => ⟨rfl, ?main⟩, fun z => ?bad⟩
    case bad =>
      exfalso
      rw [in18 L1 L8, in18 Y1 Y8] at z
      cases z
    have eL2 : L' = L := by have := V.int.inj eL'; omega
    have eY2 : Y' = Y := by have := V.int.inj eY'; omega
    subst eL2 eY2
    have x24 : Ext W H2 H4 := (x3.up.trans x4).down fun b hb => by rw [List.mem_singleton.mp hb]; exact na
    have x04 := x02.trans x24
    have na0 : H a = none := x02.f _ na
    have nd0 : H d = none := x02.f _ (x3.f _ nd)
    obtain ⟨m, em, bm⟩ := mod_nat (ns.getD 2 0) (m := 3) (by decide)
    refine ⟨_, rfl, a0, ns, 2, rfl, x04.seq hS, _, _, rfl, rfl, (by show (0 : Int) < 3; decide), ?_⟩
    dsimp only
    rw [em]
    refine ⟨by show 0 ≤ sizeLine; decide, fun gl ngl => ?_⟩
    refine newO W (H := H4) (p := gl) ngl fun H5 x5 hgl => ?_
    have x05 := x04.trans x5
    have down : ∀ {G : Hp}, Fx W [a, d] H5 G → Ext W H G := fun x => (x05.up.trans x).down fun b hb => by
      rcases List.mem_cons.mp hb with z | z
      · rw [z]; exact na0
      · rw [List.mem_singleton.mp z]; exact nd0
    have hz5 := (x24.trans x5).tup hzT
    have gla : gl ∉ [a, d] := by
      obtain ⟨dx, e, kv, ha, he, hd, hEh⟩ := hH4.ex
      simp only [List.mem_cons, List.not_mem_nil, or_false, not_or]
      exact ⟨(ne_of_none ha ngl).symm, (ne_of_none hd ngl).symm⟩
    refine ⟨_, rfl, _, rfl, by omega, by omega, ?_⟩
    rw [show ((m : Nat) : Int).toNat = m by omega]
    refine for_range (D := { nx := _, rt := _, bk := fun _ _ => False, ct := fun _ _ => False }) (lo := 0) (n := m) (fun i σ G => ∃ (v6 : Option V) (R : List Pr), σ = [some (.ref a0), some (.int (mixI (ns.getD 0 0) 1)), some (.ref z), some (.ref a), some (.int (m : Nat)), some (.ref gl), v6] ∧ Fx W [a, d] H5 G ∧ HallOf K T.C_Hall G a d L' Y' i R ∧
      Good R ∧ (∀ p ∈ R, p.l = 0) ∧ R.map (·.n) = List.range i) ⟨none, [], rfl, .refl, hH4.ext x5, Good.nil, fun p hp => absurd hp (by simp), rfl⟩ ?_ ?_
    · rintro i σ G hi ⟨v6, R, rfl, y, hH, GG, A0, hns⟩
      rw [show (0 : Int) + (i : Nat) = ((i : Nat) : Int) by omega]
      have lR : R.length = i := by
        have := congrArg List.length hns
        rw [List.length_map, List.length_range] at this
        exact this
      have hn : ∀ p ∈ R, p.n < i := fun p hp => by
        have : p.n ∈ R.map (·.n) := List.mem_map.mpr ⟨p, hp, rfl⟩
        rw [hns] at this
        exact List.mem_range.mp this
      obtain ⟨dx1, e1, kv1, ha1, _⟩ := hH.ex
      have tabsG : ∀ p ∈ W.l, LamX.TabS G p.1 p.2 := fun p hp => (down y).l p hp (tabs p hp)
      refine ⟨_, rfl, a, dx1, _, rfl, ha1, hf_no _ _ _ (by decide +kernel) (by decide +kernel) (by decide +kernel), _, rfl, _, rfl, z, _, _, _, rfl, rfl, y.tup hz5, atI_nat (j := 1) rfl, _, _, rfl, rfl, (by show (0 : Int) < (Y' : Nat); omega), ?_⟩
      obtain ⟨k, ek, bk⟩ := mod_nat ((i : Nat) : Int) (m := ((Y' : Nat) : Int)) (by omega)
      have kY : k < Y' := by omega
      have hin : (isIn (V.int 0) 0 ((L' : Nat) - 1) && isIn (V.int (((i : Nat) : Int) % ((Y' : Nat) : Int))) 0 ((Y' : Nat) - 1)) = true := by
        rw [ek, isIn_of kY, show isIn (V.int 0) 0 ((L' : Nat) - 1) = true from isIn_of (i := 0) L1]
        rfl
      refine ⟨a, d, L', Y', i, R, _, _, _, _, rfl, hH, GG, hn, by omega, tabsG, TyB.int _, TyB.int _, fun l r el er _ _ _ b1 c1 G2 nb1 nc1 y2 hH2 hT2 => ?_, fun z => (by
        have z : (isIn (V.int 0) 0 ((L' : Nat) - 1) && isIn (V.int (((i : Nat) : Int) % ((Y' : Nat) : Int))) 0 ((Y' : Nat) - 1)) = false := z
        rw [hin] at z
        cases z), fun _ z => absurd z (by omega)⟩
      have el : l = 0 := by have := V.int.inj el; omega
      refine ⟨_, _, rfl, y.trans y2, hH2, come_good GG fun z => ?_, come_left A0 el, come_nums hns⟩
      rw [hns] at z
      have := List.mem_range.mp z
      omega
    · rintro σ G ⟨v6, R, rfl, y, hH, GG, A0, hns⟩
      have lR : R.length = m := by
        have := congrArg List.length hns
        rw [List.length_map, List.length_range] at this
        exact this
      have hn : ∀ p ∈ R, p.n < m := fun p hp => by
        have : p.n ∈ R.map (·.n) := List.mem_map.mpr ⟨p, hp, rfl⟩
        rw [hns] at this
        exact List.mem_range.mp this
      have xd := down y
      refine ⟨_, rfl, rfl, _, rfl, ?_⟩
      refine (Decidable.em (V.int ((m : Nat) : Int) = V.int 2)).elim (fun c2 => ?t1) (fun c2 => ?t2)
      case' t2 =>
        rw [decide_eq_false c2]
        refine iteF (iteF ?_)
        obtain ⟨G7, eG7⟩ : ∃ G7, G7 = G := ⟨_, rfl⟩
        obtain ⟨R7, eR7⟩ : ∃ R7, R7 = R := ⟨_, rfl⟩
        obtain ⟨gs, egs⟩ : ∃ gs : List Nat, gs = [] := ⟨_, rfl⟩
        obtain ⟨gl7, egl⟩ : ∃ gl7, gl7 = gl := ⟨_, rfl⟩
        have x7 : Ext W H G7 := by rw [eG7]; exact xd
        have hz7 : SqT K G7 z [.int (L' : Nat), .int (Y' : Nat)] := by rw [eG7]; exact y.tup hz5
        have hH7 : HallOf K T.C_Hall G7 a d L' Y' m R7 := by rw [eG7, eR7]; exact hH
        have hgl7 : G7 gl7 = some (.lst (vN gs)) := by rw [eG7, egl, egs]; exact y.lst hgl gla
        have lg : gs.length ≤ 10 := by rw [egs]; decide
        have hgs : ∀ g ∈ gs, ∀ p ∈ R7, p.n ≠ g := fun g hg => by rw [egs] at hg; cases hg
        have GG7 : Good R7 := by rw [eR7]; exact GG
        have A7 : ∀ p ∈ R7, p.l = 0 := by rw [eR7]; exact A0
        have hn7 : ∀ p ∈ R7, p.n < m := by rw [eR7]; exact hn
        have lR7 : R7.length + gs.length = m := by rw [eR7, egs]; exact lR
        rw [← eG7, ← egl]
      case' t1 =>
        rw [decide_eq_true c2]
        refine iteT ?_
        have m2 : m = 2 := by have := V.int.inj c2; omega
        refine ⟨_, rfl, a0, ns, 2, rfl, xd.seq hS, _, _, rfl, rfl, ⟨by decide, by decide⟩, _, _, rfl, rfl, (by show (0 : Int) < 2; decide), rfl, _, rfl, ?_⟩
        refine (Decidable.em (V.int (ns.getD 2 0 / 3 % 2) = V.int 1)).elim (fun c3 => ?t3) (fun c3 => ?t4)
      case' t4 =>
        rw [decide_eq_false (show ¬ V.int ((fun i j => i % j) ((fun i j => i / j) (ns.getD 2 0) 3) 2) = V.int 1 from c3)]
        refine iteF ?_
        obtain ⟨G7, eG7⟩ : ∃ G7, G7 = G := ⟨_, rfl⟩
        obtain ⟨R7, eR7⟩ : ∃ R7, R7 = R := ⟨_, rfl⟩
        obtain ⟨gs, egs⟩ : ∃ gs : List Nat, gs = [] := ⟨_, rfl⟩
        obtain ⟨gl7, egl⟩ : ∃ gl7, gl7 = gl := ⟨_, rfl⟩
        have x7 : Ext W H G7 := by rw [eG7]; exact xd
        have hz7 : SqT K G7 z [.int (L' : Nat), .int (Y' : Nat)] := by rw [eG7]; exact y.tup hz5
        have hH7 : HallOf K T.C_Hall G7 a d L' Y' m R7 := by rw [eG7, eR7]; exact hH
        have hgl7 : G7 gl7 = some (.lst (vN gs)) := by rw [eG7, egl, egs]; exact y.lst hgl gla
        have lg : gs.length ≤ 10 := by rw [egs]; decide
        have hgs : ∀ g ∈ gs, ∀ p ∈ R7, p.n ≠ g := fun g hg => by rw [egs] at hg; cases hg
        have GG7 : Good R7 := by rw [eR7]; exact GG
        have A7 : ∀ p ∈ R7, p.l = 0 := by rw [eR7]; exact A0
        have hn7 : ∀ p ∈ R7, p.n < m := by rw [eR7]; exact hn
        have lR7 : R7.length + gs.length = m := by rw [eR7, egs]; exact lR
        rw [← eG7, ← egl]
      case' t3 =>
        rw [decide_eq_true (show V.int ((fun i j => i % j) ((fun i j => i / j) (ns.getD 2 0) 3) 2) = V.int 1 from c3)]
        refine iteT ?_
        obtain ⟨dx1, e1, kv1, ha1, _⟩ := hH.ex
        have hm0 : 0 ∈ R.map (·.n) := by
          rw [hns]
          exact List.mem_range.mpr (by omega)
        refine ⟨_, rfl, a, dx1, _, rfl, ha1, hf_no _ _ _ (by decide +kernel) (by decide +kernel) (by decide +kernel), a, d, L', Y', m, R, _, _, rfl, hH, GG, by omega, fun p hp => xd.l p hp (tabs p hp), TyB.int _, fun p hp ev bb acs G6 nb nacs y6 hH6 hb6 hT6 => ?go, fun hno => ?no⟩
        case no =>
          exfalso
          obtain ⟨p, hp, ep⟩ := List.mem_map.mp hm0
          have ep : p.n = 0 := ep
          exact hno p hp (by rw [ep]; rfl)
        have ep : p.n = 0 := by have := V.int.inj ev; omega
        rw [ep] at hH6
        have pm := (go_ok GG hm0).2
        have y06 := y.trans y6
        obtain ⟨p0, hp0, ep0⟩ := List.mem_map.mp hm0
        have ep0 : p0.n = 0 := ep0
        have fromD : ∀ q ∈ (go R 0).2, ∃ u ∈ R, u.n ≠ 0 ∧ u.n = q.n ∧ u.l = q.l := fun q hq => by
          obtain ⟨u, hu, eu⟩ := List.mem_map.mp (pm.mem_iff.mp (List.mem_map.mpr ⟨q, hq, rfl⟩))
          obtain ⟨h1, h2⟩ := mem_drop.mp hu
          exact ⟨u, h1, h2, congrArg Prod.fst eu, congrArg (fun t => t.2.1) eu⟩
        have len1 : (go R 0).2.length + 1 = R.length := by
          have h1 := pm.length_eq
          rw [List.length_map, List.length_map] at h1
          have h2 := (drop_perm GG.N hp0).length_eq
          rw [List.length_append, List.length_singleton, ep0] at h2
          omega
        refine ⟨by show 1 ≤ sizeLine; decide, fun gl7 ngl7 => ?_⟩
        refine newO W (H := G6) (p := gl7) ngl7 fun G7 y7 hgl70 => ?_
        have x7 : Ext W H G7 := (down y06).trans y7
        have hz7 : SqT K G7 z [.int (L' : Nat), .int (Y' : Nat)] := y7.tup (y06.tup hz5)
        obtain ⟨R7, eR7⟩ : ∃ R7, R7 = (go R 0).2 := ⟨_, rfl⟩
        have hH7 : HallOf K T.C_Hall G7 a d L' Y' m R7 := by rw [eR7]; exact hH6.ext y7
        obtain ⟨gs, egs⟩ : ∃ gs : List Nat, gs = [0] := ⟨_, rfl⟩
        have hgl7 : G7 gl7 = some (.lst (vN gs)) := by rw [egs]; exact hgl70
        have lg : gs.length ≤ 10 := by rw [egs]; decide
        have hgs : ∀ g ∈ gs, ∀ p ∈ R7, p.n ≠ g := fun g hg q hq e => by
          rw [egs] at hg
          rw [eR7] at hq
          obtain ⟨u, _, h2, h3, _⟩ := fromD q hq
          rw [List.mem_singleton.mp hg] at e
          omega
        have GG7 : Good R7 := by rw [eR7]; exact (go_ok GG hm0).1
        have A7 : ∀ p ∈ R7, p.l = 0 := fun q hq => by
          rw [eR7] at hq
          obtain ⟨u, h1, _, _, h4⟩ := fromD q hq
          rw [← h4]
          exact A0 u h1
        have hn7 : ∀ p ∈ R7, p.n < m := fun q hq => by
          rw [eR7] at hq
          obtain ⟨u, h1, _, h3, _⟩ := fromD q hq
          have := hn u h1
          omega
        have lR7 : R7.length + gs.length = m := by
          rw [eR7, egs]
          show (go R 0).2.length + 1 = m
          omega
      all_goals
        have c7 : cnt R7 = R7.length := one_end (s := 0) (e := 0) (by decide) A7
        have tabs7 : ∀ {G : Hp}, Ext W G7 G → ∀ p ∈ W.l, LamX.TabS G p.1 p.2 := fun x p hp => x.l p hp (x7.l p hp (tabs p hp))
        refine ⟨_, rfl, a0, ns, 3, rfl, x7.seq hS, _, _, rfl, by decide, by decide, ?_⟩
        refine ⟨_, rfl, _, rfl, _, rfl, a, d, z, L', Y', m, R7, _, rfl, hH7, hz7, GG7, hn7, by omega, L1, L8, Y1, Y8, tabs7 .refl, fun G8 y8 => ⟨_, rfl, iteF ?_⟩⟩
        have x8 := x7.trans y8
        have lgs : (vN gs).length = gs.length := List.length_map _
        have ec : ((m : Nat) : Int) - (((vN gs).length : Nat) : Int) = ((cnt R7 : Nat) : Int) := by omega
        refine ⟨_, rfl, _, rfl, _, rfl, _, rfl, _, rfl, gl7, _, rfl, .inl (SqL.of (y8.lst hgl7)), _, _, rfl, rfl, _, rfl, a0, ns, 4, rfl, x8.seq hS, _, _, rfl, by decide, by decide, ?_⟩
        refine ⟨a, d, gl7, L', Y', m, R7, gs, _, (by
          show [V.ref a, V.int ((m : Nat) : Int), V.ref gl7, V.int (((m : Nat) : Int) - (((vN gs).length : Nat) : Int)), V.int _] = _
          rw [ec]), hH7.ext y8, y8.lst hgl7, lg, hgs, GG7, hn7, by omega, L1, L8, Y1, Y8, tabs7 y8, fun G9 y9 => ⟨_, rfl, iteF ?_⟩⟩
        have y79 := y8.trans y9
        have hH9 := hH7.ext y79
        obtain ⟨dx9, e9, kv9, ha9, _⟩ := hH9.ex
        have hin : (isIn (V.int (((L' : Nat) : Int) - 1)) 0 ((L' : Nat) - 1) && isIn (V.int 0) 0 ((Y' : Nat) - 1)) = true := by
          rw [show (((L' : Nat) : Int) - 1) = ((L' - 1 : Nat) : Int) by omega, show isIn (V.int 0) 0 ((Y' : Nat) - 1) = true from isIn_of (i := 0) Y1, Bool.and_true]
          show (decide ((0 : Int) ≤ ((L' - 1 : Nat) : Int)) && decide (((L' - 1 : Nat) : Int) ≤ ((L' - 1 : Nat) : Int))) = true
          rw [decide_eq_true (by omega), decide_eq_true (by omega)]
          rfl
        refine ⟨_, rfl, a, dx9, _, rfl, ha9, hf_no _ _ _ (by decide +kernel) (by decide +kernel) (by decide +kernel), _, rfl, z, _, _, _, rfl, rfl, y79.tup hz7, atI_nat (j := 0) rfl, _, _, rfl, rfl, a, d, L', Y', m, R7, _, _, _, _, rfl, hH9, GG7, hn7, by omega, tabs7 y79, TyB.int _, TyB.int _, fun l r el er _ _ _ b1 c1 Ga nb1 nc1 ya hHa hTa => ?_, fun z => (by
          have z : (isIn (V.int (((L' : Nat) : Int) - 1)) 0 ((L' : Nat) - 1) && isIn (V.int 0) 0 ((Y' : Nat) - 1)) = false := z
          rw [hin] at z
          cases z), fun _ z => absurd z (by omega)⟩
        refine ⟨b1, _, _, _, rfl, rfl, SqT.of hTa.1, atI_nat (j := 0) rfl, _, rfl, rfl, _, rfl, ?_⟩
        rw [decide_eq_true (show V.int (((come R7 m l r).1.n : Nat) : Int) = V.int ((m : Nat) : Int) by rw [come_n])]
        refine iteF ?_
        have xa : Ext W H Ga := ((x7.trans y79).up.trans ya).down fun b hb => by
          rcases List.mem_cons.mp hb with z | z
          · rw [z]; exact na0
          · rw [List.mem_singleton.mp z]; exact nd0
        refine ⟨_, rfl, a0, ns, 5, rfl, xa.seq hS, _, _, rfl, rfl, (by show (0 : Int) < 4; decide), rfl, _, rfl, ?_⟩
        by_cases c5 : V.int (ns.getD 5 0 % 4) = V.int 1
        · rw [decide_eq_true (show V.int ((fun i j => i % j) (ns.getD 5 0) 4) = V.int 1 from c5)]
          refine iteF ?_
          exact ⟨_, rfl, a0, ns, 5, rfl, xa.seq hS, _, _, rfl, by decide, by decide, _, rfl, fun p hp => xa.l p hp (tabs p hp), q⟩
        · rw [decide_eq_false (show ¬ V.int ((fun i j => i % j) (ns.getD 5 0) 4) = V.int 1 from c5)]
          exact iteT (q _)
end
end My

set_option Elab.async false
set_option linter.all false
set_option maxRecDepth 100000
set_option maxHeartbeats 4000000
namespace My
open PySem PySem.Spec PyProof.Rows L2 Own

/-- the end of a law whose text makes a lambda in the def place: its table stands in ts -/
theorem walk_tab {l : PySem.W.OpenLaw} {n k : Nat} {q : Program} {loose : List Str} {XP : (Str → Option Value) → Heap → Prop} {YP : World → Heap → Prop}
    {d : DefRec} {K : Params → PySem.W.Frag} {x : Str} {sp : World → Addr → Sp} {ts : List Addr}
    (hn : l.most = some n) (hn2 : n ≤ sizeLine) (hdf : d.params.defaults = []) (hr : Room k callerA)
    (hY : ∀ (w : World) (h : Heap), YP w h → (K w.params).In h) (hZ : ∀ (w : World) (h : Heap), YP w h → ∀ p ∈ ts, h.get? p = some { cls := .none, data := .fields #[] })
    (F : ∀ (w : World) (mg : Str → Option Value) (fa : Addr) (h : Heap), (K w.params).In h → h.Ns mainGlobals mg → mg d.name = some (.ref fa) →
      ∃ (c PT : Addr) (fd : FuncData), PySem.W.codeHdIn (K w.params) c PT = true ∧ PT ∈ ts ∧ (K w.params).lookup PT = none ∧
        (∀ (s : Shared) (v : Value), BindsTo s fd ⟨[v], []⟩ [(x, v)]) ∧
        ∀ base : Heap, (K w.params).In base → base.Ns mainGlobals mg → LamX.TabB base mg c PT → FnOk l.prog w (K w.params) mg base CX0 k fa fd [x] (sp w PT))
    (hsp : ∀ (w : World) (PT : Addr) (H : Hp) (a : Addr) (ns : List Int), ns.length ≤ n → (∀ z ∈ ns, Builtin.Int.intBits z ≤ 1048576) → H PT = some (.tbl #[]) →
      SqL (K w.params) H a (ns.map V.int) → sp w PT [.ref a] H (fun v _ => v = .bl true) fun _ _ _ => False) :
    PySem.W.WalkO q loose XP YP l.row.toRowW d [] (fun f vs => PySem.call f vs) := by
  refine Att.attach_callB hn hdf ?_
  intro w s₀ s₁ mg mb fa o pm cd doc a vs ns G Y ho hd hcd hmg hobj hints hlen hbits hg
  have KX := hY w _ Y
  obtain ⟨c, PT, fd, hc, hin, hno, hb, hF⟩ := F w mg fa _ KX G.T.g hmg
  refine LamX.law_callTs (cs := [(c, PT)]) (sp := sp w PT) (CX := CX0) KX G.T.g G.T.b G.T.builtins G.T.nolimit hg ?_ ?_ ?_ G.T.bmain hobj hints (Nat.le_trans hlen hn2) hr ?_ hb ?_ ?_
  · intro p hp
    rw [List.mem_singleton.mp hp]
    exact hZ w _ Y _ hin
  · intro p hp
    rw [List.mem_singleton.mp hp]
    exact hno
  · intro p hp
    rw [List.mem_singleton.mp hp]
    exact PySem.W.codeHd_of_K KX hc
  · intro base h1 h2 h3
    have t := h3 (c, PT) List.mem_cons_self
    exact hF base h1 h2 ⟨t.code, t.bm, t.gP⟩
  · intro H hH hS
    exact hsp w PT H a ns hlen hbits (hH (c, PT) List.mem_cons_self) hS
  · intro H e s' z
    exact z
/-- what the law's text has written: all that is asked of it -/
theorem txt_mk {K : PySem.W.Frag} {h : Heap} {mg : Str → Option Value} {C_Hall E_PairError E_BadCount E_BadSide E_BadEnd E_TooMany E_NoPair E_BadHue E_NotFree E_BadLine f0 f1 f2 f3 f4 f5 f6 f7 f8 f9 f10 f11 f12 f13 f14 f15 f16 f17 f18 f19 f20 f21 f22 f23 f24 f25 f26 f27 f28 f29 f30 f31 f32 f33 f34 f35 f36 f37 f38 f39 f40 f41 f42 f43 f44 f45 f46 f47 : Addr} {c PT : Addr} (X : K.In h) (G : h.Ns mainGlobals mg)
    {od0 an0 od1 an1 od2 an2 od3 an3 od4 an4 od5 an5 od6 an6 od7 an7 od8 an8 od9 an9 od10 an10 od11 an11 od12 an12 od13 an13 od14 an14 od15 an15 od16 an16 od17 an17 od18 an18 od19 an19 od20 an20 od21 an21 od22 an22 od23 an23 od24 an24 od25 an25 od26 an26 od27 an27 od28 an28 od29 an29 od30 an30 od31 an31 od32 an32 od33 an33 od34 an34 od35 an35 od36 an36 od37 an37 od38 an38 od39 an39 od40 an40 od41 an41 od42 an42 od43 an43 od44 an44 od45 an45 od46 an46 od47 an47 : Option Addr} {sl0 sl1 sl2 sl3 sl4 sl5 sl6 sl7 sl8 sl9 sl10 sl11 sl12 sl13 sl14 sl15 sl16 sl17 sl18 sl19 sl20 sl21 sl22 sl23 sl24 sl25 sl26 sl27 sl28 sl29 sl30 sl31 sl32 sl33 sl34 sl35 sl36 sl37 sl38 sl39 sl40 sl41 sl42 sl43 sl44 sl45 sl46 sl47 : Array (Option Value)}
    {oc0 kV0 dc0 pm0 ct0 cd0 oc1 kV1 dc1 pm1 ct1 cd1 oc2 kV2 dc2 pm2 ct2 cd2 oc3 kV3 dc3 pm3 ct3 cd3 oc4 kV4 dc4 pm4 ct4 cd4 oc5 kV5 dc5 pm5 ct5 oc6 kV6 dc6 pm6 ct6 cd6 oc7 kV7 dc7 pm7 ct7 cd7 oc8 kV8 dc8 pm8 ct8 cd8 oc9 kV9 dc9 pm9 ct9 cd9 oc10 kV10 dc10 pm10 ct10 cd10 oc11 kV11 dc11 pm11 ct11 cd11 oc12 kV12 dc12 pm12 ct12 cd12 oc13 kV13 dc13 pm13 ct13 cd13 oc14 kV14 dc14 pm14 ct14 cd14 oc15 kV15 dc15 pm15 ct15 cd15 oc16 kV16 dc16 pm16 ct16 cd16 oc17 kV17 dc17 pm17 ct17 cd17 oc18 kV18 dc18 pm18 ct18 cd18 oc19 kV19 dc19 pm19 ct19 cd19 oc20 kV20 dc20 pm20 ct20 cd20 oc21 kV21 dc21 pm21 ct21 cd21 oc22 kV22 dc22 pm22 ct22 cd22 oc23 kV23 dc23 pm23 ct23 cd23 oc24 kV24 dc24 pm24 ct24 cd24 oc25 kV25 dc25 pm25 ct25 cd25 oc26 kV26 dc26 pm26 ct26 cd26 oc27 kV27 dc27 pm27 ct27 cd27 oc28 kV28 dc28 pm28 ct28 cd28 oc29 kV29 dc29 pm29 ct29 cd29 oc30 kV30 dc30 pm30 ct30 cd30 oc31 kV31 dc31 pm31 ct31 cd31 oc32 kV32 dc32 pm32 ct32 cd32 oc33 kV33 dc33 pm33 ct33 cd33 oc34 kV34 dc34 pm34 ct34 cd34 oc35 kV35 dc35 pm35 ct35 cd35 oc36 kV36 dc36 pm36 ct36 cd36 oc37 kV37 dc37 pm37 ct37 cd37 oc38 kV38 dc38 pm38 ct38 cd38 oc39 kV39 dc39 pm39 ct39 cd39 oc40 kV40 dc40 pm40 ct40 cd40 oc41 kV41 dc41 pm41 ct41 cd41 oc42 kV42 dc42 pm42 ct42 cd42 oc43 kV43 dc43 pm43 ct43 cd43 oc44 kV44 dc44 pm44 ct44 cd44 oc45 kV45 dc45 pm45 ct45 cd45 oc46 kV46 dc46 pm46 ct46 cd46 oc47 kV47 dc47 pm47 ct47 cd47 : Value} {t_c_HUE t_c_LEFT t_c_MOST_ENDS t_c_MOST_PAIRS t_c_RIGHT t_c_COME t_c_GO t_c_MOST_FIGURES : Tok}
    (a0 : PySem.W.nsIn K mainGlobals "count_of" = some (some (.ref f0)))
    (l0 : K.lookup f0 = some ⟨oc0, od0, .func (PySem.W.fnOf "count_of" "count_of" (defArgs s_count_of) (defBody s_count_of) (defScope s_count_of) .none kV0 dc0 pm0 an0 cd0 ct0), sl0⟩) (c0 : PySem.W.codeIn K cd0 "count_of" = true) (k0 : PySem.W.keepIn K (.ref f0) = true)
    (a1 : PySem.W.nsIn K mainGlobals "_most_at" = some (some (.ref f1)))
    (l1 : K.lookup f1 = some ⟨oc1, od1, .func (PySem.W.fnOf "_most_at" "_most_at" (defArgs s_most_at) (defBody s_most_at) (defScope s_most_at) .none kV1 dc1 pm1 an1 cd1 ct1), sl1⟩) (c1 : PySem.W.codeIn K cd1 "_most_at" = true) (k1 : PySem.W.keepIn K (.ref f1) = true)
    (a2 : PySem.W.nsIn K mainGlobals "table_of" = some (some (.ref f2)))
    (l2 : K.lookup f2 = some ⟨oc2, od2, .func (PySem.W.fnOf "table_of" "table_of" (defArgs s_table_of) (defBody s_table_of) (defScope s_table_of) .none kV2 dc2 pm2 an2 cd2 ct2), sl2⟩) (c2 : PySem.W.codeIn K cd2 "table_of" = true) (k2 : PySem.W.keepIn K (.ref f2) = true)
    (a3 : PySem.W.nsIn K mainGlobals "free_at" = some (some (.ref f3)))
    (l3 : K.lookup f3 = some ⟨oc3, od3, .func (PySem.W.fnOf "free_at" "free_at" (defArgs s_free_at) (defBody s_free_at) (defScope s_free_at) .none kV3 dc3 pm3 an3 cd3 ct3), sl3⟩) (c3 : PySem.W.codeIn K cd3 "free_at" = true) (k3 : PySem.W.keepIn K (.ref f3) = true)
    (a4 : PySem.W.nsIn K mainGlobals "chain_at" = some (some (.ref f4)))
    (l4 : K.lookup f4 = some ⟨oc4, od4, .func (PySem.W.fnOf "chain_at" "chain_at" (defArgs s_chain_at) (defBody s_chain_at) (defScope s_chain_at) .none kV4 dc4 pm4 an4 cd4 ct4), sl4⟩) (c4 : PySem.W.codeIn K cd4 "chain_at" = true) (k4 : PySem.W.keepIn K (.ref f4) = true)
    (a5 : PySem.W.nsIn K mainGlobals "place" = some (some (.ref f5)))
    (l5 : K.lookup f5 = some ⟨oc5, od5, .func (PySem.W.fnOf "place" "place" (defArgs s_place) (defBody s_place) (defScope s_place) .none kV5 dc5 pm5 an5 (.ref c) ct5), sl5⟩) (c5 : PySem.W.codeIn K (.ref c) "place" = true) (k5 : PySem.W.keepIn K (.ref f5) = true)
    (a6 : PySem.W.nsIn K mainGlobals "_far_side" = some (some (.ref f6)))
    (l6 : K.lookup f6 = some ⟨oc6, od6, .func (PySem.W.fnOf "_far_side" "_far_side" (defArgs s_far_side) (defBody s_far_side) (defScope s_far_side) .none kV6 dc6 pm6 an6 cd6 ct6), sl6⟩) (c6 : PySem.W.codeIn K cd6 "_far_side" = true) (k6 : PySem.W.keepIn K (.ref f6) = true)
    (a7 : PySem.W.nsIn K mainGlobals "_ways" = some (some (.ref f7)))
    (l7 : K.lookup f7 = some ⟨oc7, od7, .func (PySem.W.fnOf "_ways" "_ways" (defArgs s_ways) (defBody s_ways) (defScope s_ways) .none kV7 dc7 pm7 an7 cd7 ct7), sl7⟩) (c7 : PySem.W.codeIn K cd7 "_ways" = true) (k7 : PySem.W.keepIn K (.ref f7) = true)
    (a8 : PySem.W.nsIn K mainGlobals "_turn" = some (some (.ref f8)))
    (l8 : K.lookup f8 = some ⟨oc8, od8, .func (PySem.W.fnOf "_turn" "_turn" (defArgs s_turn) (defBody s_turn) (defScope s_turn) .none kV8 dc8 pm8 an8 cd8 ct8), sl8⟩) (c8 : PySem.W.codeIn K cd8 "_turn" = true) (k8 : PySem.W.keepIn K (.ref f8) = true)
    (a9 : PySem.W.findIn K (.ref C_Hall) "__init__" = some (some (.ref f9))) (i9 : PySem.W.isFn K (.ref f9) = true)
    (l9 : K.lookup f9 = some ⟨oc9, od9, .func (PySem.W.fnOf "__init__" "Hall.__init__" (defArgs s_Hall_init) (defBody s_Hall_init) (defScope s_Hall_init) .none kV9 dc9 pm9 an9 cd9 ct9), sl9⟩) (c9 : PySem.W.codeIn K cd9 "Hall.__init__" = true) (k9 : PySem.W.keepIn K (.ref f9) = true)
    (a10 : PySem.W.findIn K (.ref C_Hall) "come" = some (some (.ref f10))) (i10 : PySem.W.isFn K (.ref f10) = true)
    (l10 : K.lookup f10 = some ⟨oc10, od10, .func (PySem.W.fnOf "come" "Hall.come" (defArgs s_Hall_come) (defBody s_Hall_come) (defScope s_Hall_come) .none kV10 dc10 pm10 an10 cd10 ct10), sl10⟩) (c10 : PySem.W.codeIn K cd10 "Hall.come" = true) (k10 : PySem.W.keepIn K (.ref f10) = true)
    (a11 : PySem.W.findIn K (.ref C_Hall) "go" = some (some (.ref f11))) (i11 : PySem.W.isFn K (.ref f11) = true)
    (l11 : K.lookup f11 = some ⟨oc11, od11, .func (PySem.W.fnOf "go" "Hall.go" (defArgs s_Hall_go) (defBody s_Hall_go) (defScope s_Hall_go) .none kV11 dc11 pm11 an11 cd11 ct11), sl11⟩) (c11 : PySem.W.codeIn K cd11 "Hall.go" = true) (k11 : PySem.W.keepIn K (.ref f11) = true)
    (a12 : PySem.W.findIn K (.ref C_Hall) "count" = some (some (.ref f12))) (i12 : PySem.W.isFn K (.ref f12) = true)
    (l12 : K.lookup f12 = some ⟨oc12, od12, .func (PySem.W.fnOf "count" "Hall.count" (defArgs s_Hall_count) (defBody s_Hall_count) (defScope s_Hall_count) .none kV12 dc12 pm12 an12 cd12 ct12), sl12⟩) (c12 : PySem.W.codeIn K cd12 "Hall.count" = true) (k12 : PySem.W.keepIn K (.ref f12) = true)
    (a13 : PySem.W.findIn K (.ref C_Hall) "pairs" = some (some (.ref f13))) (i13 : PySem.W.isFn K (.ref f13) = true)
    (l13 : K.lookup f13 = some ⟨oc13, od13, .func (PySem.W.fnOf "pairs" "Hall.pairs" (defArgs s_Hall_pairs) (defBody s_Hall_pairs) (defScope s_Hall_pairs) .none kV13 dc13 pm13 an13 cd13 ct13), sl13⟩) (c13 : PySem.W.codeIn K cd13 "Hall.pairs" = true) (k13 : PySem.W.keepIn K (.ref f13) = true)
    (a14 : PySem.W.findIn K (.ref C_Hall) "hue_of" = some (some (.ref f14))) (i14 : PySem.W.isFn K (.ref f14) = true)
    (l14 : K.lookup f14 = some ⟨oc14, od14, .func (PySem.W.fnOf "hue_of" "Hall.hue_of" (defArgs s_Hall_hue_of) (defBody s_Hall_hue_of) (defScope s_Hall_hue_of) .none kV14 dc14 pm14 an14 cd14 ct14), sl14⟩) (c14 : PySem.W.codeIn K cd14 "Hall.hue_of" = true) (k14 : PySem.W.keepIn K (.ref f14) = true)
    (a15 : PySem.W.findIn K (.ref C_Hall) "of_hue" = some (some (.ref f15))) (i15 : PySem.W.isFn K (.ref f15) = true)
    (l15 : K.lookup f15 = some ⟨oc15, od15, .func (PySem.W.fnOf "of_hue" "Hall.of_hue" (defArgs s_Hall_of_hue) (defBody s_Hall_of_hue) (defScope s_Hall_of_hue) .none kV15 dc15 pm15 an15 cd15 ct15), sl15⟩) (c15 : PySem.W.codeIn K cd15 "Hall.of_hue" = true) (k15 : PySem.W.keepIn K (.ref f15) = true)
    (a16 : PySem.W.findIn K (.ref C_Hall) "free" = some (some (.ref f16))) (i16 : PySem.W.isFn K (.ref f16) = true)
    (l16 : K.lookup f16 = some ⟨oc16, od16, .func (PySem.W.fnOf "free" "Hall.free" (defArgs s_Hall_free) (defBody s_Hall_free) (defScope s_Hall_free) .none kV16 dc16 pm16 an16 cd16 ct16), sl16⟩) (c16 : PySem.W.codeIn K cd16 "Hall.free" = true) (k16 : PySem.W.keepIn K (.ref f16) = true)
    (a17 : PySem.W.findIn K (.ref C_Hall) "fullest" = some (some (.ref f17))) (i17 : PySem.W.isFn K (.ref f17) = true)
    (l17 : K.lookup f17 = some ⟨oc17, od17, .func (PySem.W.fnOf "fullest" "Hall.fullest" (defArgs s_Hall_fullest) (defBody s_Hall_fullest) (defScope s_Hall_fullest) .none kV17 dc17 pm17 an17 cd17 ct17), sl17⟩) (c17 : PySem.W.codeIn K cd17 "Hall.fullest" = true) (k17 : PySem.W.keepIn K (.ref f17) = true)
    (a18 : PySem.W.findIn K (.ref C_Hall) "chain" = some (some (.ref f18))) (i18 : PySem.W.isFn K (.ref f18) = true)
    (l18 : K.lookup f18 = some ⟨oc18, od18, .func (PySem.W.fnOf "chain" "Hall.chain" (defArgs s_Hall_chain) (defBody s_Hall_chain) (defScope s_Hall_chain) .none kV18 dc18 pm18 an18 cd18 ct18), sl18⟩) (c18 : PySem.W.codeIn K cd18 "Hall.chain" = true) (k18 : PySem.W.keepIn K (.ref f18) = true)
    (a19 : PySem.W.findIn K (.ref C_Hall) "_check_end" = some (some (.ref f19))) (i19 : PySem.W.isFn K (.ref f19) = true)
    (l19 : K.lookup f19 = some ⟨oc19, od19, .func (PySem.W.fnOf "_check_end" "Hall._check_end" (defArgs s_Hall_check_end) (defBody s_Hall_check_end) (defScope s_Hall_check_end) .none kV19 dc19 pm19 an19 cd19 ct19), sl19⟩) (c19 : PySem.W.codeIn K cd19 "Hall._check_end" = true) (k19 : PySem.W.keepIn K (.ref f19) = true)
    (a20 : PySem.W.findIn K (.ref C_Hall) "_check_number" = some (some (.ref f20))) (i20 : PySem.W.isFn K (.ref f20) = true)
    (l20 : K.lookup f20 = some ⟨oc20, od20, .func (PySem.W.fnOf "_check_number" "Hall._check_number" (defArgs s_Hall_check_number) (defBody s_Hall_check_number) (defScope s_Hall_check_number) .none kV20 dc20 pm20 an20 cd20 ct20), sl20⟩) (c20 : PySem.W.codeIn K cd20 "Hall._check_number" = true) (k20 : PySem.W.keepIn K (.ref f20) = true)
    (a21 : PySem.W.findIn K (.ref C_Hall) "_check_hue" = some (some (.ref f21))) (i21 : PySem.W.isFn K (.ref f21) = true)
    (l21 : K.lookup f21 = some ⟨oc21, od21, .func (PySem.W.fnOf "_check_hue" "Hall._check_hue" (defArgs s_Hall_check_hue) (defBody s_Hall_check_hue) (defScope s_Hall_check_hue) .none kV21 dc21 pm21 an21 cd21 ct21), sl21⟩) (c21 : PySem.W.codeIn K cd21 "Hall._check_hue" = true) (k21 : PySem.W.keepIn K (.ref f21) = true)
    (a22 : PySem.W.findIn K (.ref C_Hall) "_numbers_of" = some (some (.ref f22))) (i22 : PySem.W.isFn K (.ref f22) = true)
    (l22 : K.lookup f22 = some ⟨oc22, od22, .func (PySem.W.fnOf "_numbers_of" "Hall._numbers_of" (defArgs s_Hall_numbers_of) (defBody s_Hall_numbers_of) (defScope s_Hall_numbers_of) .none kV22 dc22 pm22 an22 cd22 ct22), sl22⟩) (c22 : PySem.W.codeIn K cd22 "Hall._numbers_of" = true) (k22 : PySem.W.keepIn K (.ref f22) = true)
    (a23 : PySem.W.findIn K (.ref C_Hall) "_place_anew" = some (some (.ref f23))) (i23 : PySem.W.isFn K (.ref f23) = true)
    (l23 : K.lookup f23 = some ⟨oc23, od23, .func (PySem.W.fnOf "_place_anew" "Hall._place_anew" (defArgs s_Hall_place_anew) (defBody s_Hall_place_anew) (defScope s_Hall_place_anew) .none kV23 dc23 pm23 an23 cd23 ct23), sl23⟩) (c23 : PySem.W.codeIn K cd23 "Hall._place_anew" = true) (k23 : PySem.W.keepIn K (.ref f23) = true)
    (a24 : PySem.W.findIn K (.ref C_Hall) "_as_full" = some (some (.ref f24))) (i24 : PySem.W.isFn K (.ref f24) = true)
    (l24 : K.lookup f24 = some ⟨oc24, od24, .func (PySem.W.fnOf "_as_full" "Hall._as_full" (defArgs s_Hall_as_full) (defBody s_Hall_as_full) (defScope s_Hall_as_full) .none kV24 dc24 pm24 an24 cd24 ct24), sl24⟩) (c24 : PySem.W.codeIn K cd24 "Hall._as_full" = true) (k24 : PySem.W.keepIn K (.ref f24) = true)
    (a25 : PySem.W.nsIn K mainGlobals "_is_whole" = some (some (.ref f25)))
    (l25 : K.lookup f25 = some ⟨oc25, od25, .func (PySem.W.fnOf "_is_whole" "_is_whole" (defArgs s_is_whole) (defBody s_is_whole) (defScope s_is_whole) .none kV25 dc25 pm25 an25 cd25 ct25), sl25⟩) (c25 : PySem.W.codeIn K cd25 "_is_whole" = true) (k25 : PySem.W.keepIn K (.ref f25) = true)
    (a26 : PySem.W.nsIn K mainGlobals "_is_within" = some (some (.ref f26)))
    (l26 : K.lookup f26 = some ⟨oc26, od26, .func (PySem.W.fnOf "_is_within" "_is_within" (defArgs s_is_within) (defBody s_is_within) (defScope s_is_within) .none kV26 dc26 pm26 an26 cd26 ct26), sl26⟩) (c26 : PySem.W.codeIn K cd26 "_is_within" = true) (k26 : PySem.W.keepIn K (.ref f26) = true)
    (a27 : PySem.W.nsIn K mainGlobals "_side_of" = some (some (.ref f27)))
    (l27 : K.lookup f27 = some ⟨oc27, od27, .func (PySem.W.fnOf "_side_of" "_side_of" (defArgs s_side_of) (defBody s_side_of) (defScope s_side_of) .none kV27 dc27 pm27 an27 cd27 ct27), sl27⟩) (c27 : PySem.W.codeIn K cd27 "_side_of" = true) (k27 : PySem.W.keepIn K (.ref f27) = true)
    (a28 : PySem.W.nsIn K mainGlobals "hued" = some (some (.ref f28)))
    (l28 : K.lookup f28 = some ⟨oc28, od28, .func (PySem.W.fnOf "hued" "hued" (defArgs s_hued) (defBody s_hued) (defScope s_hued) .none kV28 dc28 pm28 an28 cd28 ct28), sl28⟩) (c28 : PySem.W.codeIn K cd28 "hued" = true) (k28 : PySem.W.keepIn K (.ref f28) = true)
    (a29 : PySem.W.nsIn K mainGlobals "deed_of" = some (some (.ref f29)))
    (l29 : K.lookup f29 = some ⟨oc29, od29, .func (PySem.W.fnOf "deed_of" "deed_of" (defArgs s_deed_of) (defBody s_deed_of) (defScope s_deed_of) .none kV29 dc29 pm29 an29 cd29 ct29), sl29⟩) (c29 : PySem.W.codeIn K cd29 "deed_of" = true) (k29 : PySem.W.keepIn K (.ref f29) = true)
    (a30 : PySem.W.nsIn K mainGlobals "play" = some (some (.ref f30)))
    (l30 : K.lookup f30 = some ⟨oc30, od30, .func (PySem.W.fnOf "play" "play" (defArgs s_play) (defBody s_play) (defScope s_play) .none kV30 dc30 pm30 an30 cd30 ct30), sl30⟩) (c30 : PySem.W.codeIn K cd30 "play" = true) (k30 : PySem.W.keepIn K (.ref f30) = true)
    (a31 : PySem.W.nsIn K mainGlobals "_answer" = some (some (.ref f31)))
    (l31 : K.lookup f31 = some ⟨oc31, od31, .func (PySem.W.fnOf "_answer" "_answer" (defArgs s_answer) (defBody s_answer) (defScope s_answer) .none kV31 dc31 pm31 an31 cd31 ct31), sl31⟩) (c31 : PySem.W.codeIn K cd31 "_answer" = true) (k31 : PySem.W.keepIn K (.ref f31) = true)
    (a32 : PySem.W.nsIn K mainGlobals "_done" = some (some (.ref f32)))
    (l32 : K.lookup f32 = some ⟨oc32, od32, .func (PySem.W.fnOf "_done" "_done" (defArgs s_done) (defBody s_done) (defScope s_done) .none kV32 dc32 pm32 an32 cd32 ct32), sl32⟩) (c32 : PySem.W.codeIn K cd32 "_done" = true) (k32 : PySem.W.keepIn K (.ref f32) = true)
    (a33 : PySem.W.nsIn K mainGlobals "_text_of" = some (some (.ref f33)))
    (l33 : K.lookup f33 = some ⟨oc33, od33, .func (PySem.W.fnOf "_text_of" "_text_of" (defArgs s_text_of) (defBody s_text_of) (defScope s_text_of) .none kV33 dc33 pm33 an33 cd33 ct33), sl33⟩) (c33 : PySem.W.codeIn K cd33 "_text_of" = true) (k33 : PySem.W.keepIn K (.ref f33) = true)
    (a34 : PySem.W.nsIn K mainGlobals "_spaced" = some (some (.ref f34)))
    (l34 : K.lookup f34 = some ⟨oc34, od34, .func (PySem.W.fnOf "_spaced" "_spaced" (defArgs s_spaced) (defBody s_spaced) (defScope s_spaced) .none kV34 dc34 pm34 an34 cd34 ct34), sl34⟩) (c34 : PySem.W.codeIn K cd34 "_spaced" = true) (k34 : PySem.W.keepIn K (.ref f34) = true)
    (a35 : PySem.W.nsIn K mainGlobals "_many_behind" = some (some (.ref f35)))
    (l35 : K.lookup f35 = some ⟨oc35, od35, .func (PySem.W.fnOf "_many_behind" "_many_behind" (defArgs s_many_behind) (defBody s_many_behind) (defScope s_many_behind) .none kV35 dc35 pm35 an35 cd35 ct35), sl35⟩) (c35 : PySem.W.codeIn K cd35 "_many_behind" = true) (k35 : PySem.W.keepIn K (.ref f35) = true)
    (a36 : PySem.W.nsIn K mainGlobals "_is_number" = some (some (.ref f36)))
    (l36 : K.lookup f36 = some ⟨oc36, od36, .func (PySem.W.fnOf "_is_number" "_is_number" (defArgs s_is_number) (defBody s_is_number) (defScope s_is_number) .none kV36 dc36 pm36 an36 cd36 ct36), sl36⟩) (c36 : PySem.W.codeIn K cd36 "_is_number" = true) (k36 : PySem.W.keepIn K (.ref f36) = true)
    (a37 : PySem.W.nsIn K mainGlobals "_law_cell_at" = some (some (.ref f37)))
    (l37 : K.lookup f37 = some ⟨oc37, od37, .func (PySem.W.fnOf "_law_cell_at" "_law_cell_at" (defArgs s_l_cell_at) (defBody s_l_cell_at) (defScope s_l_cell_at) .none kV37 dc37 pm37 an37 cd37 ct37), sl37⟩) (c37 : PySem.W.codeIn K cd37 "_law_cell_at" = true) (k37 : PySem.W.keepIn K (.ref f37) = true)
    (a38 : PySem.W.nsIn K mainGlobals "_law_mixed" = some (some (.ref f38)))
    (l38 : K.lookup f38 = some ⟨oc38, od38, .func (PySem.W.fnOf "_law_mixed" "_law_mixed" (defArgs s_l_mixed) (defBody s_l_mixed) (defScope s_l_mixed) .none kV38 dc38 pm38 an38 cd38 ct38), sl38⟩) (c38 : PySem.W.codeIn K cd38 "_law_mixed" = true) (k38 : PySem.W.keepIn K (.ref f38) = true)
    (a39 : PySem.W.nsIn K mainGlobals "_law_kind" = some (some (.ref f39)))
    (l39 : K.lookup f39 = some ⟨oc39, od39, .func (PySem.W.fnOf "_law_kind" "_law_kind" (defArgs s_l_kind) (defBody s_l_kind) (defScope s_l_kind) .none kV39 dc39 pm39 an39 cd39 ct39), sl39⟩) (c39 : PySem.W.codeIn K cd39 "_law_kind" = true) (k39 : PySem.W.keepIn K (.ref f39) = true)
    (a40 : PySem.W.nsIn K mainGlobals "_law_made" = some (some (.ref f40)))
    (l40 : K.lookup f40 = some ⟨oc40, od40, .func (PySem.W.fnOf "_law_made" "_law_made" (defArgs s_l_made) (defBody s_l_made) (defScope s_l_made) .none kV40 dc40 pm40 an40 cd40 ct40), sl40⟩) (c40 : PySem.W.codeIn K cd40 "_law_made" = true) (k40 : PySem.W.keepIn K (.ref f40) = true)
    (a41 : PySem.W.nsIn K mainGlobals "_law_asked" = some (some (.ref f41)))
    (l41 : K.lookup f41 = some ⟨oc41, od41, .func (PySem.W.fnOf "_law_asked" "_law_asked" (defArgs s_l_asked) (defBody s_l_asked) (defScope s_l_asked) .none kV41 dc41 pm41 an41 cd41 ct41), sl41⟩) (c41 : PySem.W.codeIn K cd41 "_law_asked" = true) (k41 : PySem.W.keepIn K (.ref f41) = true)
    (a42 : PySem.W.nsIn K mainGlobals "_law_state" = some (some (.ref f42)))
    (l42 : K.lookup f42 = some ⟨oc42, od42, .func (PySem.W.fnOf "_law_state" "_law_state" (defArgs s_l_state) (defBody s_l_state) (defScope s_l_state) .none kV42 dc42 pm42 an42 cd42 ct42), sl42⟩) (c42 : PySem.W.codeIn K cd42 "_law_state" = true) (k42 : PySem.W.keepIn K (.ref f42) = true)
    (a43 : PySem.W.nsIn K mainGlobals "_law_counts_refused" = some (some (.ref f43)))
    (l43 : K.lookup f43 = some ⟨oc43, od43, .func (PySem.W.fnOf "_law_counts_refused" "_law_counts_refused" (defArgs s_l_counts_refused) (defBody s_l_counts_refused) (defScope s_l_counts_refused) .none kV43 dc43 pm43 an43 cd43 ct43), sl43⟩) (c43 : PySem.W.codeIn K cd43 "_law_counts_refused" = true) (k43 : PySem.W.keepIn K (.ref f43) = true)
    (a44 : PySem.W.nsIn K mainGlobals "_law_ends_refused" = some (some (.ref f44)))
    (l44 : K.lookup f44 = some ⟨oc44, od44, .func (PySem.W.fnOf "_law_ends_refused" "_law_ends_refused" (defArgs s_l_ends_refused) (defBody s_l_ends_refused) (defScope s_l_ends_refused) .none kV44 dc44 pm44 an44 cd44 ct44), sl44⟩) (c44 : PySem.W.codeIn K cd44 "_law_ends_refused" = true) (k44 : PySem.W.keepIn K (.ref f44) = true)
    (a45 : PySem.W.nsIn K mainGlobals "_law_numbers_refused" = some (some (.ref f45)))
    (l45 : K.lookup f45 = some ⟨oc45, od45, .func (PySem.W.fnOf "_law_numbers_refused" "_law_numbers_refused" (defArgs s_l_numbers_refused) (defBody s_l_numbers_refused) (defScope s_l_numbers_refused) .none kV45 dc45 pm45 an45 cd45 ct45), sl45⟩) (c45 : PySem.W.codeIn K cd45 "_law_numbers_refused" = true) (k45 : PySem.W.keepIn K (.ref f45) = true)
    (a46 : PySem.W.nsIn K mainGlobals "_law_full" = some (some (.ref f46)))
    (l46 : K.lookup f46 = some ⟨oc46, od46, .func (PySem.W.fnOf "_law_full" "_law_full" (defArgs s_l_full) (defBody s_l_full) (defScope s_l_full) .none kV46 dc46 pm46 an46 cd46 ct46), sl46⟩) (c46 : PySem.W.codeIn K cd46 "_law_full" = true) (k46 : PySem.W.keepIn K (.ref f46) = true)
    (a47 : PySem.W.nsIn K mainGlobals "law" = some (some (.ref f47)))
    (l47 : K.lookup f47 = some ⟨oc47, od47, .func (PySem.W.fnOf "law" "law" (defArgs s_law) (defBody s_law) (defScope s_law) .none kV47 dc47 pm47 an47 cd47 ct47), sl47⟩) (c47 : PySem.W.codeIn K cd47 "law" = true) (k47 : PySem.W.keepIn K (.ref f47) = true)
    (z_ValueError : PySem.W.nsIn K mainGlobals "ValueError" = some none)
    (z_all : PySem.W.nsIn K mainGlobals "all" = some none)
    (z_int : PySem.W.nsIn K mainGlobals "int" = some none)
    (z_isinstance : PySem.W.nsIn K mainGlobals "isinstance" = some none)
    (z_len : PySem.W.nsIn K mainGlobals "len" = some none)
    (z_list : PySem.W.nsIn K mainGlobals "list" = some none)
    (z_max : PySem.W.nsIn K mainGlobals "max" = some none)
    (z_min : PySem.W.nsIn K mainGlobals "min" = some none)
    (z_range : PySem.W.nsIn K mainGlobals "range" = some none)
    (z_sorted : PySem.W.nsIn K mainGlobals "sorted" = some none)
    (z_str : PySem.W.nsIn K mainGlobals "str" = some none)
    (z_tuple : PySem.W.nsIn K mainGlobals "tuple" = some none)
    (z_type : PySem.W.nsIn K mainGlobals "type" = some none)
    (c_HUE : PySem.W.nsIn K mainGlobals "HUE" = some (some (.int 2 t_c_HUE)))
    (c_LEFT : PySem.W.nsIn K mainGlobals "LEFT" = some (some (.int 0 t_c_LEFT)))
    (c_MOST_ENDS : PySem.W.nsIn K mainGlobals "MOST_ENDS" = some (some (.int 8 t_c_MOST_ENDS)))
    (c_MOST_PAIRS : PySem.W.nsIn K mainGlobals "MOST_PAIRS" = some (some (.int 40 t_c_MOST_PAIRS)))
    (c_RIGHT : PySem.W.nsIn K mainGlobals "RIGHT" = some (some (.int 1 t_c_RIGHT)))
    (c_COME : PySem.W.nsIn K mainGlobals "_COME" = some (some (.str "come" t_c_COME)))
    (c_GO : PySem.W.nsIn K mainGlobals "_GO" = some (some (.str "go" t_c_GO)))
    (c_MOST_FIGURES : PySem.W.nsIn K mainGlobals "_MOST_FIGURES" = some (some (.int 30 t_c_MOST_FIGURES)))
    (pg : PySem.W.plainGet K C_Hall Str.empty = true)
    (hd : PySem.W.hasDictIn K C_Hall = true)
    (po : PySem.W.plainOver K C_Hall = true)
    (sa : PySem.W.findIn K (.ref C_Hall) "__setattr__" = some (some (.builtin "object.__setattr__")))
    (mk : PySem.W.makesIn K C_Hall = true)
    (kc : PySem.W.keepIn K (.ref C_Hall) = true)
    (g_Hall : PySem.W.nsIn K mainGlobals "Hall" = some (some (.ref C_Hall)))
    (nA_ends : PySem.W.findIn K (.ref C_Hall) "_ends" = some none)
    (nA_rows : PySem.W.findIn K (.ref C_Hall) "_rows" = some none)
    (nA_next : PySem.W.findIn K (.ref C_Hall) "_next" = some none)
    (gE_PairError : PySem.W.nsIn K mainGlobals "PairError" = some (some (.ref E_PairError))) (xE_PairError : PySem.W.excIn K E_PairError [.type "ValueError", .type "Exception", .type "BaseException", .type "object"] "ValueError.__new__" = true) (kE_PairError : PySem.W.keepIn K (.ref E_PairError) = true) (bE_PairError : PySem.W.subIn K (.ref E_PairError) (.type "BaseException") = some true) (tE_PairError : PySem.W.typeIn K (.ref E_PairError) = some (.type "type"))
    (gE_BadCount : PySem.W.nsIn K mainGlobals "BadCount" = some (some (.ref E_BadCount))) (xE_BadCount : PySem.W.excIn K E_BadCount [.type "ValueError", .type "Exception", .type "BaseException", .type "object"] "ValueError.__new__" = true) (kE_BadCount : PySem.W.keepIn K (.ref E_BadCount) = true) (bE_BadCount : PySem.W.subIn K (.ref E_BadCount) (.type "BaseException") = some true) (tE_BadCount : PySem.W.typeIn K (.ref E_BadCount) = some (.type "type"))
    (gE_BadSide : PySem.W.nsIn K mainGlobals "BadSide" = some (some (.ref E_BadSide))) (xE_BadSide : PySem.W.excIn K E_BadSide [.type "ValueError", .type "Exception", .type "BaseException", .type "object"] "ValueError.__new__" = true) (kE_BadSide : PySem.W.keepIn K (.ref E_BadSide) = true) (bE_BadSide : PySem.W.subIn K (.ref E_BadSide) (.type "BaseException") = some true) (tE_BadSide : PySem.W.typeIn K (.ref E_BadSide) = some (.type "type"))
    (gE_BadEnd : PySem.W.nsIn K mainGlobals "BadEnd" = some (some (.ref E_BadEnd))) (xE_BadEnd : PySem.W.excIn K E_BadEnd [.type "ValueError", .type "Exception", .type "BaseException", .type "object"] "ValueError.__new__" = true) (kE_BadEnd : PySem.W.keepIn K (.ref E_BadEnd) = true) (bE_BadEnd : PySem.W.subIn K (.ref E_BadEnd) (.type "BaseException") = some true) (tE_BadEnd : PySem.W.typeIn K (.ref E_BadEnd) = some (.type "type"))
    (gE_TooMany : PySem.W.nsIn K mainGlobals "TooMany" = some (some (.ref E_TooMany))) (xE_TooMany : PySem.W.excIn K E_TooMany [.type "ValueError", .type "Exception", .type "BaseException", .type "object"] "ValueError.__new__" = true) (kE_TooMany : PySem.W.keepIn K (.ref E_TooMany) = true) (bE_TooMany : PySem.W.subIn K (.ref E_TooMany) (.type "BaseException") = some true) (tE_TooMany : PySem.W.typeIn K (.ref E_TooMany) = some (.type "type"))
    (gE_NoPair : PySem.W.nsIn K mainGlobals "NoPair" = some (some (.ref E_NoPair))) (xE_NoPair : PySem.W.excIn K E_NoPair [.type "ValueError", .type "Exception", .type "BaseException", .type "object"] "ValueError.__new__" = true) (kE_NoPair : PySem.W.keepIn K (.ref E_NoPair) = true) (bE_NoPair : PySem.W.subIn K (.ref E_NoPair) (.type "BaseException") = some true) (tE_NoPair : PySem.W.typeIn K (.ref E_NoPair) = some (.type "type"))
    (gE_BadHue : PySem.W.nsIn K mainGlobals "BadHue" = some (some (.ref E_BadHue))) (xE_BadHue : PySem.W.excIn K E_BadHue [.type "ValueError", .type "Exception", .type "BaseException", .type "object"] "ValueError.__new__" = true) (kE_BadHue : PySem.W.keepIn K (.ref E_BadHue) = true) (bE_BadHue : PySem.W.subIn K (.ref E_BadHue) (.type "BaseException") = some true) (tE_BadHue : PySem.W.typeIn K (.ref E_BadHue) = some (.type "type"))
    (gE_NotFree : PySem.W.nsIn K mainGlobals "NotFree" = some (some (.ref E_NotFree))) (xE_NotFree : PySem.W.excIn K E_NotFree [.type "ValueError", .type "Exception", .type "BaseException", .type "object"] "ValueError.__new__" = true) (kE_NotFree : PySem.W.keepIn K (.ref E_NotFree) = true) (bE_NotFree : PySem.W.subIn K (.ref E_NotFree) (.type "BaseException") = some true) (tE_NotFree : PySem.W.typeIn K (.ref E_NotFree) = some (.type "type"))
    (gE_BadLine : PySem.W.nsIn K mainGlobals "BadLine" = some (some (.ref E_BadLine))) (xE_BadLine : PySem.W.excIn K E_BadLine [.type "ValueError", .type "Exception", .type "BaseException", .type "object"] "ValueError.__new__" = true) (kE_BadLine : PySem.W.keepIn K (.ref E_BadLine) = true) (bE_BadLine : PySem.W.subIn K (.ref E_BadLine) (.type "BaseException") = some true) (tE_BadLine : PySem.W.typeIn K (.ref E_BadLine) = some (.type "type"))
    (hgE_BadCount : PySem.W.findIn K (.ref E_BadCount) "__getattribute__" = some (some (.builtin "BaseException.__getattribute__")))
    (hkE_BadCount : PySem.W.findIn K (.ref E_BadCount) "__getattr__" = some none)
    (hsE_BadCount : PySem.W.subIn K (.ref E_BadCount) (.type "BaseException") = some true)
    (hdE_BadCount : PySem.W.hasDictIn K E_BadCount = true)
    (haE_BadCount : PySem.W.findIn K (.ref E_BadCount) "__class__" = some (some (.builtin "object.__class__")))
    (hmE_BadCount : PySem.W.mroIn K E_BadCount (.type "object") = some true)
    (exn : PySem.W.specialIn K (.builtin "object.__class__") "__get__" = some (some (.builtin "getset_descriptor.__get__"))) (ext : PySem.W.takesIn K (.builtin "object.__class__") = some true)
    (hgE_BadSide : PySem.W.findIn K (.ref E_BadSide) "__getattribute__" = some (some (.builtin "BaseException.__getattribute__")))
    (hkE_BadSide : PySem.W.findIn K (.ref E_BadSide) "__getattr__" = some none)
    (hsE_BadSide : PySem.W.subIn K (.ref E_BadSide) (.type "BaseException") = some true)
    (hdE_BadSide : PySem.W.hasDictIn K E_BadSide = true)
    (haE_BadSide : PySem.W.findIn K (.ref E_BadSide) "__class__" = some (some (.builtin "object.__class__")))
    (hmE_BadSide : PySem.W.mroIn K E_BadSide (.type "object") = some true)
    (hgE_BadEnd : PySem.W.findIn K (.ref E_BadEnd) "__getattribute__" = some (some (.builtin "BaseException.__getattribute__")))
    (hkE_BadEnd : PySem.W.findIn K (.ref E_BadEnd) "__getattr__" = some none)
    (hsE_BadEnd : PySem.W.subIn K (.ref E_BadEnd) (.type "BaseException") = some true)
    (hdE_BadEnd : PySem.W.hasDictIn K E_BadEnd = true)
    (haE_BadEnd : PySem.W.findIn K (.ref E_BadEnd) "__class__" = some (some (.builtin "object.__class__")))
    (hmE_BadEnd : PySem.W.mroIn K E_BadEnd (.type "object") = some true)
    (hgE_TooMany : PySem.W.findIn K (.ref E_TooMany) "__getattribute__" = some (some (.builtin "BaseException.__getattribute__")))
    (hkE_TooMany : PySem.W.findIn K (.ref E_TooMany) "__getattr__" = some none)
    (hsE_TooMany : PySem.W.subIn K (.ref E_TooMany) (.type "BaseException") = some true)
    (hdE_TooMany : PySem.W.hasDictIn K E_TooMany = true)
    (haE_TooMany : PySem.W.findIn K (.ref E_TooMany) "__class__" = some (some (.builtin "object.__class__")))
    (hmE_TooMany : PySem.W.mroIn K E_TooMany (.type "object") = some true)
    (hgE_NoPair : PySem.W.findIn K (.ref E_NoPair) "__getattribute__" = some (some (.builtin "BaseException.__getattribute__")))
    (hkE_NoPair : PySem.W.findIn K (.ref E_NoPair) "__getattr__" = some none)
    (hsE_NoPair : PySem.W.subIn K (.ref E_NoPair) (.type "BaseException") = some true)
    (hdE_NoPair : PySem.W.hasDictIn K E_NoPair = true)
    (haE_NoPair : PySem.W.findIn K (.ref E_NoPair) "__class__" = some (some (.builtin "object.__class__")))
    (hmE_NoPair : PySem.W.mroIn K E_NoPair (.type "object") = some true)
    (hgE_BadHue : PySem.W.findIn K (.ref E_BadHue) "__getattribute__" = some (some (.builtin "BaseException.__getattribute__")))
    (hkE_BadHue : PySem.W.findIn K (.ref E_BadHue) "__getattr__" = some none)
    (hsE_BadHue : PySem.W.subIn K (.ref E_BadHue) (.type "BaseException") = some true)
    (hdE_BadHue : PySem.W.hasDictIn K E_BadHue = true)
    (haE_BadHue : PySem.W.findIn K (.ref E_BadHue) "__class__" = some (some (.builtin "object.__class__")))
    (hmE_BadHue : PySem.W.mroIn K E_BadHue (.type "object") = some true)
    (hgE_NotFree : PySem.W.findIn K (.ref E_NotFree) "__getattribute__" = some (some (.builtin "BaseException.__getattribute__")))
    (hkE_NotFree : PySem.W.findIn K (.ref E_NotFree) "__getattr__" = some none)
    (hsE_NotFree : PySem.W.subIn K (.ref E_NotFree) (.type "BaseException") = some true)
    (hdE_NotFree : PySem.W.hasDictIn K E_NotFree = true)
    (haE_NotFree : PySem.W.findIn K (.ref E_NotFree) "__class__" = some (some (.builtin "object.__class__")))
    (hmE_NotFree : PySem.W.mroIn K E_NotFree (.type "object") = some true)
    (i_BadCount_BadCount : PySem.W.kitOne K (.ref E_BadCount) (.ref E_BadCount) = some true)
    (i_BadCount_BadSide : PySem.W.kitOne K (.ref E_BadCount) (.ref E_BadSide) = some false)
    (i_BadCount_BadEnd : PySem.W.kitOne K (.ref E_BadCount) (.ref E_BadEnd) = some false)
    (i_BadCount_TooMany : PySem.W.kitOne K (.ref E_BadCount) (.ref E_TooMany) = some false)
    (i_BadCount_NoPair : PySem.W.kitOne K (.ref E_BadCount) (.ref E_NoPair) = some false)
    (i_BadCount_BadHue : PySem.W.kitOne K (.ref E_BadCount) (.ref E_BadHue) = some false)
    (i_BadCount_NotFree : PySem.W.kitOne K (.ref E_BadCount) (.ref E_NotFree) = some false)
    (i_BadCount_BadLine : PySem.W.kitOne K (.ref E_BadCount) (.ref E_BadLine) = some false)
    (i_BadSide_BadCount : PySem.W.kitOne K (.ref E_BadSide) (.ref E_BadCount) = some false)
    (i_BadSide_BadSide : PySem.W.kitOne K (.ref E_BadSide) (.ref E_BadSide) = some true)
    (i_BadSide_BadEnd : PySem.W.kitOne K (.ref E_BadSide) (.ref E_BadEnd) = some false)
    (i_BadSide_TooMany : PySem.W.kitOne K (.ref E_BadSide) (.ref E_TooMany) = some false)
    (i_BadSide_NoPair : PySem.W.kitOne K (.ref E_BadSide) (.ref E_NoPair) = some false)
    (i_BadSide_BadHue : PySem.W.kitOne K (.ref E_BadSide) (.ref E_BadHue) = some false)
    (i_BadSide_NotFree : PySem.W.kitOne K (.ref E_BadSide) (.ref E_NotFree) = some false)
    (i_BadSide_BadLine : PySem.W.kitOne K (.ref E_BadSide) (.ref E_BadLine) = some false)
    (i_BadEnd_BadCount : PySem.W.kitOne K (.ref E_BadEnd) (.ref E_BadCount) = some false)
    (i_BadEnd_BadSide : PySem.W.kitOne K (.ref E_BadEnd) (.ref E_BadSide) = some false)
    (i_BadEnd_BadEnd : PySem.W.kitOne K (.ref E_BadEnd) (.ref E_BadEnd) = some true)
    (i_BadEnd_TooMany : PySem.W.kitOne K (.ref E_BadEnd) (.ref E_TooMany) = some false)
    (i_BadEnd_NoPair : PySem.W.kitOne K (.ref E_BadEnd) (.ref E_NoPair) = some false)
    (i_BadEnd_BadHue : PySem.W.kitOne K (.ref E_BadEnd) (.ref E_BadHue) = some false)
    (i_BadEnd_NotFree : PySem.W.kitOne K (.ref E_BadEnd) (.ref E_NotFree) = some false)
    (i_BadEnd_BadLine : PySem.W.kitOne K (.ref E_BadEnd) (.ref E_BadLine) = some false)
    (i_TooMany_BadCount : PySem.W.kitOne K (.ref E_TooMany) (.ref E_BadCount) = some false)
    (i_TooMany_BadSide : PySem.W.kitOne K (.ref E_TooMany) (.ref E_BadSide) = some false)
    (i_TooMany_BadEnd : PySem.W.kitOne K (.ref E_TooMany) (.ref E_BadEnd) = some false)
    (i_TooMany_TooMany : PySem.W.kitOne K (.ref E_TooMany) (.ref E_TooMany) = some true)
    (i_TooMany_NoPair : PySem.W.kitOne K (.ref E_TooMany) (.ref E_NoPair) = some false)
    (i_TooMany_BadHue : PySem.W.kitOne K (.ref E_TooMany) (.ref E_BadHue) = some false)
    (i_TooMany_NotFree : PySem.W.kitOne K (.ref E_TooMany) (.ref E_NotFree) = some false)
    (i_TooMany_BadLine : PySem.W.kitOne K (.ref E_TooMany) (.ref E_BadLine) = some false)
    (i_NoPair_BadCount : PySem.W.kitOne K (.ref E_NoPair) (.ref E_BadCount) = some false)
    (i_NoPair_BadSide : PySem.W.kitOne K (.ref E_NoPair) (.ref E_BadSide) = some false)
    (i_NoPair_BadEnd : PySem.W.kitOne K (.ref E_NoPair) (.ref E_BadEnd) = some false)
    (i_NoPair_TooMany : PySem.W.kitOne K (.ref E_NoPair) (.ref E_TooMany) = some false)
    (i_NoPair_NoPair : PySem.W.kitOne K (.ref E_NoPair) (.ref E_NoPair) = some true)
    (i_NoPair_BadHue : PySem.W.kitOne K (.ref E_NoPair) (.ref E_BadHue) = some false)
    (i_NoPair_NotFree : PySem.W.kitOne K (.ref E_NoPair) (.ref E_NotFree) = some false)
    (i_NoPair_BadLine : PySem.W.kitOne K (.ref E_NoPair) (.ref E_BadLine) = some false)
    (i_BadHue_BadCount : PySem.W.kitOne K (.ref E_BadHue) (.ref E_BadCount) = some false)
    (i_BadHue_BadSide : PySem.W.kitOne K (.ref E_BadHue) (.ref E_BadSide) = some false)
    (i_BadHue_BadEnd : PySem.W.kitOne K (.ref E_BadHue) (.ref E_BadEnd) = some false)
    (i_BadHue_TooMany : PySem.W.kitOne K (.ref E_BadHue) (.ref E_TooMany) = some false)
    (i_BadHue_NoPair : PySem.W.kitOne K (.ref E_BadHue) (.ref E_NoPair) = some false)
    (i_BadHue_BadHue : PySem.W.kitOne K (.ref E_BadHue) (.ref E_BadHue) = some true)
    (i_BadHue_NotFree : PySem.W.kitOne K (.ref E_BadHue) (.ref E_NotFree) = some false)
    (i_BadHue_BadLine : PySem.W.kitOne K (.ref E_BadHue) (.ref E_BadLine) = some false)
    (i_NotFree_BadCount : PySem.W.kitOne K (.ref E_NotFree) (.ref E_BadCount) = some false)
    (i_NotFree_BadSide : PySem.W.kitOne K (.ref E_NotFree) (.ref E_BadSide) = some false)
    (i_NotFree_BadEnd : PySem.W.kitOne K (.ref E_NotFree) (.ref E_BadEnd) = some false)
    (i_NotFree_TooMany : PySem.W.kitOne K (.ref E_NotFree) (.ref E_TooMany) = some false)
    (i_NotFree_NoPair : PySem.W.kitOne K (.ref E_NotFree) (.ref E_NoPair) = some false)
    (i_NotFree_BadHue : PySem.W.kitOne K (.ref E_NotFree) (.ref E_BadHue) = some false)
    (i_NotFree_NotFree : PySem.W.kitOne K (.ref E_NotFree) (.ref E_NotFree) = some true)
    (i_NotFree_BadLine : PySem.W.kitOne K (.ref E_NotFree) (.ref E_BadLine) = some false)
    (i_BadCount_ValueError : PySem.W.kitOne K (.ref E_BadCount) (.type "ValueError") = some true)
    (i_BadSide_ValueError : PySem.W.kitOne K (.ref E_BadSide) (.type "ValueError") = some true)
    (i_BadEnd_ValueError : PySem.W.kitOne K (.ref E_BadEnd) (.type "ValueError") = some true)
    (i_TooMany_ValueError : PySem.W.kitOne K (.ref E_TooMany) (.type "ValueError") = some true)
    (i_NoPair_ValueError : PySem.W.kitOne K (.ref E_NoPair) (.type "ValueError") = some true)
    (i_BadHue_ValueError : PySem.W.kitOne K (.ref E_BadHue) (.type "ValueError") = some true)
    (i_NotFree_ValueError : PySem.W.kitOne K (.ref E_NotFree) (.type "ValueError") = some true)
    (r_c : PySem.W.findIn K (.ref C_Hall) "__class__" = some (some (.builtin "object.__class__")))
    (r_n : PySem.W.specialIn K (.builtin "object.__class__") "__get__" = some (some (.builtin "getset_descriptor.__get__")))
    (r_t : PySem.W.takesIn K (.builtin "object.__class__") = some true)
    (r_m : PySem.W.mroIn K C_Hall (.type "object") = some true)
    (r_k : PySem.W.kitOne K (.ref C_Hall) (.type "tuple") = some false)
    (e_BadCount_PairError : PySem.W.exmOne K (.ref E_BadCount) (.ref E_PairError) = some true)
    (e_BadSide_PairError : PySem.W.exmOne K (.ref E_BadSide) (.ref E_PairError) = some true)
    (e_BadEnd_PairError : PySem.W.exmOne K (.ref E_BadEnd) (.ref E_PairError) = some true)
    (e_TooMany_PairError : PySem.W.exmOne K (.ref E_TooMany) (.ref E_PairError) = some true)
    (e_NoPair_PairError : PySem.W.exmOne K (.ref E_NoPair) (.ref E_PairError) = some true)
    (e_BadHue_PairError : PySem.W.exmOne K (.ref E_BadHue) (.ref E_PairError) = some true)
    (e_NotFree_PairError : PySem.W.exmOne K (.ref E_NotFree) (.ref E_PairError) = some true)
    : ∃ T : Txt K mg, T.k_place = c ∧ T.p_place = PT ∧ T.f_law = f47 ∧ T.d_law = PySem.W.fnOf "law" "law" (defArgs s_law) (defBody s_law) (defScope s_law) .none kV47 dc47 pm47 an47 cd47 ct47 := by
  have F0 := fun_mk (st := s_count_of) l0 c0 k0
  have b0 := (F0).binds (ps := ["rows"]) fun _ _ _ _ _ _ us hl => match us, hl with | [_], _ => rfl
  have F1 := fun_mk (st := s_most_at) l1 c1 k1
  have b1 := (F1).binds (ps := ["rows", "side"]) fun _ _ _ _ _ _ us hl => match us, hl with | [_, _], _ => rfl
  have F2 := fun_mk (st := s_table_of) l2 c2 k2
  have b2 := (F2).binds (ps := ["rows"]) fun _ _ _ _ _ _ us hl => match us, hl with | [_], _ => rfl
  have F3 := fun_mk (st := s_free_at) l3 c3 k3
  have b3 := (F3).binds (ps := ["table", "side", "end", "many"]) fun _ _ _ _ _ _ us hl => match us, hl with | [_, _, _, _], _ => rfl
  have F4 := fun_mk (st := s_chain_at) l4 c4 k4
  have b4 := (F4).binds (ps := ["table", "side", "end", "one", "other"]) fun _ _ _ _ _ _ us hl => match us, hl with | [_, _, _, _, _], _ => rfl
  have F5 := funC_mk (st := s_place) l5 c5 k5
  have b5 := (F5.plain).binds (ps := ["rows", "number", "left", "right", "many"]) fun _ _ _ _ _ _ us hl => match us, hl with | [_, _, _, _, _], _ => rfl
  have F6 := fun_mk (st := s_far_side) l6 c6 k6
  have b6 := (F6).binds (ps := ["side"]) fun _ _ _ _ _ _ us hl => match us, hl with | [_], _ => rfl
  have F7 := fun_mk (st := s_ways) l7 c7 k7
  have b7 := (F7).binds (ps := ["table", "left", "right", "at_left", "at_right"]) fun _ _ _ _ _ _ us hl => match us, hl with | [_, _, _, _, _], _ => rfl
  have F8 := fun_mk (st := s_turn) l8 c8 k8
  have b8 := (F8).binds (ps := ["rows", "chain", "one", "other"]) fun _ _ _ _ _ _ us hl => match us, hl with | [_, _, _, _], _ => rfl
  have F9 := fun_mk (st := s_Hall_init) l9 c9 k9
  have b9 := (F9).binds (ps := ["self", "lefts", "rights"]) fun _ _ _ _ _ _ us hl => match us, hl with | [_, _, _], _ => rfl
  have F10 := fun_mk (st := s_Hall_come) l10 c10 k10
  have b10 := (F10).binds (ps := ["self", "left", "right"]) fun _ _ _ _ _ _ us hl => match us, hl with | [_, _, _], _ => rfl
  have F11 := fun_mk (st := s_Hall_go) l11 c11 k11
  have b11 := (F11).binds (ps := ["self", "number"]) fun _ _ _ _ _ _ us hl => match us, hl with | [_, _], _ => rfl
  have F12 := fun_mk (st := s_Hall_count) l12 c12 k12
  have b12 := (F12).binds (ps := ["self"]) fun _ _ _ _ _ _ us hl => match us, hl with | [_], _ => rfl
  have F13 := fun_mk (st := s_Hall_pairs) l13 c13 k13
  have b13 := (F13).binds (ps := ["self"]) fun _ _ _ _ _ _ us hl => match us, hl with | [_], _ => rfl
  have F14 := fun_mk (st := s_Hall_hue_of) l14 c14 k14
  have b14 := (F14).binds (ps := ["self", "number"]) fun _ _ _ _ _ _ us hl => match us, hl with | [_, _], _ => rfl
  have F15 := fun_mk (st := s_Hall_of_hue) l15 c15 k15
  have b15 := (F15).binds (ps := ["self", "hue"]) fun _ _ _ _ _ _ us hl => match us, hl with | [_, _], _ => rfl
  have F16 := fun_mk (st := s_Hall_free) l16 c16 k16
  have b16 := (F16).binds (ps := ["self", "side", "end"]) fun _ _ _ _ _ _ us hl => match us, hl with | [_, _, _], _ => rfl
  have F17 := fun_mk (st := s_Hall_fullest) l17 c17 k17
  have b17 := (F17).binds (ps := ["self"]) fun _ _ _ _ _ _ us hl => match us, hl with | [_], _ => rfl
  have F18 := fun_mk (st := s_Hall_chain) l18 c18 k18
  have b18 := (F18).binds (ps := ["self", "side", "end", "one", "other"]) fun _ _ _ _ _ _ us hl => match us, hl with | [_, _, _, _, _], _ => rfl
  have F19 := fun_mk (st := s_Hall_check_end) l19 c19 k19
  have b19 := (F19).binds (ps := ["self", "side", "end"]) fun _ _ _ _ _ _ us hl => match us, hl with | [_, _, _], _ => rfl
  have F20 := fun_mk (st := s_Hall_check_number) l20 c20 k20
  have b20 := (F20).binds (ps := ["self", "number"]) fun _ _ _ _ _ _ us hl => match us, hl with | [_, _], _ => rfl
  have F21 := fun_mk (st := s_Hall_check_hue) l21 c21 k21
  have b21 := (F21).binds (ps := ["self", "hue"]) fun _ _ _ _ _ _ us hl => match us, hl with | [_, _], _ => rfl
  have F22 := fun_mk (st := s_Hall_numbers_of) l22 c22 k22
  have b22 := (F22).binds (ps := ["self", "hue"]) fun _ _ _ _ _ _ us hl => match us, hl with | [_, _], _ => rfl
  have F23 := fun_mk (st := s_Hall_place_anew) l23 c23 k23
  have b23 := (F23).binds (ps := ["self", "number", "many"]) fun _ _ _ _ _ _ us hl => match us, hl with | [_, _, _], _ => rfl
  have F24 := fun_mk (st := s_Hall_as_full) l24 c24 k24
  have b24 := (F24).binds (ps := ["self", "side", "many"]) fun _ _ _ _ _ _ us hl => match us, hl with | [_, _, _], _ => rfl
  have F25 := fun_mk (st := s_is_whole) l25 c25 k25
  have b25 := (F25).binds (ps := ["worth"]) fun _ _ _ _ _ _ us hl => match us, hl with | [_], _ => rfl
  have F26 := fun_mk (st := s_is_within) l26 c26 k26
  have b26 := (F26).binds (ps := ["worth", "low", "high"]) fun _ _ _ _ _ _ us hl => match us, hl with | [_, _, _], _ => rfl
  have F27 := fun_mk (st := s_side_of) l27 c27 k27
  have b27 := (F27).binds (ps := ["word"]) fun _ _ _ _ _ _ us hl => match us, hl with | [_], _ => rfl
  have F28 := fun_mk (st := s_hued) l28 c28 k28
  have b28 := (F28).binds (ps := ["lefts", "rights", "pairs"]) fun _ _ _ _ _ _ us hl => match us, hl with | [_, _, _], _ => rfl
  have F29 := fun_mk (st := s_deed_of) l29 c29 k29
  have b29 := (F29).binds (ps := ["line"]) fun _ _ _ _ _ _ us hl => match us, hl with | [_], _ => rfl
  have F30 := fun_mk (st := s_play) l30 c30 k30
  have b30 := (F30).binds (ps := ["lefts", "rights", "lines"]) fun _ _ _ _ _ _ us hl => match us, hl with | [_, _, _], _ => rfl
  have F31 := fun_mk (st := s_answer) l31 c31 k31
  have b31 := (F31).binds (ps := ["hall", "line"]) fun _ _ _ _ _ _ us hl => match us, hl with | [_, _], _ => rfl
  have F32 := fun_mk (st := s_done) l32 c32 k32
  have b32 := (F32).binds (ps := ["hall", "deed"]) fun _ _ _ _ _ _ us hl => match us, hl with | [_, _], _ => rfl
  have F33 := fun_mk (st := s_text_of) l33 c33 k33
  have b33 := (F33).binds (ps := ["row"]) fun _ _ _ _ _ _ us hl => match us, hl with | [_], _ => rfl
  have F34 := fun_mk (st := s_spaced) l34 c34 k34
  have b34 := (F34).binds (ps := ["parts"]) fun _ _ _ _ _ _ us hl => match us, hl with | [_], _ => rfl
  have F35 := fun_mk (st := s_many_behind) l35 c35 k35
  have b35 := (F35).binds (ps := ["word"]) fun _ _ _ _ _ _ us hl => match us, hl with | [_], _ => rfl
  have F36 := fun_mk (st := s_is_number) l36 c36 k36
  have b36 := (F36).binds (ps := ["text"]) fun _ _ _ _ _ _ us hl => match us, hl with | [_], _ => rfl
  have F37 := fun_mk (st := s_l_cell_at) l37 c37 k37
  have b37 := (F37).binds (ps := ["_law_script", "_law_k"]) fun _ _ _ _ _ _ us hl => match us, hl with | [_, _], _ => rfl
  have F38 := fun_mk (st := s_l_mixed) l38 c38 k38
  have b38 := (F38).binds (ps := ["_law_cell", "_law_k"]) fun _ _ _ _ _ _ us hl => match us, hl with | [_, _], _ => rfl
  have F39 := fun_mk (st := s_l_kind) l39 c39 k39
  have b39 := (F39).binds (ps := ["_law_error"]) fun _ _ _ _ _ _ us hl => match us, hl with | [_], _ => rfl
  have F40 := fun_mk (st := s_l_made) l40 c40 k40
  have b40 := (F40).binds (ps := ["_law_way", "_law_lefts", "_law_rights"]) fun _ _ _ _ _ _ us hl => match us, hl with | [_, _, _], _ => rfl
  have F41 := fun_mk (st := s_l_asked) l41 c41 k41
  have b41 := (F41).binds (ps := ["_law_hall", "_law_way", "_law_one", "_law_other", "_law_third"]) fun _ _ _ _ _ _ us hl => match us, hl with | [_, _, _, _, _], _ => rfl
  have F42 := fun_mk (st := s_l_state) l42 c42 k42
  have b42 := (F42).binds (ps := ["_law_hall"]) fun _ _ _ _ _ _ us hl => match us, hl with | [_], _ => rfl
  have F43 := fun_mk (st := s_l_counts_refused) l43 c43 k43
  have b43 := (F43).binds (ps := ["_law_cell"]) fun _ _ _ _ _ _ us hl => match us, hl with | [_], _ => rfl
  have F44 := fun_mk (st := s_l_ends_refused) l44 c44 k44
  have b44 := (F44).binds (ps := ["_law_hall", "_law_sizes", "_law_cell"]) fun _ _ _ _ _ _ us hl => match us, hl with | [_, _, _], _ => rfl
  have F45 := fun_mk (st := s_l_numbers_refused) l45 c45 k45
  have b45 := (F45).binds (ps := ["_law_hall", "_law_came", "_law_gone", "_law_count", "_law_cell"]) fun _ _ _ _ _ _ us hl => match us, hl with | [_, _, _, _, _], _ => rfl
  have F46 := fun_mk (st := s_l_full) l46 c46 k46
  have b46 := (F46).binds (ps := ["_law_cell"]) fun _ _ _ _ _ _ us hl => match us, hl with | [_], _ => rfl
  have F47 := fun_mk (st := s_law) l47 c47 k47
  have b47 := (F47).binds (ps := ["_law_script"]) fun _ _ _ _ _ _ us hl => match us, hl with | [_], _ => rfl
  exact ⟨{ C_Hall := C_Hall, E_PairError := E_PairError, E_BadCount := E_BadCount, E_BadSide := E_BadSide, E_BadEnd := E_BadEnd, E_TooMany := E_TooMany, E_NoPair := E_NoPair, E_BadHue := E_BadHue, E_NotFree := E_NotFree, E_BadLine := E_BadLine, f_count_of := f0, d_count_of := PySem.W.fnOf "count_of" "count_of" (defArgs s_count_of) (defBody s_count_of) (defScope s_count_of) .none kV0 dc0 pm0 an0 cd0 ct0, f_most_at := f1, d_most_at := PySem.W.fnOf "_most_at" "_most_at" (defArgs s_most_at) (defBody s_most_at) (defScope s_most_at) .none kV1 dc1 pm1 an1 cd1 ct1, f_table_of := f2, d_table_of := PySem.W.fnOf "table_of" "table_of" (defArgs s_table_of) (defBody s_table_of) (defScope s_table_of) .none kV2 dc2 pm2 an2 cd2 ct2, f_free_at := f3, d_free_at := PySem.W.fnOf "free_at" "free_at" (defArgs s_free_at) (defBody s_free_at) (defScope s_free_at) .none kV3 dc3 pm3 an3 cd3 ct3, f_chain_at := f4, d_chain_at := PySem.W.fnOf "chain_at" "chain_at" (defArgs s_chain_at) (defBody s_chain_at) (defScope s_chain_at) .none kV4 dc4 pm4 an4 cd4 ct4, f_place := f5, d_place := PySem.W.fnOf "place" "place" (defArgs s_place) (defBody s_place) (defScope s_place) .none kV5 dc5 pm5 an5 (.ref c) ct5, f_far_side := f6, d_far_side := PySem.W.fnOf "_far_side" "_far_side" (defArgs s_far_side) (defBody s_far_side) (defScope s_far_side) .none kV6 dc6 pm6 an6 cd6 ct6, f_ways := f7, d_ways := PySem.W.fnOf "_ways" "_ways" (defArgs s_ways) (defBody s_ways) (defScope s_ways) .none kV7 dc7 pm7 an7 cd7 ct7, f_turn := f8, d_turn := PySem.W.fnOf "_turn" "_turn" (defArgs s_turn) (defBody s_turn) (defScope s_turn) .none kV8 dc8 pm8 an8 cd8 ct8, f_Hall_init := f9, d_Hall_init := PySem.W.fnOf "__init__" "Hall.__init__" (defArgs s_Hall_init) (defBody s_Hall_init) (defScope s_Hall_init) .none kV9 dc9 pm9 an9 cd9 ct9, f_Hall_come := f10, d_Hall_come := PySem.W.fnOf "come" "Hall.come" (defArgs s_Hall_come) (defBody s_Hall_come) (defScope s_Hall_come) .none kV10 dc10 pm10 an10 cd10 ct10, f_Hall_go := f11, d_Hall_go := PySem.W.fnOf "go" "Hall.go" (defArgs s_Hall_go) (defBody s_Hall_go) (defScope s_Hall_go) .none kV11 dc11 pm11 an11 cd11 ct11, f_Hall_count := f12, d_Hall_count := PySem.W.fnOf "count" "Hall.count" (defArgs s_Hall_count) (defBody s_Hall_count) (defScope s_Hall_count) .none kV12 dc12 pm12 an12 cd12 ct12, f_Hall_pairs := f13, d_Hall_pairs := PySem.W.fnOf "pairs" "Hall.pairs" (defArgs s_Hall_pairs) (defBody s_Hall_pairs) (defScope s_Hall_pairs) .none kV13 dc13 pm13 an13 cd13 ct13, f_Hall_hue_of := f14, d_Hall_hue_of := PySem.W.fnOf "hue_of" "Hall.hue_of" (defArgs s_Hall_hue_of) (defBody s_Hall_hue_of) (defScope s_Hall_hue_of) .none kV14 dc14 pm14 an14 cd14 ct14, f_Hall_of_hue := f15, d_Hall_of_hue := PySem.W.fnOf "of_hue" "Hall.of_hue" (defArgs s_Hall_of_hue) (defBody s_Hall_of_hue) (defScope s_Hall_of_hue) .none kV15 dc15 pm15 an15 cd15 ct15, f_Hall_free := f16, d_Hall_free := PySem.W.fnOf "free" "Hall.free" (defArgs s_Hall_free) (defBody s_Hall_free) (defScope s_Hall_free) .none kV16 dc16 pm16 an16 cd16 ct16, f_Hall_fullest := f17, d_Hall_fullest := PySem.W.fnOf "fullest" "Hall.fullest" (defArgs s_Hall_fullest) (defBody s_Hall_fullest) (defScope s_Hall_fullest) .none kV17 dc17 pm17 an17 cd17 ct17, f_Hall_chain := f18, d_Hall_chain := PySem.W.fnOf "chain" "Hall.chain" (defArgs s_Hall_chain) (defBody s_Hall_chain) (defScope s_Hall_chain) .none kV18 dc18 pm18 an18 cd18 ct18, f_Hall_check_end := f19, d_Hall_check_end := PySem.W.fnOf "_check_end" "Hall._check_end" (defArgs s_Hall_check_end) (defBody s_Hall_check_end) (defScope s_Hall_check_end) .none kV19 dc19 pm19 an19 cd19 ct19, f_Hall_check_number := f20, d_Hall_check_number := PySem.W.fnOf "_check_number" "Hall._check_number" (defArgs s_Hall_check_number) (defBody s_Hall_check_number) (defScope s_Hall_check_number) .none kV20 dc20 pm20 an20 cd20 ct20, f_Hall_check_hue := f21, d_Hall_check_hue := PySem.W.fnOf "_check_hue" "Hall._check_hue" (defArgs s_Hall_check_hue) (defBody s_Hall_check_hue) (defScope s_Hall_check_hue) .none kV21 dc21 pm21 an21 cd21 ct21, f_Hall_numbers_of := f22, d_Hall_numbers_of := PySem.W.fnOf "_numbers_of" "Hall._numbers_of" (defArgs s_Hall_numbers_of) (defBody s_Hall_numbers_of) (defScope s_Hall_numbers_of) .none kV22 dc22 pm22 an22 cd22 ct22, f_Hall_place_anew := f23, d_Hall_place_anew := PySem.W.fnOf "_place_anew" "Hall._place_anew" (defArgs s_Hall_place_anew) (defBody s_Hall_place_anew) (defScope s_Hall_place_anew) .none kV23 dc23 pm23 an23 cd23 ct23, f_Hall_as_full := f24, d_Hall_as_full := PySem.W.fnOf "_as_full" "Hall._as_full" (defArgs s_Hall_as_full) (defBody s_Hall_as_full) (defScope s_Hall_as_full) .none kV24 dc24 pm24 an24 cd24 ct24, f_is_whole := f25, d_is_whole := PySem.W.fnOf "_is_whole" "_is_whole" (defArgs s_is_whole) (defBody s_is_whole) (defScope s_is_whole) .none kV25 dc25 pm25 an25 cd25 ct25, f_is_within := f26, d_is_within := PySem.W.fnOf "_is_within" "_is_within" (defArgs s_is_within) (defBody s_is_within) (defScope s_is_within) .none kV26 dc26 pm26 an26 cd26 ct26, f_side_of := f27, d_side_of := PySem.W.fnOf "_side_of" "_side_of" (defArgs s_side_of) (defBody s_side_of) (defScope s_side_of) .none kV27 dc27 pm27 an27 cd27 ct27, f_hued := f28, d_hued := PySem.W.fnOf "hued" "hued" (defArgs s_hued) (defBody s_hued) (defScope s_hued) .none kV28 dc28 pm28 an28 cd28 ct28, f_deed_of := f29, d_deed_of := PySem.W.fnOf "deed_of" "deed_of" (defArgs s_deed_of) (defBody s_deed_of) (defScope s_deed_of) .none kV29 dc29 pm29 an29 cd29 ct29, f_play := f30, d_play := PySem.W.fnOf "play" "play" (defArgs s_play) (defBody s_play) (defScope s_play) .none kV30 dc30 pm30 an30 cd30 ct30, f_answer := f31, d_answer := PySem.W.fnOf "_answer" "_answer" (defArgs s_answer) (defBody s_answer) (defScope s_answer) .none kV31 dc31 pm31 an31 cd31 ct31, f_done := f32, d_done := PySem.W.fnOf "_done" "_done" (defArgs s_done) (defBody s_done) (defScope s_done) .none kV32 dc32 pm32 an32 cd32 ct32, f_text_of := f33, d_text_of := PySem.W.fnOf "_text_of" "_text_of" (defArgs s_text_of) (defBody s_text_of) (defScope s_text_of) .none kV33 dc33 pm33 an33 cd33 ct33, f_spaced := f34, d_spaced := PySem.W.fnOf "_spaced" "_spaced" (defArgs s_spaced) (defBody s_spaced) (defScope s_spaced) .none kV34 dc34 pm34 an34 cd34 ct34, f_many_behind := f35, d_many_behind := PySem.W.fnOf "_many_behind" "_many_behind" (defArgs s_many_behind) (defBody s_many_behind) (defScope s_many_behind) .none kV35 dc35 pm35 an35 cd35 ct35, f_is_number := f36, d_is_number := PySem.W.fnOf "_is_number" "_is_number" (defArgs s_is_number) (defBody s_is_number) (defScope s_is_number) .none kV36 dc36 pm36 an36 cd36 ct36, f_l_cell_at := f37, d_l_cell_at := PySem.W.fnOf "_law_cell_at" "_law_cell_at" (defArgs s_l_cell_at) (defBody s_l_cell_at) (defScope s_l_cell_at) .none kV37 dc37 pm37 an37 cd37 ct37, f_l_mixed := f38, d_l_mixed := PySem.W.fnOf "_law_mixed" "_law_mixed" (defArgs s_l_mixed) (defBody s_l_mixed) (defScope s_l_mixed) .none kV38 dc38 pm38 an38 cd38 ct38, f_l_kind := f39, d_l_kind := PySem.W.fnOf "_law_kind" "_law_kind" (defArgs s_l_kind) (defBody s_l_kind) (defScope s_l_kind) .none kV39 dc39 pm39 an39 cd39 ct39, f_l_made := f40, d_l_made := PySem.W.fnOf "_law_made" "_law_made" (defArgs s_l_made) (defBody s_l_made) (defScope s_l_made) .none kV40 dc40 pm40 an40 cd40 ct40, f_l_asked := f41, d_l_asked := PySem.W.fnOf "_law_asked" "_law_asked" (defArgs s_l_asked) (defBody s_l_asked) (defScope s_l_asked) .none kV41 dc41 pm41 an41 cd41 ct41, f_l_state := f42, d_l_state := PySem.W.fnOf "_law_state" "_law_state" (defArgs s_l_state) (defBody s_l_state) (defScope s_l_state) .none kV42 dc42 pm42 an42 cd42 ct42, f_l_counts_refused := f43, d_l_counts_refused := PySem.W.fnOf "_law_counts_refused" "_law_counts_refused" (defArgs s_l_counts_refused) (defBody s_l_counts_refused) (defScope s_l_counts_refused) .none kV43 dc43 pm43 an43 cd43 ct43, f_l_ends_refused := f44, d_l_ends_refused := PySem.W.fnOf "_law_ends_refused" "_law_ends_refused" (defArgs s_l_ends_refused) (defBody s_l_ends_refused) (defScope s_l_ends_refused) .none kV44 dc44 pm44 an44 cd44 ct44, f_l_numbers_refused := f45, d_l_numbers_refused := PySem.W.fnOf "_law_numbers_refused" "_law_numbers_refused" (defArgs s_l_numbers_refused) (defBody s_l_numbers_refused) (defScope s_l_numbers_refused) .none kV45 dc45 pm45 an45 cd45 ct45, f_l_full := f46, d_l_full := PySem.W.fnOf "_law_full" "_law_full" (defArgs s_l_full) (defBody s_l_full) (defScope s_l_full) .none kV46 dc46 pm46 an46 cd46 ct46, f_law := f47, d_law := PySem.W.fnOf "law" "law" (defArgs s_law) (defBody s_law) (defScope s_law) .none kV47 dc47 pm47 an47 cd47 ct47, k_place := c, p_place := PT, D_count_of := ⟨F0, PySem.W.mg_of X G a0, b0⟩, D_most_at := ⟨F1, PySem.W.mg_of X G a1, b1⟩, D_table_of := ⟨F2, PySem.W.mg_of X G a2, b2⟩, D_free_at := ⟨F3, PySem.W.mg_of X G a3, b3⟩, D_chain_at := ⟨F4, PySem.W.mg_of X G a4, b4⟩, D_place := ⟨F5.plain, PySem.W.mg_of X G a5, b5⟩, D_far_side := ⟨F6, PySem.W.mg_of X G a6, b6⟩, D_ways := ⟨F7, PySem.W.mg_of X G a7, b7⟩, D_turn := ⟨F8, PySem.W.mg_of X G a8, b8⟩, F_Hall_init := F9, b_Hall_init := b9, D_Hall_come := ⟨F10, ⟨a10, i10, k10⟩, b10⟩, D_Hall_go := ⟨F11, ⟨a11, i11, k11⟩, b11⟩, D_Hall_count := ⟨F12, ⟨a12, i12, k12⟩, b12⟩, D_Hall_pairs := ⟨F13, ⟨a13, i13, k13⟩, b13⟩, D_Hall_hue_of := ⟨F14, ⟨a14, i14, k14⟩, b14⟩, D_Hall_of_hue := ⟨F15, ⟨a15, i15, k15⟩, b15⟩, D_Hall_free := ⟨F16, ⟨a16, i16, k16⟩, b16⟩, D_Hall_fullest := ⟨F17, ⟨a17, i17, k17⟩, b17⟩, D_Hall_chain := ⟨F18, ⟨a18, i18, k18⟩, b18⟩, D_Hall_check_end := ⟨F19, ⟨a19, i19, k19⟩, b19⟩, D_Hall_check_number := ⟨F20, ⟨a20, i20, k20⟩, b20⟩, D_Hall_check_hue := ⟨F21, ⟨a21, i21, k21⟩, b21⟩, D_Hall_numbers_of := ⟨F22, ⟨a22, i22, k22⟩, b22⟩, D_Hall_place_anew := ⟨F23, ⟨a23, i23, k23⟩, b23⟩, D_Hall_as_full := ⟨F24, ⟨a24, i24, k24⟩, b24⟩, D_is_whole := ⟨F25, PySem.W.mg_of X G a25, b25⟩, D_is_within := ⟨F26, PySem.W.mg_of X G a26, b26⟩, D_side_of := ⟨F27, PySem.W.mg_of X G a27, b27⟩, D_hued := ⟨F28, PySem.W.mg_of X G a28, b28⟩, D_deed_of := ⟨F29, PySem.W.mg_of X G a29, b29⟩, D_play := ⟨F30, PySem.W.mg_of X G a30, b30⟩, D_answer := ⟨F31, PySem.W.mg_of X G a31, b31⟩, D_done := ⟨F32, PySem.W.mg_of X G a32, b32⟩, D_text_of := ⟨F33, PySem.W.mg_of X G a33, b33⟩, D_spaced := ⟨F34, PySem.W.mg_of X G a34, b34⟩, D_many_behind := ⟨F35, PySem.W.mg_of X G a35, b35⟩, D_is_number := ⟨F36, PySem.W.mg_of X G a36, b36⟩, D_l_cell_at := ⟨F37, PySem.W.mg_of X G a37, b37⟩, D_l_mixed := ⟨F38, PySem.W.mg_of X G a38, b38⟩, D_l_kind := ⟨F39, PySem.W.mg_of X G a39, b39⟩, D_l_made := ⟨F40, PySem.W.mg_of X G a40, b40⟩, D_l_asked := ⟨F41, PySem.W.mg_of X G a41, b41⟩, D_l_state := ⟨F42, PySem.W.mg_of X G a42, b42⟩, D_l_counts_refused := ⟨F43, PySem.W.mg_of X G a43, b43⟩, D_l_ends_refused := ⟨F44, PySem.W.mg_of X G a44, b44⟩, D_l_numbers_refused := ⟨F45, PySem.W.mg_of X G a45, b45⟩, D_l_full := ⟨F46, PySem.W.mg_of X G a46, b46⟩, D_law := ⟨F47, PySem.W.mg_of X G a47, b47⟩, FC_place := F5, z_ValueError := PySem.W.mg_none_of X G z_ValueError, z_all := PySem.W.mg_none_of X G z_all, z_int := PySem.W.mg_none_of X G z_int, z_isinstance := PySem.W.mg_none_of X G z_isinstance, z_len := PySem.W.mg_none_of X G z_len, z_list := PySem.W.mg_none_of X G z_list, z_max := PySem.W.mg_none_of X G z_max, z_min := PySem.W.mg_none_of X G z_min, z_range := PySem.W.mg_none_of X G z_range, z_sorted := PySem.W.mg_none_of X G z_sorted, z_str := PySem.W.mg_none_of X G z_str, z_tuple := PySem.W.mg_none_of X G z_tuple, z_type := PySem.W.mg_none_of X G z_type, c_HUE := ⟨_, PySem.W.mg_of X G c_HUE⟩, c_LEFT := ⟨_, PySem.W.mg_of X G c_LEFT⟩, c_MOST_ENDS := ⟨_, PySem.W.mg_of X G c_MOST_ENDS⟩, c_MOST_PAIRS := ⟨_, PySem.W.mg_of X G c_MOST_PAIRS⟩, c_RIGHT := ⟨_, PySem.W.mg_of X G c_RIGHT⟩, c_COME := ⟨_, PySem.W.mg_of X G c_COME⟩, c_GO := ⟨_, PySem.W.mg_of X G c_GO⟩, c_MOST_FIGURES := ⟨_, PySem.W.mg_of X G c_MOST_FIGURES⟩, cl_Hall := ⟨pg, hd, po, sa⟩, g_Hall := PySem.W.mg_of X G g_Hall, M_Hall := ⟨mk, a9, i9, kc⟩, nA_ends := nA_ends, nA_rows := nA_rows, nA_next := nA_next, x_PairError := ⟨PySem.W.mg_of X G gE_PairError, xE_PairError, kE_PairError, bE_PairError, tE_PairError⟩, x_BadCount := ⟨PySem.W.mg_of X G gE_BadCount, xE_BadCount, kE_BadCount, bE_BadCount, tE_BadCount⟩, x_BadSide := ⟨PySem.W.mg_of X G gE_BadSide, xE_BadSide, kE_BadSide, bE_BadSide, tE_BadSide⟩, x_BadEnd := ⟨PySem.W.mg_of X G gE_BadEnd, xE_BadEnd, kE_BadEnd, bE_BadEnd, tE_BadEnd⟩, x_TooMany := ⟨PySem.W.mg_of X G gE_TooMany, xE_TooMany, kE_TooMany, bE_TooMany, tE_TooMany⟩, x_NoPair := ⟨PySem.W.mg_of X G gE_NoPair, xE_NoPair, kE_NoPair, bE_NoPair, tE_NoPair⟩, x_BadHue := ⟨PySem.W.mg_of X G gE_BadHue, xE_BadHue, kE_BadHue, bE_BadHue, tE_BadHue⟩, x_NotFree := ⟨PySem.W.mg_of X G gE_NotFree, xE_NotFree, kE_NotFree, bE_NotFree, tE_NotFree⟩, x_BadLine := ⟨PySem.W.mg_of X G gE_BadLine, xE_BadLine, kE_BadLine, bE_BadLine, tE_BadLine⟩, q_BadCount := ⟨hgE_BadCount, hkE_BadCount, hsE_BadCount, hdE_BadCount, haE_BadCount, exn, ext, hmE_BadCount⟩, q_BadSide := ⟨hgE_BadSide, hkE_BadSide, hsE_BadSide, hdE_BadSide, haE_BadSide, exn, ext, hmE_BadSide⟩, q_BadEnd := ⟨hgE_BadEnd, hkE_BadEnd, hsE_BadEnd, hdE_BadEnd, haE_BadEnd, exn, ext, hmE_BadEnd⟩, q_TooMany := ⟨hgE_TooMany, hkE_TooMany, hsE_TooMany, hdE_TooMany, haE_TooMany, exn, ext, hmE_TooMany⟩, q_NoPair := ⟨hgE_NoPair, hkE_NoPair, hsE_NoPair, hdE_NoPair, haE_NoPair, exn, ext, hmE_NoPair⟩, q_BadHue := ⟨hgE_BadHue, hkE_BadHue, hsE_BadHue, hdE_BadHue, haE_BadHue, exn, ext, hmE_BadHue⟩, q_NotFree := ⟨hgE_NotFree, hkE_NotFree, hsE_NotFree, hdE_NotFree, haE_NotFree, exn, ext, hmE_NotFree⟩, i_BadCount_BadCount := i_BadCount_BadCount, i_BadCount_BadSide := i_BadCount_BadSide, i_BadCount_BadEnd := i_BadCount_BadEnd, i_BadCount_TooMany := i_BadCount_TooMany, i_BadCount_NoPair := i_BadCount_NoPair, i_BadCount_BadHue := i_BadCount_BadHue, i_BadCount_NotFree := i_BadCount_NotFree, i_BadCount_BadLine := i_BadCount_BadLine, i_BadSide_BadCount := i_BadSide_BadCount, i_BadSide_BadSide := i_BadSide_BadSide, i_BadSide_BadEnd := i_BadSide_BadEnd, i_BadSide_TooMany := i_BadSide_TooMany, i_BadSide_NoPair := i_BadSide_NoPair, i_BadSide_BadHue := i_BadSide_BadHue, i_BadSide_NotFree := i_BadSide_NotFree, i_BadSide_BadLine := i_BadSide_BadLine, i_BadEnd_BadCount := i_BadEnd_BadCount, i_BadEnd_BadSide := i_BadEnd_BadSide, i_BadEnd_BadEnd := i_BadEnd_BadEnd, i_BadEnd_TooMany := i_BadEnd_TooMany, i_BadEnd_NoPair := i_BadEnd_NoPair, i_BadEnd_BadHue := i_BadEnd_BadHue, i_BadEnd_NotFree := i_BadEnd_NotFree, i_BadEnd_BadLine := i_BadEnd_BadLine, i_TooMany_BadCount := i_TooMany_BadCount, i_TooMany_BadSide := i_TooMany_BadSide, i_TooMany_BadEnd := i_TooMany_BadEnd, i_TooMany_TooMany := i_TooMany_TooMany, i_TooMany_NoPair := i_TooMany_NoPair, i_TooMany_BadHue := i_TooMany_BadHue, i_TooMany_NotFree := i_TooMany_NotFree, i_TooMany_BadLine := i_TooMany_BadLine, i_NoPair_BadCount := i_NoPair_BadCount, i_NoPair_BadSide := i_NoPair_BadSide, i_NoPair_BadEnd := i_NoPair_BadEnd, i_NoPair_TooMany := i_NoPair_TooMany, i_NoPair_NoPair := i_NoPair_NoPair, i_NoPair_BadHue := i_NoPair_BadHue, i_NoPair_NotFree := i_NoPair_NotFree, i_NoPair_BadLine := i_NoPair_BadLine, i_BadHue_BadCount := i_BadHue_BadCount, i_BadHue_BadSide := i_BadHue_BadSide, i_BadHue_BadEnd := i_BadHue_BadEnd, i_BadHue_TooMany := i_BadHue_TooMany, i_BadHue_NoPair := i_BadHue_NoPair, i_BadHue_BadHue := i_BadHue_BadHue, i_BadHue_NotFree := i_BadHue_NotFree, i_BadHue_BadLine := i_BadHue_BadLine, i_NotFree_BadCount := i_NotFree_BadCount, i_NotFree_BadSide := i_NotFree_BadSide, i_NotFree_BadEnd := i_NotFree_BadEnd, i_NotFree_TooMany := i_NotFree_TooMany, i_NotFree_NoPair := i_NotFree_NoPair, i_NotFree_BadHue := i_NotFree_BadHue, i_NotFree_NotFree := i_NotFree_NotFree, i_NotFree_BadLine := i_NotFree_BadLine, i_BadCount_ValueError := i_BadCount_ValueError, i_BadSide_ValueError := i_BadSide_ValueError, i_BadEnd_ValueError := i_BadEnd_ValueError, i_TooMany_ValueError := i_TooMany_ValueError, i_NoPair_ValueError := i_NoPair_ValueError, i_BadHue_ValueError := i_BadHue_ValueError, i_NotFree_ValueError := i_NotFree_ValueError, r_c := r_c, r_n := r_n, r_t := r_t, r_m := r_m, r_k := r_k, e_BadCount_PairError := e_BadCount_PairError, e_BadSide_PairError := e_BadSide_PairError, e_BadEnd_PairError := e_BadEnd_PairError, e_TooMany_PairError := e_TooMany_PairError, e_NoPair_PairError := e_NoPair_PairError, e_BadHue_PairError := e_BadHue_PairError, e_NotFree_PairError := e_NotFree_PairError }, rfl, rfl, rfl, rfl⟩
/-- the head of the law -/
theorem head_mk {l : PySem.W.OpenLaw} {w : World} {K : PySem.W.Frag} {h : Heap} {mg : Str → Option Value} {fa : Addr} {C_Hall E_PairError E_BadCount E_BadSide E_BadEnd E_TooMany E_NoPair E_BadHue E_NotFree E_BadLine f0 f1 f2 f3 f4 f5 f6 f7 f8 f9 f10 f11 f12 f13 f14 f15 f16 f17 f18 f19 f20 f21 f22 f23 f24 f25 f26 f27 f28 f29 f30 f31 f32 f33 f34 f35 f36 f37 f38 f39 f40 f41 f42 f43 f44 f45 f46 f47 : Addr} {c PT : Addr} (X : K.In h) (G : h.Ns mainGlobals mg) (hfa : mg "law" = some (.ref fa))
    {od0 an0 od1 an1 od2 an2 od3 an3 od4 an4 od5 an5 od6 an6 od7 an7 od8 an8 od9 an9 od10 an10 od11 an11 od12 an12 od13 an13 od14 an14 od15 an15 od16 an16 od17 an17 od18 an18 od19 an19 od20 an20 od21 an21 od22 an22 od23 an23 od24 an24 od25 an25 od26 an26 od27 an27 od28 an28 od29 an29 od30 an30 od31 an31 od32 an32 od33 an33 od34 an34 od35 an35 od36 an36 od37 an37 od38 an38 od39 an39 od40 an40 od41 an41 od42 an42 od43 an43 od44 an44 od45 an45 od46 an46 od47 an47 : Option Addr} {sl0 sl1 sl2 sl3 sl4 sl5 sl6 sl7 sl8 sl9 sl10 sl11 sl12 sl13 sl14 sl15 sl16 sl17 sl18 sl19 sl20 sl21 sl22 sl23 sl24 sl25 sl26 sl27 sl28 sl29 sl30 sl31 sl32 sl33 sl34 sl35 sl36 sl37 sl38 sl39 sl40 sl41 sl42 sl43 sl44 sl45 sl46 sl47 : Array (Option Value)}
    {oc0 kV0 dc0 pm0 ct0 cd0 oc1 kV1 dc1 pm1 ct1 cd1 oc2 kV2 dc2 pm2 ct2 cd2 oc3 kV3 dc3 pm3 ct3 cd3 oc4 kV4 dc4 pm4 ct4 cd4 oc5 kV5 dc5 pm5 ct5 oc6 kV6 dc6 pm6 ct6 cd6 oc7 kV7 dc7 pm7 ct7 cd7 oc8 kV8 dc8 pm8 ct8 cd8 oc9 kV9 dc9 pm9 ct9 cd9 oc10 kV10 dc10 pm10 ct10 cd10 oc11 kV11 dc11 pm11 ct11 cd11 oc12 kV12 dc12 pm12 ct12 cd12 oc13 kV13 dc13 pm13 ct13 cd13 oc14 kV14 dc14 pm14 ct14 cd14 oc15 kV15 dc15 pm15 ct15 cd15 oc16 kV16 dc16 pm16 ct16 cd16 oc17 kV17 dc17 pm17 ct17 cd17 oc18 kV18 dc18 pm18 ct18 cd18 oc19 kV19 dc19 pm19 ct19 cd19 oc20 kV20 dc20 pm20 ct20 cd20 oc21 kV21 dc21 pm21 ct21 cd21 oc22 kV22 dc22 pm22 ct22 cd22 oc23 kV23 dc23 pm23 ct23 cd23 oc24 kV24 dc24 pm24 ct24 cd24 oc25 kV25 dc25 pm25 ct25 cd25 oc26 kV26 dc26 pm26 ct26 cd26 oc27 kV27 dc27 pm27 ct27 cd27 oc28 kV28 dc28 pm28 ct28 cd28 oc29 kV29 dc29 pm29 ct29 cd29 oc30 kV30 dc30 pm30 ct30 cd30 oc31 kV31 dc31 pm31 ct31 cd31 oc32 kV32 dc32 pm32 ct32 cd32 oc33 kV33 dc33 pm33 ct33 cd33 oc34 kV34 dc34 pm34 ct34 cd34 oc35 kV35 dc35 pm35 ct35 cd35 oc36 kV36 dc36 pm36 ct36 cd36 oc37 kV37 dc37 pm37 ct37 cd37 oc38 kV38 dc38 pm38 ct38 cd38 oc39 kV39 dc39 pm39 ct39 cd39 oc40 kV40 dc40 pm40 ct40 cd40 oc41 kV41 dc41 pm41 ct41 cd41 oc42 kV42 dc42 pm42 ct42 cd42 oc43 kV43 dc43 pm43 ct43 cd43 oc44 kV44 dc44 pm44 ct44 cd44 oc45 kV45 dc45 pm45 ct45 cd45 oc46 kV46 dc46 pm46 ct46 cd46 oc47 kV47 dc47 pm47 ct47 cd47 : Value} {t_c_HUE t_c_LEFT t_c_MOST_ENDS t_c_MOST_PAIRS t_c_RIGHT t_c_COME t_c_GO t_c_MOST_FIGURES : Tok}
    (a0 : PySem.W.nsIn K mainGlobals "count_of" = some (some (.ref f0)))
    (l0 : K.lookup f0 = some ⟨oc0, od0, .func (PySem.W.fnOf "count_of" "count_of" (defArgs s_count_of) (defBody s_count_of) (defScope s_count_of) .none kV0 dc0 pm0 an0 cd0 ct0), sl0⟩) (c0 : PySem.W.codeIn K cd0 "count_of" = true) (k0 : PySem.W.keepIn K (.ref f0) = true)
    (a1 : PySem.W.nsIn K mainGlobals "_most_at" = some (some (.ref f1)))
    (l1 : K.lookup f1 = some ⟨oc1, od1, .func (PySem.W.fnOf "_most_at" "_most_at" (defArgs s_most_at) (defBody s_most_at) (defScope s_most_at) .none kV1 dc1 pm1 an1 cd1 ct1), sl1⟩) (c1 : PySem.W.codeIn K cd1 "_most_at" = true) (k1 : PySem.W.keepIn K (.ref f1) = true)
    (a2 : PySem.W.nsIn K mainGlobals "table_of" = some (some (.ref f2)))
    (l2 : K.lookup f2 = some ⟨oc2, od2, .func (PySem.W.fnOf "table_of" "table_of" (defArgs s_table_of) (defBody s_table_of) (defScope s_table_of) .none kV2 dc2 pm2 an2 cd2 ct2), sl2⟩) (c2 : PySem.W.codeIn K cd2 "table_of" = true) (k2 : PySem.W.keepIn K (.ref f2) = true)
    (a3 : PySem.W.nsIn K mainGlobals "free_at" = some (some (.ref f3)))
    (l3 : K.lookup f3 = some ⟨oc3, od3, .func (PySem.W.fnOf "free_at" "free_at" (defArgs s_free_at) (defBody s_free_at) (defScope s_free_at) .none kV3 dc3 pm3 an3 cd3 ct3), sl3⟩) (c3 : PySem.W.codeIn K cd3 "free_at" = true) (k3 : PySem.W.keepIn K (.ref f3) = true)
    (a4 : PySem.W.nsIn K mainGlobals "chain_at" = some (some (.ref f4)))
    (l4 : K.lookup f4 = some ⟨oc4, od4, .func (PySem.W.fnOf "chain_at" "chain_at" (defArgs s_chain_at) (defBody s_chain_at) (defScope s_chain_at) .none kV4 dc4 pm4 an4 cd4 ct4), sl4⟩) (c4 : PySem.W.codeIn K cd4 "chain_at" = true) (k4 : PySem.W.keepIn K (.ref f4) = true)
    (a5 : PySem.W.nsIn K mainGlobals "place" = some (some (.ref f5)))
    (l5 : K.lookup f5 = some ⟨oc5, od5, .func (PySem.W.fnOf "place" "place" (defArgs s_place) (defBody s_place) (defScope s_place) .none kV5 dc5 pm5 an5 (.ref c) ct5), sl5⟩) (c5 : PySem.W.codeIn K (.ref c) "place" = true) (k5 : PySem.W.keepIn K (.ref f5) = true)
    (a6 : PySem.W.nsIn K mainGlobals "_far_side" = some (some (.ref f6)))
    (l6 : K.lookup f6 = some ⟨oc6, od6, .func (PySem.W.fnOf "_far_side" "_far_side" (defArgs s_far_side) (defBody s_far_side) (defScope s_far_side) .none kV6 dc6 pm6 an6 cd6 ct6), sl6⟩) (c6 : PySem.W.codeIn K cd6 "_far_side" = true) (k6 : PySem.W.keepIn K (.ref f6) = true)
    (a7 : PySem.W.nsIn K mainGlobals "_ways" = some (some (.ref f7)))
    (l7 : K.lookup f7 = some ⟨oc7, od7, .func (PySem.W.fnOf "_ways" "_ways" (defArgs s_ways) (defBody s_ways) (defScope s_ways) .none kV7 dc7 pm7 an7 cd7 ct7), sl7⟩) (c7 : PySem.W.codeIn K cd7 "_ways" = true) (k7 : PySem.W.keepIn K (.ref f7) = true)
    (a8 : PySem.W.nsIn K mainGlobals "_turn" = some (some (.ref f8)))
    (l8 : K.lookup f8 = some ⟨oc8, od8, .func (PySem.W.fnOf "_turn" "_turn" (defArgs s_turn) (defBody s_turn) (defScope s_turn) .none kV8 dc8 pm8 an8 cd8 ct8), sl8⟩) (c8 : PySem.W.codeIn K cd8 "_turn" = true) (k8 : PySem.W.keepIn K (.ref f8) = true)
    (a9 : PySem.W.findIn K (.ref C_Hall) "__init__" = some (some (.ref f9))) (i9 : PySem.W.isFn K (.ref f9) = true)
    (l9 : K.lookup f9 = some ⟨oc9, od9, .func (PySem.W.fnOf "__init__" "Hall.__init__" (defArgs s_Hall_init) (defBody s_Hall_init) (defScope s_Hall_init) .none kV9 dc9 pm9 an9 cd9 ct9), sl9⟩) (c9 : PySem.W.codeIn K cd9 "Hall.__init__" = true) (k9 : PySem.W.keepIn K (.ref f9) = true)
    (a10 : PySem.W.findIn K (.ref C_Hall) "come" = some (some (.ref f10))) (i10 : PySem.W.isFn K (.ref f10) = true)
    (l10 : K.lookup f10 = some ⟨oc10, od10, .func (PySem.W.fnOf "come" "Hall.come" (defArgs s_Hall_come) (defBody s_Hall_come) (defScope s_Hall_come) .none kV10 dc10 pm10 an10 cd10 ct10), sl10⟩) (c10 : PySem.W.codeIn K cd10 "Hall.come" = true) (k10 : PySem.W.keepIn K (.ref f10) = true)
    (a11 : PySem.W.findIn K (.ref C_Hall) "go" = some (some (.ref f11))) (i11 : PySem.W.isFn K (.ref f11) = true)
    (l11 : K.lookup f11 = some ⟨oc11, od11, .func (PySem.W.fnOf "go" "Hall.go" (defArgs s_Hall_go) (defBody s_Hall_go) (defScope s_Hall_go) .none kV11 dc11 pm11 an11 cd11 ct11), sl11⟩) (c11 : PySem.W.codeIn K cd11 "Hall.go" = true) (k11 : PySem.W.keepIn K (.ref f11) = true)
    (a12 : PySem.W.findIn K (.ref C_Hall) "count" = some (some (.ref f12))) (i12 : PySem.W.isFn K (.ref f12) = true)
    (l12 : K.lookup f12 = some ⟨oc12, od12, .func (PySem.W.fnOf "count" "Hall.count" (defArgs s_Hall_count) (defBody s_Hall_count) (defScope s_Hall_count) .none kV12 dc12 pm12 an12 cd12 ct12), sl12⟩) (c12 : PySem.W.codeIn K cd12 "Hall.count" = true) (k12 : PySem.W.keepIn K (.ref f12) = true)
    (a13 : PySem.W.findIn K (.ref C_Hall) "pairs" = some (some (.ref f13))) (i13 : PySem.W.isFn K (.ref f13) = true)
    (l13 : K.lookup f13 = some ⟨oc13, od13, .func (PySem.W.fnOf "pairs" "Hall.pairs" (defArgs s_Hall_pairs) (defBody s_Hall_pairs) (defScope s_Hall_pairs) .none kV13 dc13 pm13 an13 cd13 ct13), sl13⟩) (c13 : PySem.W.codeIn K cd13 "Hall.pairs" = true) (k13 : PySem.W.keepIn K (.ref f13) = true)
    (a14 : PySem.W.findIn K (.ref C_Hall) "hue_of" = some (some (.ref f14))) (i14 : PySem.W.isFn K (.ref f14) = true)
    (l14 : K.lookup f14 = some ⟨oc14, od14, .func (PySem.W.fnOf "hue_of" "Hall.hue_of" (defArgs s_Hall_hue_of) (defBody s_Hall_hue_of) (defScope s_Hall_hue_of) .none kV14 dc14 pm14 an14 cd14 ct14), sl14⟩) (c14 : PySem.W.codeIn K cd14 "Hall.hue_of" = true) (k14 : PySem.W.keepIn K (.ref f14) = true)
    (a15 : PySem.W.findIn K (.ref C_Hall) "of_hue" = some (some (.ref f15))) (i15 : PySem.W.isFn K (.ref f15) = true)
    (l15 : K.lookup f15 = some ⟨oc15, od15, .func (PySem.W.fnOf "of_hue" "Hall.of_hue" (defArgs s_Hall_of_hue) (defBody s_Hall_of_hue) (defScope s_Hall_of_hue) .none kV15 dc15 pm15 an15 cd15 ct15), sl15⟩) (c15 : PySem.W.codeIn K cd15 "Hall.of_hue" = true) (k15 : PySem.W.keepIn K (.ref f15) = true)
    (a16 : PySem.W.findIn K (.ref C_Hall) "free" = some (some (.ref f16))) (i16 : PySem.W.isFn K (.ref f16) = true)
    (l16 : K.lookup f16 = some ⟨oc16, od16, .func (PySem.W.fnOf "free" "Hall.free" (defArgs s_Hall_free) (defBody s_Hall_free) (defScope s_Hall_free) .none kV16 dc16 pm16 an16 cd16 ct16), sl16⟩) (c16 : PySem.W.codeIn K cd16 "Hall.free" = true) (k16 : PySem.W.keepIn K (.ref f16) = true)
    (a17 : PySem.W.findIn K (.ref C_Hall) "fullest" = some (some (.ref f17))) (i17 : PySem.W.isFn K (.ref f17) = true)
    (l17 : K.lookup f17 = some ⟨oc17, od17, .func (PySem.W.fnOf "fullest" "Hall.fullest" (defArgs s_Hall_fullest) (defBody s_Hall_fullest) (defScope s_Hall_fullest) .none kV17 dc17 pm17 an17 cd17 ct17), sl17⟩) (c17 : PySem.W.codeIn K cd17 "Hall.fullest" = true) (k17 : PySem.W.keepIn K (.ref f17) = true)
    (a18 : PySem.W.findIn K (.ref C_Hall) "chain" = some (some (.ref f18))) (i18 : PySem.W.isFn K (.ref f18) = true)
    (l18 : K.lookup f18 = some ⟨oc18, od18, .func (PySem.W.fnOf "chain" "Hall.chain" (defArgs s_Hall_chain) (defBody s_Hall_chain) (defScope s_Hall_chain) .none kV18 dc18 pm18 an18 cd18 ct18), sl18⟩) (c18 : PySem.W.codeIn K cd18 "Hall.chain" = true) (k18 : PySem.W.keepIn K (.ref f18) = true)
    (a19 : PySem.W.findIn K (.ref C_Hall) "_check_end" = some (some (.ref f19))) (i19 : PySem.W.isFn K (.ref f19) = true)
    (l19 : K.lookup f19 = some ⟨oc19, od19, .func (PySem.W.fnOf "_check_end" "Hall._check_end" (defArgs s_Hall_check_end) (defBody s_Hall_check_end) (defScope s_Hall_check_end) .none kV19 dc19 pm19 an19 cd19 ct19), sl19⟩) (c19 : PySem.W.codeIn K cd19 "Hall._check_end" = true) (k19 : PySem.W.keepIn K (.ref f19) = true)
    (a20 : PySem.W.findIn K (.ref C_Hall) "_check_number" = some (some (.ref f20))) (i20 : PySem.W.isFn K (.ref f20) = true)
    (l20 : K.lookup f20 = some ⟨oc20, od20, .func (PySem.W.fnOf "_check_number" "Hall._check_number" (defArgs s_Hall_check_number) (defBody s_Hall_check_number) (defScope s_Hall_check_number) .none kV20 dc20 pm20 an20 cd20 ct20), sl20⟩) (c20 : PySem.W.codeIn K cd20 "Hall._check_number" = true) (k20 : PySem.W.keepIn K (.ref f20) = true)
    (a21 : PySem.W.findIn K (.ref C_Hall) "_check_hue" = some (some (.ref f21))) (i21 : PySem.W.isFn K (.ref f21) = true)
    (l21 : K.lookup f21 = some ⟨oc21, od21, .func (PySem.W.fnOf "_check_hue" "Hall._check_hue" (defArgs s_Hall_check_hue) (defBody s_Hall_check_hue) (defScope s_Hall_check_hue) .none kV21 dc21 pm21 an21 cd21 ct21), sl21⟩) (c21 : PySem.W.codeIn K cd21 "Hall._check_hue" = true) (k21 : PySem.W.keepIn K (.ref f21) = true)
    (a22 : PySem.W.findIn K (.ref C_Hall) "_numbers_of" = some (some (.ref f22))) (i22 : PySem.W.isFn K (.ref f22) = true)
    (l22 : K.lookup f22 = some ⟨oc22, od22, .func (PySem.W.fnOf "_numbers_of" "Hall._numbers_of" (defArgs s_Hall_numbers_of) (defBody s_Hall_numbers_of) (defScope s_Hall_numbers_of) .none kV22 dc22 pm22 an22 cd22 ct22), sl22⟩) (c22 : PySem.W.codeIn K cd22 "Hall._numbers_of" = true) (k22 : PySem.W.keepIn K (.ref f22) = true)
    (a23 : PySem.W.findIn K (.ref C_Hall) "_place_anew" = some (some (.ref f23))) (i23 : PySem.W.isFn K (.ref f23) = true)
    (l23 : K.lookup f23 = some ⟨oc23, od23, .func (PySem.W.fnOf "_place_anew" "Hall._place_anew" (defArgs s_Hall_place_anew) (defBody s_Hall_place_anew) (defScope s_Hall_place_anew) .none kV23 dc23 pm23 an23 cd23 ct23), sl23⟩) (c23 : PySem.W.codeIn K cd23 "Hall._place_anew" = true) (k23 : PySem.W.keepIn K (.ref f23) = true)
    (a24 : PySem.W.findIn K (.ref C_Hall) "_as_full" = some (some (.ref f24))) (i24 : PySem.W.isFn K (.ref f24) = true)
    (l24 : K.lookup f24 = some ⟨oc24, od24, .func (PySem.W.fnOf "_as_full" "Hall._as_full" (defArgs s_Hall_as_full) (defBody s_Hall_as_full) (defScope s_Hall_as_full) .none kV24 dc24 pm24 an24 cd24 ct24), sl24⟩) (c24 : PySem.W.codeIn K cd24 "Hall._as_full" = true) (k24 : PySem.W.keepIn K (.ref f24) = true)
    (a25 : PySem.W.nsIn K mainGlobals "_is_whole" = some (some (.ref f25)))
    (l25 : K.lookup f25 = some ⟨oc25, od25, .func (PySem.W.fnOf "_is_whole" "_is_whole" (defArgs s_is_whole) (defBody s_is_whole) (defScope s_is_whole) .none kV25 dc25 pm25 an25 cd25 ct25), sl25⟩) (c25 : PySem.W.codeIn K cd25 "_is_whole" = true) (k25 : PySem.W.keepIn K (.ref f25) = true)
    (a26 : PySem.W.nsIn K mainGlobals "_is_within" = some (some (.ref f26)))
    (l26 : K.lookup f26 = some ⟨oc26, od26, .func (PySem.W.fnOf "_is_within" "_is_within" (defArgs s_is_within) (defBody s_is_within) (defScope s_is_within) .none kV26 dc26 pm26 an26 cd26 ct26), sl26⟩) (c26 : PySem.W.codeIn K cd26 "_is_within" = true) (k26 : PySem.W.keepIn K (.ref f26) = true)
    (a27 : PySem.W.nsIn K mainGlobals "_side_of" = some (some (.ref f27)))
    (l27 : K.lookup f27 = some ⟨oc27, od27, .func (PySem.W.fnOf "_side_of" "_side_of" (defArgs s_side_of) (defBody s_side_of) (defScope s_side_of) .none kV27 dc27 pm27 an27 cd27 ct27), sl27⟩) (c27 : PySem.W.codeIn K cd27 "_side_of" = true) (k27 : PySem.W.keepIn K (.ref f27) = true)
    (a28 : PySem.W.nsIn K mainGlobals "hued" = some (some (.ref f28)))
    (l28 : K.lookup f28 = some ⟨oc28, od28, .func (PySem.W.fnOf "hued" "hued" (defArgs s_hued) (defBody s_hued) (defScope s_hued) .none kV28 dc28 pm28 an28 cd28 ct28), sl28⟩) (c28 : PySem.W.codeIn K cd28 "hued" = true) (k28 : PySem.W.keepIn K (.ref f28) = true)
    (a29 : PySem.W.nsIn K mainGlobals "deed_of" = some (some (.ref f29)))
    (l29 : K.lookup f29 = some ⟨oc29, od29, .func (PySem.W.fnOf "deed_of" "deed_of" (defArgs s_deed_of) (defBody s_deed_of) (defScope s_deed_of) .none kV29 dc29 pm29 an29 cd29 ct29), sl29⟩) (c29 : PySem.W.codeIn K cd29 "deed_of" = true) (k29 : PySem.W.keepIn K (.ref f29) = true)
    (a30 : PySem.W.nsIn K mainGlobals "play" = some (some (.ref f30)))
    (l30 : K.lookup f30 = some ⟨oc30, od30, .func (PySem.W.fnOf "play" "play" (defArgs s_play) (defBody s_play) (defScope s_play) .none kV30 dc30 pm30 an30 cd30 ct30), sl30⟩) (c30 : PySem.W.codeIn K cd30 "play" = true) (k30 : PySem.W.keepIn K (.ref f30) = true)
    (a31 : PySem.W.nsIn K mainGlobals "_answer" = some (some (.ref f31)))
    (l31 : K.lookup f31 = some ⟨oc31, od31, .func (PySem.W.fnOf "_answer" "_answer" (defArgs s_answer) (defBody s_answer) (defScope s_answer) .none kV31 dc31 pm31 an31 cd31 ct31), sl31⟩) (c31 : PySem.W.codeIn K cd31 "_answer" = true) (k31 : PySem.W.keepIn K (.ref f31) = true)
    (a32 : PySem.W.nsIn K mainGlobals "_done" = some (some (.ref f32)))
    (l32 : K.lookup f32 = some ⟨oc32, od32, .func (PySem.W.fnOf "_done" "_done" (defArgs s_done) (defBody s_done) (defScope s_done) .none kV32 dc32 pm32 an32 cd32 ct32), sl32⟩) (c32 : PySem.W.codeIn K cd32 "_done" = true) (k32 : PySem.W.keepIn K (.ref f32) = true)
    (a33 : PySem.W.nsIn K mainGlobals "_text_of" = some (some (.ref f33)))
    (l33 : K.lookup f33 = some ⟨oc33, od33, .func (PySem.W.fnOf "_text_of" "_text_of" (defArgs s_text_of) (defBody s_text_of) (defScope s_text_of) .none kV33 dc33 pm33 an33 cd33 ct33), sl33⟩) (c33 : PySem.W.codeIn K cd33 "_text_of" = true) (k33 : PySem.W.keepIn K (.ref f33) = true)
    (a34 : PySem.W.nsIn K mainGlobals "_spaced" = some (some (.ref f34)))
    (l34 : K.lookup f34 = some ⟨oc34, od34, .func (PySem.W.fnOf "_spaced" "_spaced" (defArgs s_spaced) (defBody s_spaced) (defScope s_spaced) .none kV34 dc34 pm34 an34 cd34 ct34), sl34⟩) (c34 : PySem.W.codeIn K cd34 "_spaced" = true) (k34 : PySem.W.keepIn K (.ref f34) = true)
    (a35 : PySem.W.nsIn K mainGlobals "_many_behind" = some (some (.ref f35)))
    (l35 : K.lookup f35 = some ⟨oc35, od35, .func (PySem.W.fnOf "_many_behind" "_many_behind" (defArgs s_many_behind) (defBody s_many_behind) (defScope s_many_behind) .none kV35 dc35 pm35 an35 cd35 ct35), sl35⟩) (c35 : PySem.W.codeIn K cd35 "_many_behind" = true) (k35 : PySem.W.keepIn K (.ref f35) = true)
    (a36 : PySem.W.nsIn K mainGlobals "_is_number" = some (some (.ref f36)))
    (l36 : K.lookup f36 = some ⟨oc36, od36, .func (PySem.W.fnOf "_is_number" "_is_number" (defArgs s_is_number) (defBody s_is_number) (defScope s_is_number) .none kV36 dc36 pm36 an36 cd36 ct36), sl36⟩) (c36 : PySem.W.codeIn K cd36 "_is_number" = true) (k36 : PySem.W.keepIn K (.ref f36) = true)
    (a37 : PySem.W.nsIn K mainGlobals "_law_cell_at" = some (some (.ref f37)))
    (l37 : K.lookup f37 = some ⟨oc37, od37, .func (PySem.W.fnOf "_law_cell_at" "_law_cell_at" (defArgs s_l_cell_at) (defBody s_l_cell_at) (defScope s_l_cell_at) .none kV37 dc37 pm37 an37 cd37 ct37), sl37⟩) (c37 : PySem.W.codeIn K cd37 "_law_cell_at" = true) (k37 : PySem.W.keepIn K (.ref f37) = true)
    (a38 : PySem.W.nsIn K mainGlobals "_law_mixed" = some (some (.ref f38)))
    (l38 : K.lookup f38 = some ⟨oc38, od38, .func (PySem.W.fnOf "_law_mixed" "_law_mixed" (defArgs s_l_mixed) (defBody s_l_mixed) (defScope s_l_mixed) .none kV38 dc38 pm38 an38 cd38 ct38), sl38⟩) (c38 : PySem.W.codeIn K cd38 "_law_mixed" = true) (k38 : PySem.W.keepIn K (.ref f38) = true)
    (a39 : PySem.W.nsIn K mainGlobals "_law_kind" = some (some (.ref f39)))
    (l39 : K.lookup f39 = some ⟨oc39, od39, .func (PySem.W.fnOf "_law_kind" "_law_kind" (defArgs s_l_kind) (defBody s_l_kind) (defScope s_l_kind) .none kV39 dc39 pm39 an39 cd39 ct39), sl39⟩) (c39 : PySem.W.codeIn K cd39 "_law_kind" = true) (k39 : PySem.W.keepIn K (.ref f39) = true)
    (a40 : PySem.W.nsIn K mainGlobals "_law_made" = some (some (.ref f40)))
    (l40 : K.lookup f40 = some ⟨oc40, od40, .func (PySem.W.fnOf "_law_made" "_law_made" (defArgs s_l_made) (defBody s_l_made) (defScope s_l_made) .none kV40 dc40 pm40 an40 cd40 ct40), sl40⟩) (c40 : PySem.W.codeIn K cd40 "_law_made" = true) (k40 : PySem.W.keepIn K (.ref f40) = true)
    (a41 : PySem.W.nsIn K mainGlobals "_law_asked" = some (some (.ref f41)))
    (l41 : K.lookup f41 = some ⟨oc41, od41, .func (PySem.W.fnOf "_law_asked" "_law_asked" (defArgs s_l_asked) (defBody s_l_asked) (defScope s_l_asked) .none kV41 dc41 pm41 an41 cd41 ct41), sl41⟩) (c41 : PySem.W.codeIn K cd41 "_law_asked" = true) (k41 : PySem.W.keepIn K (.ref f41) = true)
    (a42 : PySem.W.nsIn K mainGlobals "_law_state" = some (some (.ref f42)))
    (l42 : K.lookup f42 = some ⟨oc42, od42, .func (PySem.W.fnOf "_law_state" "_law_state" (defArgs s_l_state) (defBody s_l_state) (defScope s_l_state) .none kV42 dc42 pm42 an42 cd42 ct42), sl42⟩) (c42 : PySem.W.codeIn K cd42 "_law_state" = true) (k42 : PySem.W.keepIn K (.ref f42) = true)
    (a43 : PySem.W.nsIn K mainGlobals "_law_counts_refused" = some (some (.ref f43)))
    (l43 : K.lookup f43 = some ⟨oc43, od43, .func (PySem.W.fnOf "_law_counts_refused" "_law_counts_refused" (defArgs s_l_counts_refused) (defBody s_l_counts_refused) (defScope s_l_counts_refused) .none kV43 dc43 pm43 an43 cd43 ct43), sl43⟩) (c43 : PySem.W.codeIn K cd43 "_law_counts_refused" = true) (k43 : PySem.W.keepIn K (.ref f43) = true)
    (a44 : PySem.W.nsIn K mainGlobals "_law_ends_refused" = some (some (.ref f44)))
    (l44 : K.lookup f44 = some ⟨oc44, od44, .func (PySem.W.fnOf "_law_ends_refused" "_law_ends_refused" (defArgs s_l_ends_refused) (defBody s_l_ends_refused) (defScope s_l_ends_refused) .none kV44 dc44 pm44 an44 cd44 ct44), sl44⟩) (c44 : PySem.W.codeIn K cd44 "_law_ends_refused" = true) (k44 : PySem.W.keepIn K (.ref f44) = true)
    (a45 : PySem.W.nsIn K mainGlobals "_law_numbers_refused" = some (some (.ref f45)))
    (l45 : K.lookup f45 = some ⟨oc45, od45, .func (PySem.W.fnOf "_law_numbers_refused" "_law_numbers_refused" (defArgs s_l_numbers_refused) (defBody s_l_numbers_refused) (defScope s_l_numbers_refused) .none kV45 dc45 pm45 an45 cd45 ct45), sl45⟩) (c45 : PySem.W.codeIn K cd45 "_law_numbers_refused" = true) (k45 : PySem.W.keepIn K (.ref f45) = true)
    (a46 : PySem.W.nsIn K mainGlobals "_law_full" = some (some (.ref f46)))
    (l46 : K.lookup f46 = some ⟨oc46, od46, .func (PySem.W.fnOf "_law_full" "_law_full" (defArgs s_l_full) (defBody s_l_full) (defScope s_l_full) .none kV46 dc46 pm46 an46 cd46 ct46), sl46⟩) (c46 : PySem.W.codeIn K cd46 "_law_full" = true) (k46 : PySem.W.keepIn K (.ref f46) = true)
    (a47 : PySem.W.nsIn K mainGlobals "law" = some (some (.ref f47)))
    (l47 : K.lookup f47 = some ⟨oc47, od47, .func (PySem.W.fnOf "law" "law" (defArgs s_law) (defBody s_law) (defScope s_law) .none kV47 dc47 pm47 an47 cd47 ct47), sl47⟩) (c47 : PySem.W.codeIn K cd47 "law" = true) (k47 : PySem.W.keepIn K (.ref f47) = true)
    (z_ValueError : PySem.W.nsIn K mainGlobals "ValueError" = some none)
    (z_all : PySem.W.nsIn K mainGlobals "all" = some none)
    (z_int : PySem.W.nsIn K mainGlobals "int" = some none)
    (z_isinstance : PySem.W.nsIn K mainGlobals "isinstance" = some none)
    (z_len : PySem.W.nsIn K mainGlobals "len" = some none)
    (z_list : PySem.W.nsIn K mainGlobals "list" = some none)
    (z_max : PySem.W.nsIn K mainGlobals "max" = some none)
    (z_min : PySem.W.nsIn K mainGlobals "min" = some none)
    (z_range : PySem.W.nsIn K mainGlobals "range" = some none)
    (z_sorted : PySem.W.nsIn K mainGlobals "sorted" = some none)
    (z_str : PySem.W.nsIn K mainGlobals "str" = some none)
    (z_tuple : PySem.W.nsIn K mainGlobals "tuple" = some none)
    (z_type : PySem.W.nsIn K mainGlobals "type" = some none)
    (c_HUE : PySem.W.nsIn K mainGlobals "HUE" = some (some (.int 2 t_c_HUE)))
    (c_LEFT : PySem.W.nsIn K mainGlobals "LEFT" = some (some (.int 0 t_c_LEFT)))
    (c_MOST_ENDS : PySem.W.nsIn K mainGlobals "MOST_ENDS" = some (some (.int 8 t_c_MOST_ENDS)))
    (c_MOST_PAIRS : PySem.W.nsIn K mainGlobals "MOST_PAIRS" = some (some (.int 40 t_c_MOST_PAIRS)))
    (c_RIGHT : PySem.W.nsIn K mainGlobals "RIGHT" = some (some (.int 1 t_c_RIGHT)))
    (c_COME : PySem.W.nsIn K mainGlobals "_COME" = some (some (.str "come" t_c_COME)))
    (c_GO : PySem.W.nsIn K mainGlobals "_GO" = some (some (.str "go" t_c_GO)))
    (c_MOST_FIGURES : PySem.W.nsIn K mainGlobals "_MOST_FIGURES" = some (some (.int 30 t_c_MOST_FIGURES)))
    (pg : PySem.W.plainGet K C_Hall Str.empty = true)
    (hd : PySem.W.hasDictIn K C_Hall = true)
    (po : PySem.W.plainOver K C_Hall = true)
    (sa : PySem.W.findIn K (.ref C_Hall) "__setattr__" = some (some (.builtin "object.__setattr__")))
    (mk : PySem.W.makesIn K C_Hall = true)
    (kc : PySem.W.keepIn K (.ref C_Hall) = true)
    (g_Hall : PySem.W.nsIn K mainGlobals "Hall" = some (some (.ref C_Hall)))
    (nA_ends : PySem.W.findIn K (.ref C_Hall) "_ends" = some none)
    (nA_rows : PySem.W.findIn K (.ref C_Hall) "_rows" = some none)
    (nA_next : PySem.W.findIn K (.ref C_Hall) "_next" = some none)
    (gE_PairError : PySem.W.nsIn K mainGlobals "PairError" = some (some (.ref E_PairError))) (xE_PairError : PySem.W.excIn K E_PairError [.type "ValueError", .type "Exception", .type "BaseException", .type "object"] "ValueError.__new__" = true) (kE_PairError : PySem.W.keepIn K (.ref E_PairError) = true) (bE_PairError : PySem.W.subIn K (.ref E_PairError) (.type "BaseException") = some true) (tE_PairError : PySem.W.typeIn K (.ref E_PairError) = some (.type "type"))
    (gE_BadCount : PySem.W.nsIn K mainGlobals "BadCount" = some (some (.ref E_BadCount))) (xE_BadCount : PySem.W.excIn K E_BadCount [.type "ValueError", .type "Exception", .type "BaseException", .type "object"] "ValueError.__new__" = true) (kE_BadCount : PySem.W.keepIn K (.ref E_BadCount) = true) (bE_BadCount : PySem.W.subIn K (.ref E_BadCount) (.type "BaseException") = some true) (tE_BadCount : PySem.W.typeIn K (.ref E_BadCount) = some (.type "type"))
    (gE_BadSide : PySem.W.nsIn K mainGlobals "BadSide" = some (some (.ref E_BadSide))) (xE_BadSide : PySem.W.excIn K E_BadSide [.type "ValueError", .type "Exception", .type "BaseException", .type "object"] "ValueError.__new__" = true) (kE_BadSide : PySem.W.keepIn K (.ref E_BadSide) = true) (bE_BadSide : PySem.W.subIn K (.ref E_BadSide) (.type "BaseException") = some true) (tE_BadSide : PySem.W.typeIn K (.ref E_BadSide) = some (.type "type"))
    (gE_BadEnd : PySem.W.nsIn K mainGlobals "BadEnd" = some (some (.ref E_BadEnd))) (xE_BadEnd : PySem.W.excIn K E_BadEnd [.type "ValueError", .type "Exception", .type "BaseException", .type "object"] "ValueError.__new__" = true) (kE_BadEnd : PySem.W.keepIn K (.ref E_BadEnd) = true) (bE_BadEnd : PySem.W.subIn K (.ref E_BadEnd) (.type "BaseException") = some true) (tE_BadEnd : PySem.W.typeIn K (.ref E_BadEnd) = some (.type "type"))
    (gE_TooMany : PySem.W.nsIn K mainGlobals "TooMany" = some (some (.ref E_TooMany))) (xE_TooMany : PySem.W.excIn K E_TooMany [.type "ValueError", .type "Exception", .type "BaseException", .type "object"] "ValueError.__new__" = true) (kE_TooMany : PySem.W.keepIn K (.ref E_TooMany) = true) (bE_TooMany : PySem.W.subIn K (.ref E_TooMany) (.type "BaseException") = some true) (tE_TooMany : PySem.W.typeIn K (.ref E_TooMany) = some (.type "type"))
    (gE_NoPair : PySem.W.nsIn K mainGlobals "NoPair" = some (some (.ref E_NoPair))) (xE_NoPair : PySem.W.excIn K E_NoPair [.type "ValueError", .type "Exception", .type "BaseException", .type "object"] "ValueError.__new__" = true) (kE_NoPair : PySem.W.keepIn K (.ref E_NoPair) = true) (bE_NoPair : PySem.W.subIn K (.ref E_NoPair) (.type "BaseException") = some true) (tE_NoPair : PySem.W.typeIn K (.ref E_NoPair) = some (.type "type"))
    (gE_BadHue : PySem.W.nsIn K mainGlobals "BadHue" = some (some (.ref E_BadHue))) (xE_BadHue : PySem.W.excIn K E_BadHue [.type "ValueError", .type "Exception", .type "BaseException", .type "object"] "ValueError.__new__" = true) (kE_BadHue : PySem.W.keepIn K (.ref E_BadHue) = true) (bE_BadHue : PySem.W.subIn K (.ref E_BadHue) (.type "BaseException") = some true) (tE_BadHue : PySem.W.typeIn K (.ref E_BadHue) = some (.type "type"))
    (gE_NotFree : PySem.W.nsIn K mainGlobals "NotFree" = some (some (.ref E_NotFree))) (xE_NotFree : PySem.W.excIn K E_NotFree [.type "ValueError", .type "Exception", .type "BaseException", .type "object"] "ValueError.__new__" = true) (kE_NotFree : PySem.W.keepIn K (.ref E_NotFree) = true) (bE_NotFree : PySem.W.subIn K (.ref E_NotFree) (.type "BaseException") = some true) (tE_NotFree : PySem.W.typeIn K (.ref E_NotFree) = some (.type "type"))
    (gE_BadLine : PySem.W.nsIn K mainGlobals "BadLine" = some (some (.ref E_BadLine))) (xE_BadLine : PySem.W.excIn K E_BadLine [.type "ValueError", .type "Exception", .type "BaseException", .type "object"] "ValueError.__new__" = true) (kE_BadLine : PySem.W.keepIn K (.ref E_BadLine) = true) (bE_BadLine : PySem.W.subIn K (.ref E_BadLine) (.type "BaseException") = some true) (tE_BadLine : PySem.W.typeIn K (.ref E_BadLine) = some (.type "type"))
    (hgE_BadCount : PySem.W.findIn K (.ref E_BadCount) "__getattribute__" = some (some (.builtin "BaseException.__getattribute__")))
    (hkE_BadCount : PySem.W.findIn K (.ref E_BadCount) "__getattr__" = some none)
    (hsE_BadCount : PySem.W.subIn K (.ref E_BadCount) (.type "BaseException") = some true)
    (hdE_BadCount : PySem.W.hasDictIn K E_BadCount = true)
    (haE_BadCount : PySem.W.findIn K (.ref E_BadCount) "__class__" = some (some (.builtin "object.__class__")))
    (hmE_BadCount : PySem.W.mroIn K E_BadCount (.type "object") = some true)
    (exn : PySem.W.specialIn K (.builtin "object.__class__") "__get__" = some (some (.builtin "getset_descriptor.__get__"))) (ext : PySem.W.takesIn K (.builtin "object.__class__") = some true)
    (hgE_BadSide : PySem.W.findIn K (.ref E_BadSide) "__getattribute__" = some (some (.builtin "BaseException.__getattribute__")))
    (hkE_BadSide : PySem.W.findIn K (.ref E_BadSide) "__getattr__" = some none)
    (hsE_BadSide : PySem.W.subIn K (.ref E_BadSide) (.type "BaseException") = some true)
    (hdE_BadSide : PySem.W.hasDictIn K E_BadSide = true)
    (haE_BadSide : PySem.W.findIn K (.ref E_BadSide) "__class__" = some (some (.builtin "object.__class__")))
    (hmE_BadSide : PySem.W.mroIn K E_BadSide (.type "object") = some true)
    (hgE_BadEnd : PySem.W.findIn K (.ref E_BadEnd) "__getattribute__" = some (some (.builtin "BaseException.__getattribute__")))
    (hkE_BadEnd : PySem.W.findIn K (.ref E_BadEnd) "__getattr__" = some none)
    (hsE_BadEnd : PySem.W.subIn K (.ref E_BadEnd) (.type "BaseException") = some true)
    (hdE_BadEnd : PySem.W.hasDictIn K E_BadEnd = true)
    (haE_BadEnd : PySem.W.findIn K (.ref E_BadEnd) "__class__" = some (some (.builtin "object.__class__")))
    (hmE_BadEnd : PySem.W.mroIn K E_BadEnd (.type "object") = some true)
    (hgE_TooMany : PySem.W.findIn K (.ref E_TooMany) "__getattribute__" = some (some (.builtin "BaseException.__getattribute__")))
    (hkE_TooMany : PySem.W.findIn K (.ref E_TooMany) "__getattr__" = some none)
    (hsE_TooMany : PySem.W.subIn K (.ref E_TooMany) (.type "BaseException") = some true)
    (hdE_TooMany : PySem.W.hasDictIn K E_TooMany = true)
    (haE_TooMany : PySem.W.findIn K (.ref E_TooMany) "__class__" = some (some (.builtin "object.__class__")))
    (hmE_TooMany : PySem.W.mroIn K E_TooMany (.type "object") = some true)
    (hgE_NoPair : PySem.W.findIn K (.ref E_NoPair) "__getattribute__" = some (some (.builtin "BaseException.__getattribute__")))
    (hkE_NoPair : PySem.W.findIn K (.ref E_NoPair) "__getattr__" = some none)
    (hsE_NoPair : PySem.W.subIn K (.ref E_NoPair) (.type "BaseException") = some true)
    (hdE_NoPair : PySem.W.hasDictIn K E_NoPair = true)
    (haE_NoPair : PySem.W.findIn K (.ref E_NoPair) "__class__" = some (some (.builtin "object.__class__")))
    (hmE_NoPair : PySem.W.mroIn K E_NoPair (.type "object") = some true)
    (hgE_BadHue : PySem.W.findIn K (.ref E_BadHue) "__getattribute__" = some (some (.builtin "BaseException.__getattribute__")))
    (hkE_BadHue : PySem.W.findIn K (.ref E_BadHue) "__getattr__" = some none)
    (hsE_BadHue : PySem.W.subIn K (.ref E_BadHue) (.type "BaseException") = some true)
    (hdE_BadHue : PySem.W.hasDictIn K E_BadHue = true)
    (haE_BadHue : PySem.W.findIn K (.ref E_BadHue) "__class__" = some (some (.builtin "object.__class__")))
    (hmE_BadHue : PySem.W.mroIn K E_BadHue (.type "object") = some true)
    (hgE_NotFree : PySem.W.findIn K (.ref E_NotFree) "__getattribute__" = some (some (.builtin "BaseException.__getattribute__")))
    (hkE_NotFree : PySem.W.findIn K (.ref E_NotFree) "__getattr__" = some none)
    (hsE_NotFree : PySem.W.subIn K (.ref E_NotFree) (.type "BaseException") = some true)
    (hdE_NotFree : PySem.W.hasDictIn K E_NotFree = true)
    (haE_NotFree : PySem.W.findIn K (.ref E_NotFree) "__class__" = some (some (.builtin "object.__class__")))
    (hmE_NotFree : PySem.W.mroIn K E_NotFree (.type "object") = some true)
    (i_BadCount_BadCount : PySem.W.kitOne K (.ref E_BadCount) (.ref E_BadCount) = some true)
    (i_BadCount_BadSide : PySem.W.kitOne K (.ref E_BadCount) (.ref E_BadSide) = some false)
    (i_BadCount_BadEnd : PySem.W.kitOne K (.ref E_BadCount) (.ref E_BadEnd) = some false)
    (i_BadCount_TooMany : PySem.W.kitOne K (.ref E_BadCount) (.ref E_TooMany) = some false)
    (i_BadCount_NoPair : PySem.W.kitOne K (.ref E_BadCount) (.ref E_NoPair) = some false)
    (i_BadCount_BadHue : PySem.W.kitOne K (.ref E_BadCount) (.ref E_BadHue) = some false)
    (i_BadCount_NotFree : PySem.W.kitOne K (.ref E_BadCount) (.ref E_NotFree) = some false)
    (i_BadCount_BadLine : PySem.W.kitOne K (.ref E_BadCount) (.ref E_BadLine) = some false)
    (i_BadSide_BadCount : PySem.W.kitOne K (.ref E_BadSide) (.ref E_BadCount) = some false)
    (i_BadSide_BadSide : PySem.W.kitOne K (.ref E_BadSide) (.ref E_BadSide) = some true)
    (i_BadSide_BadEnd : PySem.W.kitOne K (.ref E_BadSide) (.ref E_BadEnd) = some false)
    (i_BadSide_TooMany : PySem.W.kitOne K (.ref E_BadSide) (.ref E_TooMany) = some false)
    (i_BadSide_NoPair : PySem.W.kitOne K (.ref E_BadSide) (.ref E_NoPair) = some false)
    (i_BadSide_BadHue : PySem.W.kitOne K (.ref E_BadSide) (.ref E_BadHue) = some false)
    (i_BadSide_NotFree : PySem.W.kitOne K (.ref E_BadSide) (.ref E_NotFree) = some false)
    (i_BadSide_BadLine : PySem.W.kitOne K (.ref E_BadSide) (.ref E_BadLine) = some false)
    (i_BadEnd_BadCount : PySem.W.kitOne K (.ref E_BadEnd) (.ref E_BadCount) = some false)
    (i_BadEnd_BadSide : PySem.W.kitOne K (.ref E_BadEnd) (.ref E_BadSide) = some false)
    (i_BadEnd_BadEnd : PySem.W.kitOne K (.ref E_BadEnd) (.ref E_BadEnd) = some true)
    (i_BadEnd_TooMany : PySem.W.kitOne K (.ref E_BadEnd) (.ref E_TooMany) = some false)
    (i_BadEnd_NoPair : PySem.W.kitOne K (.ref E_BadEnd) (.ref E_NoPair) = some false)
    (i_BadEnd_BadHue : PySem.W.kitOne K (.ref E_BadEnd) (.ref E_BadHue) = some false)
    (i_BadEnd_NotFree : PySem.W.kitOne K (.ref E_BadEnd) (.ref E_NotFree) = some false)
    (i_BadEnd_BadLine : PySem.W.kitOne K (.ref E_BadEnd) (.ref E_BadLine) = some false)
    (i_TooMany_BadCount : PySem.W.kitOne K (.ref E_TooMany) (.ref E_BadCount) = some false)
    (i_TooMany_BadSide : PySem.W.kitOne K (.ref E_TooMany) (.ref E_BadSide) = some false)
    (i_TooMany_BadEnd : PySem.W.kitOne K (.ref E_TooMany) (.ref E_BadEnd) = some false)
    (i_TooMany_TooMany : PySem.W.kitOne K (.ref E_TooMany) (.ref E_TooMany) = some true)
    (i_TooMany_NoPair : PySem.W.kitOne K (.ref E_TooMany) (.ref E_NoPair) = some false)
    (i_TooMany_BadHue : PySem.W.kitOne K (.ref E_TooMany) (.ref E_BadHue) = some false)
    (i_TooMany_NotFree : PySem.W.kitOne K (.ref E_TooMany) (.ref E_NotFree) = some false)
    (i_TooMany_BadLine : PySem.W.kitOne K (.ref E_TooMany) (.ref E_BadLine) = some false)
    (i_NoPair_BadCount : PySem.W.kitOne K (.ref E_NoPair) (.ref E_BadCount) = some false)
    (i_NoPair_BadSide : PySem.W.kitOne K (.ref E_NoPair) (.ref E_BadSide) = some false)
    (i_NoPair_BadEnd : PySem.W.kitOne K (.ref E_NoPair) (.ref E_BadEnd) = some false)
    (i_NoPair_TooMany : PySem.W.kitOne K (.ref E_NoPair) (.ref E_TooMany) = some false)
    (i_NoPair_NoPair : PySem.W.kitOne K (.ref E_NoPair) (.ref E_NoPair) = some true)
    (i_NoPair_BadHue : PySem.W.kitOne K (.ref E_NoPair) (.ref E_BadHue) = some false)
    (i_NoPair_NotFree : PySem.W.kitOne K (.ref E_NoPair) (.ref E_NotFree) = some false)
    (i_NoPair_BadLine : PySem.W.kitOne K (.ref E_NoPair) (.ref E_BadLine) = some false)
    (i_BadHue_BadCount : PySem.W.kitOne K (.ref E_BadHue) (.ref E_BadCount) = some false)
    (i_BadHue_BadSide : PySem.W.kitOne K (.ref E_BadHue) (.ref E_BadSide) = some false)
    (i_BadHue_BadEnd : PySem.W.kitOne K (.ref E_BadHue) (.ref E_BadEnd) = some false)
    (i_BadHue_TooMany : PySem.W.kitOne K (.ref E_BadHue) (.ref E_TooMany) = some false)
    (i_BadHue_NoPair : PySem.W.kitOne K (.ref E_BadHue) (.ref E_NoPair) = some false)
    (i_BadHue_BadHue : PySem.W.kitOne K (.ref E_BadHue) (.ref E_BadHue) = some true)
    (i_BadHue_NotFree : PySem.W.kitOne K (.ref E_BadHue) (.ref E_NotFree) = some false)
    (i_BadHue_BadLine : PySem.W.kitOne K (.ref E_BadHue) (.ref E_BadLine) = some false)
    (i_NotFree_BadCount : PySem.W.kitOne K (.ref E_NotFree) (.ref E_BadCount) = some false)
    (i_NotFree_BadSide : PySem.W.kitOne K (.ref E_NotFree) (.ref E_BadSide) = some false)
    (i_NotFree_BadEnd : PySem.W.kitOne K (.ref E_NotFree) (.ref E_BadEnd) = some false)
    (i_NotFree_TooMany : PySem.W.kitOne K (.ref E_NotFree) (.ref E_TooMany) = some false)
    (i_NotFree_NoPair : PySem.W.kitOne K (.ref E_NotFree) (.ref E_NoPair) = some false)
    (i_NotFree_BadHue : PySem.W.kitOne K (.ref E_NotFree) (.ref E_BadHue) = some false)
    (i_NotFree_NotFree : PySem.W.kitOne K (.ref E_NotFree) (.ref E_NotFree) = some true)
    (i_NotFree_BadLine : PySem.W.kitOne K (.ref E_NotFree) (.ref E_BadLine) = some false)
    (i_BadCount_ValueError : PySem.W.kitOne K (.ref E_BadCount) (.type "ValueError") = some true)
    (i_BadSide_ValueError : PySem.W.kitOne K (.ref E_BadSide) (.type "ValueError") = some true)
    (i_BadEnd_ValueError : PySem.W.kitOne K (.ref E_BadEnd) (.type "ValueError") = some true)
    (i_TooMany_ValueError : PySem.W.kitOne K (.ref E_TooMany) (.type "ValueError") = some true)
    (i_NoPair_ValueError : PySem.W.kitOne K (.ref E_NoPair) (.type "ValueError") = some true)
    (i_BadHue_ValueError : PySem.W.kitOne K (.ref E_BadHue) (.type "ValueError") = some true)
    (i_NotFree_ValueError : PySem.W.kitOne K (.ref E_NotFree) (.type "ValueError") = some true)
    (r_c : PySem.W.findIn K (.ref C_Hall) "__class__" = some (some (.builtin "object.__class__")))
    (r_n : PySem.W.specialIn K (.builtin "object.__class__") "__get__" = some (some (.builtin "getset_descriptor.__get__")))
    (r_t : PySem.W.takesIn K (.builtin "object.__class__") = some true)
    (r_m : PySem.W.mroIn K C_Hall (.type "object") = some true)
    (r_k : PySem.W.kitOne K (.ref C_Hall) (.type "tuple") = some false)
    (e_BadCount_PairError : PySem.W.exmOne K (.ref E_BadCount) (.ref E_PairError) = some true)
    (e_BadSide_PairError : PySem.W.exmOne K (.ref E_BadSide) (.ref E_PairError) = some true)
    (e_BadEnd_PairError : PySem.W.exmOne K (.ref E_BadEnd) (.ref E_PairError) = some true)
    (e_TooMany_PairError : PySem.W.exmOne K (.ref E_TooMany) (.ref E_PairError) = some true)
    (e_NoPair_PairError : PySem.W.exmOne K (.ref E_NoPair) (.ref E_PairError) = some true)
    (e_BadHue_PairError : PySem.W.exmOne K (.ref E_BadHue) (.ref E_PairError) = some true)
    (e_NotFree_PairError : PySem.W.exmOne K (.ref E_NotFree) (.ref E_PairError) = some true)
    {ec : Value} {dcc : Option Addr} {vsc : Array Value} {slc : Array (Option Value)} {ts : List Addr} (lc : K.lookup c = some ⟨ec, dcc, .fields vsc, slc⟩) (vc : vsc[11]? = some (.ref PT)) (cHd : PySem.W.codeHdIn K c PT = true) (hin : PT ∈ ts) (no : K.lookup PT = none)
    : ∃ (c PT : Addr) (fd : FuncData), PySem.W.codeHdIn K c PT = true ∧ PT ∈ ts ∧ K.lookup PT = none ∧ (∀ (s : Shared) (v : Value), BindsTo s fd ⟨[v], []⟩ [("_law_script", v)]) ∧ ∀ base : Heap, K.In base → base.Ns mainGlobals mg → LamX.TabB base mg c PT → FnOk l.prog w K mg base CX0 12 fa fd ["_law_script"] (spLaw K ⟨[], [(PT, qLam)]⟩) := by
  have e := hfa.symm.trans (PySem.W.mg_of X G a47)
  cases e
  obtain ⟨T, e1, e2, e3, e4⟩ := txt_mk X G a0 l0 c0 k0 a1 l1 c1 k1 a2 l2 c2 k2 a3 l3 c3 k3 a4 l4 c4 k4 a5 l5 c5 k5 a6 l6 c6 k6 a7 l7 c7 k7 a8 l8 c8 k8 a9 i9 l9 c9 k9 a10 i10 l10 c10 k10 a11 i11 l11 c11 k11 a12 i12 l12 c12 k12 a13 i13 l13 c13 k13 a14 i14 l14 c14 k14 a15 i15 l15 c15 k15 a16 i16 l16 c16 k16 a17 i17 l17 c17 k17 a18 i18 l18 c18 k18 a19 i19 l19 c19 k19 a20 i20 l20 c20 k20 a21 i21 l21 c21 k21 a22 i22 l22 c22 k22 a23 i23 l23 c23 k23 a24 i24 l24 c24 k24 a25 l25 c25 k25 a26 l26 c26 k26 a27 l27 c27 k27 a28 l28 c28 k28 a29 l29 c29 k29 a30 l30 c30 k30 a31 l31 c31 k31 a32 l32 c32 k32 a33 l33 c33 k33 a34 l34 c34 k34 a35 l35 c35 k35 a36 l36 c36 k36 a37 l37 c37 k37 a38 l38 c38 k38 a39 l39 c39 k39 a40 l40 c40 k40 a41 l41 c41 k41 a42 l42 c42 k42 a43 l43 c43 k43 a44 l44 c44 k44 a45 l45 c45 k45 a46 l46 c46 k46 a47 l47 c47 k47 z_ValueError z_all z_int z_isinstance z_len z_list z_max z_min z_range z_sorted z_str z_tuple z_type c_HUE c_LEFT c_MOST_ENDS c_MOST_PAIRS c_RIGHT c_COME c_GO c_MOST_FIGURES pg hd po sa mk kc g_Hall nA_ends nA_rows nA_next gE_PairError xE_PairError kE_PairError bE_PairError tE_PairError gE_BadCount xE_BadCount kE_BadCount bE_BadCount tE_BadCount gE_BadSide xE_BadSide kE_BadSide bE_BadSide tE_BadSide gE_BadEnd xE_BadEnd kE_BadEnd bE_BadEnd tE_BadEnd gE_TooMany xE_TooMany kE_TooMany bE_TooMany tE_TooMany gE_NoPair xE_NoPair kE_NoPair bE_NoPair tE_NoPair gE_BadHue xE_BadHue kE_BadHue bE_BadHue tE_BadHue gE_NotFree xE_NotFree kE_NotFree bE_NotFree tE_NotFree gE_BadLine xE_BadLine kE_BadLine bE_BadLine tE_BadLine hgE_BadCount hkE_BadCount hsE_BadCount hdE_BadCount haE_BadCount hmE_BadCount exn ext hgE_BadSide hkE_BadSide hsE_BadSide hdE_BadSide haE_BadSide hmE_BadSide hgE_BadEnd hkE_BadEnd hsE_BadEnd hdE_BadEnd haE_BadEnd hmE_BadEnd hgE_TooMany hkE_TooMany hsE_TooMany hdE_TooMany haE_TooMany hmE_TooMany hgE_NoPair hkE_NoPair hsE_NoPair hdE_NoPair haE_NoPair hmE_NoPair hgE_BadHue hkE_BadHue hsE_BadHue hdE_BadHue haE_BadHue hmE_BadHue hgE_NotFree hkE_NotFree hsE_NotFree hdE_NotFree haE_NotFree hmE_NotFree i_BadCount_BadCount i_BadCount_BadSide i_BadCount_BadEnd i_BadCount_TooMany i_BadCount_NoPair i_BadCount_BadHue i_BadCount_NotFree i_BadCount_BadLine i_BadSide_BadCount i_BadSide_BadSide i_BadSide_BadEnd i_BadSide_TooMany i_BadSide_NoPair i_BadSide_BadHue i_BadSide_NotFree i_BadSide_BadLine i_BadEnd_BadCount i_BadEnd_BadSide i_BadEnd_BadEnd i_BadEnd_TooMany i_BadEnd_NoPair i_BadEnd_BadHue i_BadEnd_NotFree i_BadEnd_BadLine i_TooMany_BadCount i_TooMany_BadSide i_TooMany_BadEnd i_TooMany_TooMany i_TooMany_NoPair i_TooMany_BadHue i_TooMany_NotFree i_TooMany_BadLine i_NoPair_BadCount i_NoPair_BadSide i_NoPair_BadEnd i_NoPair_TooMany i_NoPair_NoPair i_NoPair_BadHue i_NoPair_NotFree i_NoPair_BadLine i_BadHue_BadCount i_BadHue_BadSide i_BadHue_BadEnd i_BadHue_TooMany i_BadHue_NoPair i_BadHue_BadHue i_BadHue_NotFree i_BadHue_BadLine i_NotFree_BadCount i_NotFree_BadSide i_NotFree_BadEnd i_NotFree_TooMany i_NotFree_NoPair i_NotFree_BadHue i_NotFree_NotFree i_NotFree_BadLine i_BadCount_ValueError i_BadSide_ValueError i_BadEnd_ValueError i_TooMany_ValueError i_NoPair_ValueError i_BadHue_ValueError i_NotFree_ValueError r_c r_n r_t r_m r_k e_BadCount_PairError e_BadSide_PairError e_BadEnd_PairError e_TooMany_PairError e_NoPair_PairError e_BadHue_PairError e_NotFree_PairError
  refine ⟨c, PT, T.d_law, cHd, hin, no, fun s v => by rw [e4]; exact .of_eq rfl, fun base _ _ TB => ?_⟩
  rw [← e3]
  exact ok_law T (by rw [e1, e2]; exact TB) ⟨by rw [e2]; exact List.mem_singleton.mpr rfl, fun q hq _ => by rw [List.mem_singleton.mp hq]⟩
end My
open PySem PySem.W PyProof.Rows
set_option maxRecDepth 100000 in
set_option maxHeartbeats 0 in
theorem PySem.Challenge.cw_pairhues_k01_what_is_refused_holds : PySem.Challenge.rw_pairhues_k01_what_is_refused.Holds := by
  w_on; o_law; k_head; (case hw => w_witness2)
  k_fill
  refine My.walk_tab (l := PySem.Challenge.rw_pairhues_k01_what_is_refused) (n := 63) (k := 12) (x := "_law_script") (sp := fun w PT => My.spLaw _ ⟨[], [(PT, My.qLam)]⟩) rfl (by decide) rfl ⟨rfl, by decide, by decide⟩ (fun w h Y => PySem.W.km_in_of Y) (fun w h Y => PySem.W.km_tabs_of Y) ?F (fun w PT H a ns hl hb hH hS => ⟨a, ns, rfl, hS, fun p hp => by rw [List.mem_singleton.mp hp]; exact LamX.TabS.nil hH, fun _ => rfl⟩)
  case F =>
    intro w mg fa h KX G hmg
    refine' My.head_mk KX G hmg ?a0 ?l0 ?c0 ?k0 ?a1 ?l1 ?c1 ?k1 ?a2 ?l2 ?c2 ?k2 ?a3 ?l3 ?c3 ?k3 ?a4 ?l4 ?c4 ?k4 ?a5 ?l5 ?c5 ?k5 ?a6 ?l6 ?c6 ?k6 ?a7 ?l7 ?c7 ?k7 ?a8 ?l8 ?c8 ?k8 ?a9 ?i9 ?l9 ?c9 ?k9 ?a10 ?i10 ?l10 ?c10 ?k10 ?a11 ?i11 ?l11 ?c11 ?k11 ?a12 ?i12 ?l12 ?c12 ?k12 ?a13 ?i13 ?l13 ?c13 ?k13 ?a14 ?i14 ?l14 ?c14 ?k14 ?a15 ?i15 ?l15 ?c15 ?k15 ?a16 ?i16 ?l16 ?c16 ?k16 ?a17 ?i17 ?l17 ?c17 ?k17 ?a18 ?i18 ?l18 ?c18 ?k18 ?a19 ?i19 ?l19 ?c19 ?k19 ?a20 ?i20 ?l20 ?c20 ?k20 ?a21 ?i21 ?l21 ?c21 ?k21 ?a22 ?i22 ?l22 ?c22 ?k22 ?a23 ?i23 ?l23 ?c23 ?k23 ?a24 ?i24 ?l24 ?c24 ?k24 ?a25 ?l25 ?c25 ?k25 ?a26 ?l26 ?c26 ?k26 ?a27 ?l27 ?c27 ?k27 ?a28 ?l28 ?c28 ?k28 ?a29 ?l29 ?c29 ?k29 ?a30 ?l30 ?c30 ?k30 ?a31 ?l31 ?c31 ?k31 ?a32 ?l32 ?c32 ?k32 ?a33 ?l33 ?c33 ?k33 ?a34 ?l34 ?c34 ?k34 ?a35 ?l35 ?c35 ?k35 ?a36 ?l36 ?c36 ?k36 ?a37 ?l37 ?c37 ?k37 ?a38 ?l38 ?c38 ?k38 ?a39 ?l39 ?c39 ?k39 ?a40 ?l40 ?c40 ?k40 ?a41 ?l41 ?c41 ?k41 ?a42 ?l42 ?c42 ?k42 ?a43 ?l43 ?c43 ?k43 ?a44 ?l44 ?c44 ?k44 ?a45 ?l45 ?c45 ?k45 ?a46 ?l46 ?c46 ?k46 ?a47 ?l47 ?c47 ?k47 ?z_ValueError ?z_all ?z_int ?z_isinstance ?z_len ?z_list ?z_max ?z_min ?z_range ?z_sorted ?z_str ?z_tuple ?z_type ?c_HUE ?c_LEFT ?c_MOST_ENDS ?c_MOST_PAIRS ?c_RIGHT ?c_COME ?c_GO ?c_MOST_FIGURES ?pg ?hd ?po ?sa ?mk ?kc ?g_Hall ?nA_ends ?nA_rows ?nA_next ?gE_PairError ?xE_PairError ?kE_PairError ?bE_PairError ?tE_PairError ?gE_BadCount ?xE_BadCount ?kE_BadCount ?bE_BadCount ?tE_BadCount ?gE_BadSide ?xE_BadSide ?kE_BadSide ?bE_BadSide ?tE_BadSide ?gE_BadEnd ?xE_BadEnd ?kE_BadEnd ?bE_BadEnd ?tE_BadEnd ?gE_TooMany ?xE_TooMany ?kE_TooMany ?bE_TooMany ?tE_TooMany ?gE_NoPair ?xE_NoPair ?kE_NoPair ?bE_NoPair ?tE_NoPair ?gE_BadHue ?xE_BadHue ?kE_BadHue ?bE_BadHue ?tE_BadHue ?gE_NotFree ?xE_NotFree ?kE_NotFree ?bE_NotFree ?tE_NotFree ?gE_BadLine ?xE_BadLine ?kE_BadLine ?bE_BadLine ?tE_BadLine ?hgE_BadCount ?hkE_BadCount ?hsE_BadCount ?hdE_BadCount ?haE_BadCount ?hmE_BadCount ?exn ?ext ?hgE_BadSide ?hkE_BadSide ?hsE_BadSide ?hdE_BadSide ?haE_BadSide ?hmE_BadSide ?hgE_BadEnd ?hkE_BadEnd ?hsE_BadEnd ?hdE_BadEnd ?haE_BadEnd ?hmE_BadEnd ?hgE_TooMany ?hkE_TooMany ?hsE_TooMany ?hdE_TooMany ?haE_TooMany ?hmE_TooMany ?hgE_NoPair ?hkE_NoPair ?hsE_NoPair ?hdE_NoPair ?haE_NoPair ?hmE_NoPair ?hgE_BadHue ?hkE_BadHue ?hsE_BadHue ?hdE_BadHue ?haE_BadHue ?hmE_BadHue ?hgE_NotFree ?hkE_NotFree ?hsE_NotFree ?hdE_NotFree ?haE_NotFree ?hmE_NotFree ?i_BadCount_BadCount ?i_BadCount_BadSide ?i_BadCount_BadEnd ?i_BadCount_TooMany ?i_BadCount_NoPair ?i_BadCount_BadHue ?i_BadCount_NotFree ?i_BadCount_BadLine ?i_BadSide_BadCount ?i_BadSide_BadSide ?i_BadSide_BadEnd ?i_BadSide_TooMany ?i_BadSide_NoPair ?i_BadSide_BadHue ?i_BadSide_NotFree ?i_BadSide_BadLine ?i_BadEnd_BadCount ?i_BadEnd_BadSide ?i_BadEnd_BadEnd ?i_BadEnd_TooMany ?i_BadEnd_NoPair ?i_BadEnd_BadHue ?i_BadEnd_NotFree ?i_BadEnd_BadLine ?i_TooMany_BadCount ?i_TooMany_BadSide ?i_TooMany_BadEnd ?i_TooMany_TooMany ?i_TooMany_NoPair ?i_TooMany_BadHue ?i_TooMany_NotFree ?i_TooMany_BadLine ?i_NoPair_BadCount ?i_NoPair_BadSide ?i_NoPair_BadEnd ?i_NoPair_TooMany ?i_NoPair_NoPair ?i_NoPair_BadHue ?i_NoPair_NotFree ?i_NoPair_BadLine ?i_BadHue_BadCount ?i_BadHue_BadSide ?i_BadHue_BadEnd ?i_BadHue_TooMany ?i_BadHue_NoPair ?i_BadHue_BadHue ?i_BadHue_NotFree ?i_BadHue_BadLine ?i_NotFree_BadCount ?i_NotFree_BadSide ?i_NotFree_BadEnd ?i_NotFree_TooMany ?i_NotFree_NoPair ?i_NotFree_BadHue ?i_NotFree_NotFree ?i_NotFree_BadLine ?i_BadCount_ValueError ?i_BadSide_ValueError ?i_BadEnd_ValueError ?i_TooMany_ValueError ?i_NoPair_ValueError ?i_BadHue_ValueError ?i_NotFree_ValueError ?r_c ?r_n ?r_t ?r_m ?r_k ?e_BadCount_PairError ?e_BadSide_PairError ?e_BadEnd_PairError ?e_TooMany_PairError ?e_NoPair_PairError ?e_BadHue_PairError ?e_NotFree_PairError ?lc ?vc ?cHd ?hin ?no
    (case g_Hall => k_is)
    (case gE_PairError => k_is)
    (case gE_BadCount => k_is)
    (case gE_BadSide => k_is)
    (case gE_BadEnd => k_is)
    (case gE_TooMany => k_is)
    (case gE_NoPair => k_is)
    (case gE_BadHue => k_is)
    (case gE_NotFree => k_is)
    (case gE_BadLine => k_is)
    (case a0 => k_is)
    (case l0 => k_is)
    (case c0 => k_is)
    (case k0 => k_is)
    (case a1 => k_is)
    (case l1 => k_is)
    (case c1 => k_is)
    (case k1 => k_is)
    (case a2 => k_is)
    (case l2 => k_is)
    (case c2 => k_is)
    (case k2 => k_is)
    (case a3 => k_is)
    (case l3 => k_is)
    (case c3 => k_is)
    (case k3 => k_is)
    (case a4 => k_is)
    (case l4 => k_is)
    (case c4 => k_is)
    (case k4 => k_is)
    (case a5 => k_is)
    (case l5 => k_is)
    (case c5 => k_is)
    (case k5 => k_is)
    (case a6 => k_is)
    (case l6 => k_is)
    (case c6 => k_is)
    (case k6 => k_is)
    (case a7 => k_is)
    (case l7 => k_is)
    (case c7 => k_is)
    (case k7 => k_is)
    (case a8 => k_is)
    (case l8 => k_is)
    (case c8 => k_is)
    (case k8 => k_is)
    (case a9 => k_is)
    (case i9 => k_is)
    (case l9 => k_is)
    (case c9 => k_is)
    (case k9 => k_is)
    (case a10 => k_is)
    (case i10 => k_is)
    (case l10 => k_is)
    (case c10 => k_is)
    (case k10 => k_is)
    (case a11 => k_is)
    (case i11 => k_is)
    (case l11 => k_is)
    (case c11 => k_is)
    (case k11 => k_is)
    (case a12 => k_is)
    (case i12 => k_is)
    (case l12 => k_is)
    (case c12 => k_is)
    (case k12 => k_is)
    (case a13 => k_is)
    (case i13 => k_is)
    (case l13 => k_is)
    (case c13 => k_is)
    (case k13 => k_is)
    (case a14 => k_is)
    (case i14 => k_is)
    (case l14 => k_is)
    (case c14 => k_is)
    (case k14 => k_is)
    (case a15 => k_is)
    (case i15 => k_is)
    (case l15 => k_is)
    (case c15 => k_is)
    (case k15 => k_is)
    (case a16 => k_is)
    (case i16 => k_is)
    (case l16 => k_is)
    (case c16 => k_is)
    (case k16 => k_is)
    (case a17 => k_is)
    (case i17 => k_is)
    (case l17 => k_is)
    (case c17 => k_is)
    (case k17 => k_is)
    (case a18 => k_is)
    (case i18 => k_is)
    (case l18 => k_is)
    (case c18 => k_is)
    (case k18 => k_is)
    (case a19 => k_is)
    (case i19 => k_is)
    (case l19 => k_is)
    (case c19 => k_is)
    (case k19 => k_is)
    (case a20 => k_is)
    (case i20 => k_is)
    (case l20 => k_is)
    (case c20 => k_is)
    (case k20 => k_is)
    (case a21 => k_is)
    (case i21 => k_is)
    (case l21 => k_is)
    (case c21 => k_is)
    (case k21 => k_is)
    (case a22 => k_is)
    (case i22 => k_is)
    (case l22 => k_is)
    (case c22 => k_is)
    (case k22 => k_is)
    (case a23 => k_is)
    (case i23 => k_is)
    (case l23 => k_is)
    (case c23 => k_is)
    (case k23 => k_is)
    (case a24 => k_is)
    (case i24 => k_is)
    (case l24 => k_is)
    (case c24 => k_is)
    (case k24 => k_is)
    (case a25 => k_is)
    (case l25 => k_is)
    (case c25 => k_is)
    (case k25 => k_is)
    (case a26 => k_is)
    (case l26 => k_is)
    (case c26 => k_is)
    (case k26 => k_is)
    (case a27 => k_is)
    (case l27 => k_is)
    (case c27 => k_is)
    (case k27 => k_is)
    (case a28 => k_is)
    (case l28 => k_is)
    (case c28 => k_is)
    (case k28 => k_is)
    (case a29 => k_is)
    (case l29 => k_is)
    (case c29 => k_is)
    (case k29 => k_is)
    (case a30 => k_is)
    (case l30 => k_is)
    (case c30 => k_is)
    (case k30 => k_is)
    (case a31 => k_is)
    (case l31 => k_is)
    (case c31 => k_is)
    (case k31 => k_is)
    (case a32 => k_is)
    (case l32 => k_is)
    (case c32 => k_is)
    (case k32 => k_is)
    (case a33 => k_is)
    (case l33 => k_is)
    (case c33 => k_is)
    (case k33 => k_is)
    (case a34 => k_is)
    (case l34 => k_is)
    (case c34 => k_is)
    (case k34 => k_is)
    (case a35 => k_is)
    (case l35 => k_is)
    (case c35 => k_is)
    (case k35 => k_is)
    (case a36 => k_is)
    (case l36 => k_is)
    (case c36 => k_is)
    (case k36 => k_is)
    (case a37 => k_is)
    (case l37 => k_is)
    (case c37 => k_is)
    (case k37 => k_is)
    (case a38 => k_is)
    (case l38 => k_is)
    (case c38 => k_is)
    (case k38 => k_is)
    (case a39 => k_is)
    (case l39 => k_is)
    (case c39 => k_is)
    (case k39 => k_is)
    (case a40 => k_is)
    (case l40 => k_is)
    (case c40 => k_is)
    (case k40 => k_is)
    (case a41 => k_is)
    (case l41 => k_is)
    (case c41 => k_is)
    (case k41 => k_is)
    (case a42 => k_is)
    (case l42 => k_is)
    (case c42 => k_is)
    (case k42 => k_is)
    (case a43 => k_is)
    (case l43 => k_is)
    (case c43 => k_is)
    (case k43 => k_is)
    (case a44 => k_is)
    (case l44 => k_is)
    (case c44 => k_is)
    (case k44 => k_is)
    (case a45 => k_is)
    (case l45 => k_is)
    (case c45 => k_is)
    (case k45 => k_is)
    (case a46 => k_is)
    (case l46 => k_is)
    (case c46 => k_is)
    (case k46 => k_is)
    (case a47 => k_is)
    (case l47 => k_is)
    (case c47 => k_is)
    (case k47 => k_is)
    (case z_ValueError => k_is)
    (case z_all => k_is)
    (case z_int => k_is)
    (case z_isinstance => k_is)
    (case z_len => k_is)
    (case z_list => k_is)
    (case z_max => k_is)
    (case z_min => k_is)
    (case z_range => k_is)
    (case z_sorted => k_is)
    (case z_str => k_is)
    (case z_tuple => k_is)
    (case z_type => k_is)
    (case c_HUE => k_is)
    (case c_LEFT => k_is)
    (case c_MOST_ENDS => k_is)
    (case c_MOST_PAIRS => k_is)
    (case c_RIGHT => k_is)
    (case c_COME => k_is)
    (case c_GO => k_is)
    (case c_MOST_FIGURES => k_is)
    (case pg => k_is)
    (case hd => k_is)
    (case po => k_is)
    (case sa => k_is)
    (case mk => k_is)
    (case kc => k_is)
    (case nA_ends => k_is)
    (case nA_rows => k_is)
    (case nA_next => k_is)
    (case xE_PairError => k_exc)
    (case kE_PairError => k_is)
    (case bE_PairError => k_is)
    (case tE_PairError => k_is)
    (case xE_BadCount => k_exc)
    (case kE_BadCount => k_is)
    (case bE_BadCount => k_is)
    (case tE_BadCount => k_is)
    (case xE_BadSide => k_exc)
    (case kE_BadSide => k_is)
    (case bE_BadSide => k_is)
    (case tE_BadSide => k_is)
    (case xE_BadEnd => k_exc)
    (case kE_BadEnd => k_is)
    (case bE_BadEnd => k_is)
    (case tE_BadEnd => k_is)
    (case xE_TooMany => k_exc)
    (case kE_TooMany => k_is)
    (case bE_TooMany => k_is)
    (case tE_TooMany => k_is)
    (case xE_NoPair => k_exc)
    (case kE_NoPair => k_is)
    (case bE_NoPair => k_is)
    (case tE_NoPair => k_is)
    (case xE_BadHue => k_exc)
    (case kE_BadHue => k_is)
    (case bE_BadHue => k_is)
    (case tE_BadHue => k_is)
    (case xE_NotFree => k_exc)
    (case kE_NotFree => k_is)
    (case bE_NotFree => k_is)
    (case tE_NotFree => k_is)
    (case xE_BadLine => k_exc)
    (case kE_BadLine => k_is)
    (case bE_BadLine => k_is)
    (case tE_BadLine => k_is)
    (case hgE_BadCount => first | k_is | k_exc | rfl | decide +kernel)
    (case hkE_BadCount => first | k_is | k_exc | rfl | decide +kernel)
    (case hsE_BadCount => first | k_is | k_exc | rfl | decide +kernel)
    (case hdE_BadCount => first | k_is | k_exc | rfl | decide +kernel)
    (case haE_BadCount => first | k_is | k_exc | rfl | decide +kernel)
    (case hmE_BadCount => first | k_is | k_exc | rfl | decide +kernel)
    (case exn => first | k_is | k_exc | rfl | decide +kernel)
    (case ext => first | k_is | k_exc | rfl | decide +kernel)
    (case hgE_BadSide => first | k_is | k_exc | rfl | decide +kernel)
    (case hkE_BadSide => first | k_is | k_exc | rfl | decide +kernel)
    (case hsE_BadSide => first | k_is | k_exc | rfl | decide +kernel)
    (case hdE_BadSide => first | k_is | k_exc | rfl | decide +kernel)
    (case haE_BadSide => first | k_is | k_exc | rfl | decide +kernel)
    (case hmE_BadSide => first | k_is | k_exc | rfl | decide +kernel)
    (case hgE_BadEnd => first | k_is | k_exc | rfl | decide +kernel)
    (case hkE_BadEnd => first | k_is | k_exc | rfl | decide +kernel)
    (case hsE_BadEnd => first | k_is | k_exc | rfl | decide +kernel)
    (case hdE_BadEnd => first | k_is | k_exc | rfl | decide +kernel)
    (case haE_BadEnd => first | k_is | k_exc | rfl | decide +kernel)
    (case hmE_BadEnd => first | k_is | k_exc | rfl | decide +kernel)
    (case hgE_TooMany => first | k_is | k_exc | rfl | decide +kernel)
    (case hkE_TooMany => first | k_is | k_exc | rfl | decide +kernel)
    (case hsE_TooMany => first | k_is | k_exc | rfl | decide +kernel)
    (case hdE_TooMany => first | k_is | k_exc | rfl | decide +kernel)
    (case haE_TooMany => first | k_is | k_exc | rfl | decide +kernel)
    (case hmE_TooMany => first | k_is | k_exc | rfl | decide +kernel)
    (case hgE_NoPair => first | k_is | k_exc | rfl | decide +kernel)
    (case hkE_NoPair => first | k_is | k_exc | rfl | decide +kernel)
    (case hsE_NoPair => first | k_is | k_exc | rfl | decide +kernel)
    (case hdE_NoPair => first | k_is | k_exc | rfl | decide +kernel)
    (case haE_NoPair => first | k_is | k_exc | rfl | decide +kernel)
    (case hmE_NoPair => first | k_is | k_exc | rfl | decide +kernel)
    (case hgE_BadHue => first | k_is | k_exc | rfl | decide +kernel)
    (case hkE_BadHue => first | k_is | k_exc | rfl | decide +kernel)
    (case hsE_BadHue => first | k_is | k_exc | rfl | decide +kernel)
    (case hdE_BadHue => first | k_is | k_exc | rfl | decide +kernel)
    (case haE_BadHue => first | k_is | k_exc | rfl | decide +kernel)
    (case hmE_BadHue => first | k_is | k_exc | rfl | decide +kernel)
    (case hgE_NotFree => first | k_is | k_exc | rfl | decide +kernel)
    (case hkE_NotFree => first | k_is | k_exc | rfl | decide +kernel)
    (case hsE_NotFree => first | k_is | k_exc | rfl | decide +kernel)
    (case hdE_NotFree => first | k_is | k_exc | rfl | decide +kernel)
    (case haE_NotFree => first | k_is | k_exc | rfl | decide +kernel)
    (case hmE_NotFree => first | k_is | k_exc | rfl | decide +kernel)
    (case i_BadCount_BadCount => first | kit_is | k_is | rfl | decide +kernel)
    (case i_BadCount_BadSide => first | kit_is | k_is | rfl | decide +kernel)
    (case i_BadCount_BadEnd => first | kit_is | k_is | rfl | decide +kernel)
    (case i_BadCount_TooMany => first | kit_is | k_is | rfl | decide +kernel)
    (case i_BadCount_NoPair => first | kit_is | k_is | rfl | decide +kernel)
    (case i_BadCount_BadHue => first | kit_is | k_is | rfl | decide +kernel)
    (case i_BadCount_NotFree => first | kit_is | k_is | rfl | decide +kernel)
    (case i_BadCount_BadLine => first | kit_is | k_is | rfl | decide +kernel)
    (case i_BadSide_BadCount => first | kit_is | k_is | rfl | decide +kernel)
    (case i_BadSide_BadSide => first | kit_is | k_is | rfl | decide +kernel)
    (case i_BadSide_BadEnd => first | kit_is | k_is | rfl | decide +kernel)
    (case i_BadSide_TooMany => first | kit_is | k_is | rfl | decide +kernel)
    (case i_BadSide_NoPair => first | kit_is | k_is | rfl | decide +kernel)
    (case i_BadSide_BadHue => first | kit_is | k_is | rfl | decide +kernel)
    (case i_BadSide_NotFree => first | kit_is | k_is | rfl | decide +kernel)
    (case i_BadSide_BadLine => first | kit_is | k_is | rfl | decide +kernel)
    (case i_BadEnd_BadCount => first | kit_is | k_is | rfl | decide +kernel)
    (case i_BadEnd_BadSide => first | kit_is | k_is | rfl | decide +kernel)
    (case i_BadEnd_BadEnd => first | kit_is | k_is | rfl | decide +kernel)
    (case i_BadEnd_TooMany => first | kit_is | k_is | rfl | decide +kernel)
    (case i_BadEnd_NoPair => first | kit_is | k_is | rfl | decide +kernel)
    (case i_BadEnd_BadHue => first | kit_is | k_is | rfl | decide +kernel)
    (case i_BadEnd_NotFree => first | kit_is | k_is | rfl | decide +kernel)
    (case i_BadEnd_BadLine => first | kit_is | k_is | rfl | decide +kernel)
    (case i_TooMany_BadCount => first | kit_is | k_is | rfl | decide +kernel)
    (case i_TooMany_BadSide => first | kit_is | k_is | rfl | decide +kernel)
    (case i_TooMany_BadEnd => first | kit_is | k_is | rfl | decide +kernel)
    (case i_TooMany_TooMany => first | kit_is | k_is | rfl | decide +kernel)
    (case i_TooMany_NoPair => first | kit_is | k_is | rfl | decide +kernel)
    (case i_TooMany_BadHue => first | kit_is | k_is | rfl | decide +kernel)
    (case i_TooMany_NotFree => first | kit_is | k_is | rfl | decide +kernel)
    (case i_TooMany_BadLine => first | kit_is | k_is | rfl | decide +kernel)
    (case i_NoPair_BadCount => first | kit_is | k_is | rfl | decide +kernel)
    (case i_NoPair_BadSide => first | kit_is | k_is | rfl | decide +kernel)
    (case i_NoPair_BadEnd => first | kit_is | k_is | rfl | decide +kernel)
    (case i_NoPair_TooMany => first | kit_is | k_is | rfl | decide +kernel)
    (case i_NoPair_NoPair => first | kit_is | k_is | rfl | decide +kernel)
    (case i_NoPair_BadHue => first | kit_is | k_is | rfl | decide +kernel)
    (case i_NoPair_NotFree => first | kit_is | k_is | rfl | decide +kernel)
    (case i_NoPair_BadLine => first | kit_is | k_is | rfl | decide +kernel)
    (case i_BadHue_BadCount => first | kit_is | k_is | rfl | decide +kernel)
    (case i_BadHue_BadSide => first | kit_is | k_is | rfl | decide +kernel)
    (case i_BadHue_BadEnd => first | kit_is | k_is | rfl | decide +kernel)
    (case i_BadHue_TooMany => first | kit_is | k_is | rfl | decide +kernel)
    (case i_BadHue_NoPair => first | kit_is | k_is | rfl | decide +kernel)
    (case i_BadHue_BadHue => first | kit_is | k_is | rfl | decide +kernel)
    (case i_BadHue_NotFree => first | kit_is | k_is | rfl | decide +kernel)
    (case i_BadHue_BadLine => first | kit_is | k_is | rfl | decide +kernel)
    (case i_NotFree_BadCount => first | kit_is | k_is | rfl | decide +kernel)
    (case i_NotFree_BadSide => first | kit_is | k_is | rfl | decide +kernel)
    (case i_NotFree_BadEnd => first | kit_is | k_is | rfl | decide +kernel)
    (case i_NotFree_TooMany => first | kit_is | k_is | rfl | decide +kernel)
    (case i_NotFree_NoPair => first | kit_is | k_is | rfl | decide +kernel)
    (case i_NotFree_BadHue => first | kit_is | k_is | rfl | decide +kernel)
    (case i_NotFree_NotFree => first | kit_is | k_is | rfl | decide +kernel)
    (case i_NotFree_BadLine => first | kit_is | k_is | rfl | decide +kernel)
    (case i_BadCount_ValueError => first | kit_is | k_is | rfl | decide +kernel)
    (case i_BadSide_ValueError => first | kit_is | k_is | rfl | decide +kernel)
    (case i_BadEnd_ValueError => first | kit_is | k_is | rfl | decide +kernel)
    (case i_TooMany_ValueError => first | kit_is | k_is | rfl | decide +kernel)
    (case i_NoPair_ValueError => first | kit_is | k_is | rfl | decide +kernel)
    (case i_BadHue_ValueError => first | kit_is | k_is | rfl | decide +kernel)
    (case i_NotFree_ValueError => first | kit_is | k_is | rfl | decide +kernel)
    (case r_c => first | k_is | k_exc | rfl | decide +kernel)
    (case r_n => first | k_is | k_exc | rfl | decide +kernel)
    (case r_t => first | k_is | k_exc | rfl | decide +kernel)
    (case r_m => first | k_is | k_exc | rfl | decide +kernel)
    (case r_k => first | kit_is | k_is | rfl | decide +kernel)
    (case e_BadCount_PairError => first | rfl | decide +kernel | k_exc)
    (case e_BadSide_PairError => first | rfl | decide +kernel | k_exc)
    (case e_BadEnd_PairError => first | rfl | decide +kernel | k_exc)
    (case e_TooMany_PairError => first | rfl | decide +kernel | k_exc)
    (case e_NoPair_PairError => first | rfl | decide +kernel | k_exc)
    (case e_BadHue_PairError => first | rfl | decide +kernel | k_exc)
    (case e_NotFree_PairError => first | rfl | decide +kernel | k_exc)
    (case lc => k_is)
    (case vc => rfl)
    (case cHd => first | k_is | rfl | decide +kernel)
    (case hin => first | exact List.mem_singleton.mpr rfl | decide)
    (case no => rfl)
