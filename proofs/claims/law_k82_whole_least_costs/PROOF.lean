import PyProof.Rows.All
import Wide.All
import OpenK.AllK
import Wide.FinOn
import HandS.Comp
import HandS.AnyAll
import HandS.GenList
import HandS.EndTab
import HandS.ForMost
import HandS.IsInst
import HandS.TupAny
import HandS.Zip
import HandS.TupSets
import HandS.Deep
import HandS.DictTup
import HandS.List
import KE.DataMinMax
import HandS.TupMul
import HandS.TupLen
import HandS.Conv
import HandS.SetFor
import HandS.Dict
import KE.SortData
import HandS.Iter
import KE.GoesMore
import PyProof.EnumMake
import HandS.Walk
import HandS.EndOwn
import PySem.Challenge.RW_templates_k82_whole_least_costs
set_option Elab.async false
set_option linter.all false
set_option maxRecDepth 100000
set_option maxHeartbeats 4000000
/-! all(test for x in walk), any(test for x in walk): the element any expression that raises nothing. -/
namespace GA
open PySem PySem.Spec PyProof.Rows L2

/-- woken again: all objects kept -/
structure Wok (s s' : Shared) : Prop where
  os : s'.os = s.os
  bare : AllBare s'.gens
  keep : ∀ b o, s.heap.get? b = some o → s'.heap.get? b = some o
/-- an item is handed out: true goes on, false ends (for all); the other way round for any -/
def YA (st : Bool) (R : Bool → Shared → Prop) (a g : Nat) : Protocol := fun _ _ v s kap =>
  s.heap.NoLimit ∧ AllBare s.gens ∧ s.heap.IsGen a g ∧ ∃ b : Bool, v = .bool b ∧ (b ≠ st → ∀ s', Wok s s' → kap (.send .none) s') ∧ (b = st → ∀ s', Wok s s' → R st s')
def RA (st : Bool) (R : Bool → Shared → Prop) : Nat → Shared → Shared → Prop := fun _ _ s => AllBare s.gens ∧ ∀ s', Wok s s' → R (!st) s'

section
variable {P : Program} {w : World} {A : Around} {R : Bool → Shared → Prop} {R' : Result → Shared → Prop} {a : Addr} {g : Nat}
theorem all_loop (hh : A.handled = none) (hd : A.depth < recursionLimit) (hR : ∀ b s, R b s → R' (.ok (.ret (.bool b))) s) :
    ∀ (m : Nat) (s : Shared), s.heap.IsGen a g → s.heap.NoLimit →
      (∃ gs, s.gens[g]? = some gs ∧ gs.Goes (model P w) A.in1.in1 (fun n s₀ r s₁ => r = .ok .next ∧ RA false R n s₀ s₁) (YA false R a g) m (.send .none) (s.setGen g .running)) →
      codeAny (model P w) A (.builtin "all.loop" ⟨[.ref a], []⟩) R' s := by
  intro m
  induction m with
  | zero =>
    intro s hg hl ⟨gs, hgs, hgo⟩
    refine codeAny_builtin F.entry_all_loop ?_
    rw [Around.under_plainId F.plain_all_loop _]
    show wpAny _ A.in1 (pyNext (.ref a) >>= _) _ _ s
    refine wpAny_bind (wpAny_pyNext_genexpQ (A := A.in1) hh hl hd hg hgs hgo (fun v s₁ gs' hb hv => ?_) fun s₁ hp h' hk => ?_)
    · obtain ⟨hl1, hb1, hg1, b, rfl, ht, hf⟩ := hv
      cases b with
      | true => exact (ht (by decide) s₁ ⟨rfl, hb1, fun _ _ e => e⟩).elim
      | false =>
        refine wpAny_bind (wpAny_holding (wpAny_truthy_bool ?_))
        refine wpAny_bind (wpAny_letGo ?_)
        simp only [Bool.false_eq_true, if_false]
        exact wpAny_bind (wpAny_rule (wpAny_pure (hR _ _ (hf rfl _ ⟨rfl, allBare_setGen hb1 hb, fun _ _ e => e⟩))))
    · obtain ⟨hb1, hq⟩ := hp
      exact wpAny_bind (wpAny_rule (wpAny_pure (hR _ _ (hq _ ⟨rfl, allBare_setGen (s := s₁) hb1 rfl, hk⟩))))
  | succ m ih =>
    intro s hg hl ⟨gs, hgs, hgo⟩
    have hgl : g < s.gens.size := (Array.getElem?_eq_some_iff.mp hgs).1
    refine codeAny_builtin F.entry_all_loop ?_
    rw [Around.under_plainId F.plain_all_loop _]
    show wpAny _ A.in1 (pyNext (.ref a) >>= _) _ _ s
    refine wpAny_bind (GenW.wpAny_gsz (n := g + 1) hgl (wpAny_pyNext_genexpQ (A := A.in1) hh hl hd hg hgs hgo (fun v s₁ gs' hb hv => ?_) fun s₁ hp h' hk => ?_))
    · intro hsz
      obtain ⟨hl1, hb1, hg1, b, rfl, ht, hf⟩ := hv
      refine wpAny_bind (wpAny_holding (wpAny_truthy_bool ?_))
      refine wpAny_bind (wpAny_letGo ?_)
      cases b with
      | true =>
        simp only [if_true]
        have hsz1 : g < s₁.gens.size := by
          have q : (s₁.setGen g gs').gens.size = s₁.gens.size := GenW.setGen_size _ _ _
          have hsz' : g + 1 ≤ (s₁.setGen g gs').gens.size := hsz
          omega
        refine wpAny_pure ⟨plainId_quiet F.plain_all_loop _, ih (s₁.setGen g gs') hg1 hl1 ⟨gs', setGen_at hsz1, ?_⟩⟩
        exact ht (by decide) _ ⟨rfl, allBare_setGen (s := s₁.setGen g gs') (allBare_setGen hb1 hb) rfl, fun _ _ e => e⟩
      | false =>
        simp only [Bool.false_eq_true, if_false]
        exact wpAny_bind (wpAny_rule (wpAny_pure (hR _ _ (hf rfl _ ⟨rfl, allBare_setGen hb1 hb, fun _ _ e => e⟩))))
    · intro hsz
      obtain ⟨hb1, hq⟩ := hp
      exact wpAny_bind (wpAny_rule (wpAny_pure (hR _ _ (hq _ ⟨rfl, allBare_setGen (s := s₁) hb1 rfl, hk⟩))))
theorem any_loop (hh : A.handled = none) (hd : A.depth < recursionLimit) (hR : ∀ b s, R b s → R' (.ok (.ret (.bool b))) s) :
    ∀ (m : Nat) (s : Shared), s.heap.IsGen a g → s.heap.NoLimit →
      (∃ gs, s.gens[g]? = some gs ∧ gs.Goes (model P w) A.in1.in1 (fun n s₀ r s₁ => r = .ok .next ∧ RA true R n s₀ s₁) (YA true R a g) m (.send .none) (s.setGen g .running)) →
      codeAny (model P w) A (.builtin "any.loop" ⟨[.ref a], []⟩) R' s := by
  intro m
  induction m with
  | zero =>
    intro s hg hl ⟨gs, hgs, hgo⟩
    refine codeAny_builtin F.entry_any_loop ?_
    rw [Around.under_plainId F.plain_any_loop _]
    show wpAny _ A.in1 (pyNext (.ref a) >>= _) _ _ s
    refine wpAny_bind (wpAny_pyNext_genexpQ (A := A.in1) hh hl hd hg hgs hgo (fun v s₁ gs' hb hv => ?_) fun s₁ hp h' hk => ?_)
    · obtain ⟨hl1, hb1, hg1, b, rfl, ht, hf⟩ := hv
      cases b with
      | false => exact (ht (by decide) s₁ ⟨rfl, hb1, fun _ _ e => e⟩).elim
      | true =>
        refine wpAny_bind (wpAny_holding (wpAny_truthy_bool ?_))
        refine wpAny_bind (wpAny_letGo ?_)
        simp only [if_true]
        exact wpAny_bind (wpAny_rule (wpAny_pure (hR _ _ (hf rfl _ ⟨rfl, allBare_setGen hb1 hb, fun _ _ e => e⟩))))
    · obtain ⟨hb1, hq⟩ := hp
      exact wpAny_bind (wpAny_rule (wpAny_pure (hR _ _ (hq _ ⟨rfl, allBare_setGen (s := s₁) hb1 rfl, hk⟩))))
  | succ m ih =>
    intro s hg hl ⟨gs, hgs, hgo⟩
    have hgl : g < s.gens.size := (Array.getElem?_eq_some_iff.mp hgs).1
    refine codeAny_builtin F.entry_any_loop ?_
    rw [Around.under_plainId F.plain_any_loop _]
    show wpAny _ A.in1 (pyNext (.ref a) >>= _) _ _ s
    refine wpAny_bind (GenW.wpAny_gsz (n := g + 1) hgl (wpAny_pyNext_genexpQ (A := A.in1) hh hl hd hg hgs hgo (fun v s₁ gs' hb hv => ?_) fun s₁ hp h' hk => ?_))
    · intro hsz
      obtain ⟨hl1, hb1, hg1, b, rfl, ht, hf⟩ := hv
      refine wpAny_bind (wpAny_holding (wpAny_truthy_bool ?_))
      refine wpAny_bind (wpAny_letGo ?_)
      cases b with
      | false =>
        simp only [Bool.false_eq_true, if_false]
        have hsz1 : g < s₁.gens.size := by
          have q : (s₁.setGen g gs').gens.size = s₁.gens.size := GenW.setGen_size _ _ _
          have hsz' : g + 1 ≤ (s₁.setGen g gs').gens.size := hsz
          omega
        refine wpAny_pure ⟨plainId_quiet F.plain_any_loop _, ih (s₁.setGen g gs') hg1 hl1 ⟨gs', setGen_at hsz1, ?_⟩⟩
        exact ht (by decide) _ ⟨rfl, allBare_setGen (s := s₁.setGen g gs') (allBare_setGen hb1 hb) rfl, fun _ _ e => e⟩
      | true =>
        simp only [if_true]
        exact wpAny_bind (wpAny_rule (wpAny_pure (hR _ _ (hf rfl _ ⟨rfl, allBare_setGen hb1 hb, fun _ _ e => e⟩))))
    · intro hsz
      obtain ⟨hb1, hq⟩ := hp
      exact wpAny_bind (wpAny_rule (wpAny_pure (hR _ _ (hq _ ⟨rfl, allBare_setGen (s := s₁) hb1 rfl, hk⟩))))
end

/-! ### the generator's own context -/
/-- a generator expression's names: its own, captured ones. M: the slots within: those of N (a name that it has itself is renamed there), then its own x -/
structure GNames (N M : List Str) (sc scope : Scope) (x : Str) : Prop where
  kind : scope.kind = .function
  co : scope.isCoroutine = false
  cell : ∀ y ∈ scope.names, y.2 ≠ .cell
  dot : scope.names.lookup (".0" : Str) = some NameKind.local
  loc : scope.names.lookup x = some .local
  len : M.length = N.length + 1
  last : M[N.length]? = some x
  nd : M.Nodup
  old : ∀ (i : Nat) y, i < N.length → M[i]? = some y → N[i]? = some y ∨ scope.names.lookup y = none
  own : ∀ y ∈ scope.names, y.2 = .local → y.1 = x ∨ y.1 ∉ M
  free : ∀ y ∈ scope.names, y.2 = .free → sc.names.lookup y.1 = some .cell ∨ sc.names.lookup y.1 = some .free
def gNamesB (N M : List Str) (sc scope : Scope) (x : Str) : Bool :=
  decide (scope.kind = .function) && !scope.isCoroutine && decide (scope.names.lookup (".0" : Str) = some NameKind.local) && decide (scope.names.lookup x = some NameKind.local) &&
  decide (M.length = N.length + 1) && decide (M[N.length]? = some x) && decide M.Nodup && ((List.range N.length).all fun i => decide (M[i]? = N[i]?) || (match M[i]? with | some y => decide (scope.names.lookup y = none) | none => true)) &&
  scope.names.all fun y => !decide (y.2 = .cell) && (!decide (y.2 = .local) || decide (y.1 = x) || !M.contains y.1) && (!decide (y.2 = .free) || decide (sc.names.lookup y.1 = some .cell) || decide (sc.names.lookup y.1 = some .free))
theorem gNames_by {N M : List Str} {sc scope : Scope} {x : Str} (h : gNamesB N M sc scope x = true) : GNames N M sc scope x := by
  unfold gNamesB at h
  simp only [Bool.and_eq_true, Bool.or_eq_true, Bool.not_eq_true', decide_eq_true_eq, decide_eq_false_iff_not, List.all_eq_true, List.contains_eq_mem, List.mem_range] at h
  obtain ⟨⟨⟨⟨⟨⟨⟨⟨h1, h2⟩, h3⟩, h4⟩, h5⟩, h7⟩, h8⟩, h9⟩, h6⟩ := h
  refine ⟨h1, h2, fun y hy => (h6 y hy).1.1, h3, h4, h5, h7, h8, fun i y hi e => ?_, fun y hy e => ?_, fun y hy e => ?_⟩
  · rcases h9 i hi with z | z
    · exact .inl (z ▸ e)
    · rw [e] at z
      exact .inr (of_decide_eq_true z)
  · rcases (h6 y hy).1.2 with (z | z) | z
    · exact absurd e z
    · exact .inl z
    · exact .inr z
  · rcases (h6 y hy).2 with (z | z) | z
    · exact absurd e z
    · exact .inl z
    · exact .inr z
abbrev gnv (X : Cx) (scope : Scope) (C : Addr) (code : Value) : Env := genEnv scope (cloFrom X.env.cells scope.names []) C code builtinsNs X.env
/-- the context of the element -/
def gcx (X : Cx) (A : Around) (s : Shared) (H : Hp) (env : Env) (M : List Str) (fp : List Addr) (pn : List (Addr × Obj)) : Cx :=
  { X with A := A, N := M, s_0 := s, H_0 := H, env := env, outer := X.stack, stack := env :: X.stack, ex := fp, fn := fun _ => false, calm := true, pn := pn, xe := fun _ _ => False }
section
variable {X : Cx} {pins : List (Addr × Obj)} {σ : L2.St} {H : Hp} {s : Shared}
theorem GNames.has {M : List Str} {scope : Scope} {x : Str} (L : GNames X.N M X.env.scope scope x) (ok : X.Ok) : ∀ y ∈ scope.names, y.2 = .free → ∃ c, X.env.cells.lookup y.1 = some c := fun y hy e => by
  rcases L.free y hy e with k | k
  · exact ok.has _ (.inl k)
  · exact ok.has _ (.inr k)
theorem gstart {A : Around} {M : List Str} {scope : Scope} {x : Str} {code itv : Value} {fp : List Addr} {pn : List (Addr × Obj)} {h5 : Heap} {g5 : Array GenState} {t5 : Nat} (I : Inv X pins σ H s) (L : GNames X.N M X.env.scope scope x) (hd : A.handled = none)
    (hfr : A.frames = some (gnv X scope s.heap.objs.size code :: X.stack)) (hfp : ∀ b ∈ fp, FpOk X pins H b ∧ b < s.heap.objs.size) (kp : ∀ b o, s.heap.get? b = some o → h5.get? b = some o)
    (hns : h5.Ns s.heap.objs.size (fun y => if y = ".0" then some itv else none)) (hb : AllBare g5) (hpn : ∀ p ∈ pn, h5.get? p.1 = some p.2 ∧ H p.1 = none ∧ p.1 ≠ s.heap.objs.size ∧ p.1 ∉ frs X.stack ∧ ∀ v, p.2.data ≠ .cell v) :
    Inv (gcx X A s H (gnv X scope s.heap.objs.size code) M fp pn) [] (σ ++ [none]) H { s with heap := h5, gens := g5, toks := t5 } := by
  have hfree := L.has I.ok
  have cm : ∀ {y c}, (cloFrom X.env.cells scope.names []).lookup y = some c → X.env.cells.lookup y = some c := fun {y c} e => by
    rcases cloFrom_mem (PySem.mem_of_lookup e) with hm | ⟨h1, h2⟩
    · cases hm
    · obtain ⟨c1, hc⟩ := hfree _ h1 rfl
      have hc : X.env.cells.lookup y = some c1 := hc
      have e2 : c = c1 := by
        rw [h2, hc] <;> rfl
      rw [e2]
      exact hc
  have look : ∀ {y}, scope.names.lookup y = some .free → ∃ c, (cloFrom X.env.cells scope.names []).lookup y = some c := fun {y} hl => by
    have hy : (y, NameKind.free) ∈ scope.names := PySem.mem_of_lookup hl
    exact mem_lookup (cloFrom_has (cells := X.env.cells) (acc := []) hy)
  have ltC : ∀ {y c}, X.env.cells.lookup y = some c → c < s.heap.objs.size := fun {y c} e => let ⟨_, z⟩ := I.cell y c e; z.lt
  refine ⟨⟨I.ok.mod, L.kind, I.ok.glob, rfl, Nat.le_refl _, fun y z c e1 e2 => I.ok.inj y z c (cm e1) (cm e2), fun y hy => ?_, fun y c z _ => ?_, fun _ => hd, hfr, .inr ⟨rfl, rfl⟩, fun b hb => ⟨?_, fun y c e z => ?_⟩, I.bs, Nat.le_trans I.ok.bsz I.sz, fun b o e hb => ?_, fun b hb z => ?_, I.stack, I.stkFree⟩,
    rfl, hb, Un.kept kp, ⟨_, hns, fun i y v e1 e2 e3 => ?_⟩, fun y c e => ?_, I.hok.fresh (Nat.le_refl _), fun y c e => I.freeC y c (cm e), fun p hp => ?_, I.hok.kept kp, ?_⟩
  · have hy : scope.names.lookup y = some .cell ∨ scope.names.lookup y = some .free := hy
    rcases hy with hy | hy
    · exact absurd rfl (L.cell _ (PySem.mem_of_lookup hy))
    · exact look hy
  · have z : false = true := z
    cases z
  · exact Nat.ne_of_lt (hfp b hb).2
  · exact (hfp b hb).1.2.2.2.2.1 y c (cm e) z
  · rcases (hfp b hb).1.2.2.2.1 with z | z
    · exact I.ok.noex b o e z
    · exact absurd (Nat.lt_of_lt_of_le (Heap.lt_size e) (Nat.le_trans I.ok.bsz z)) (Nat.lt_irrefl _)
  · rcases List.mem_cons.mp (I.stkSub b z) with z | z
    · exact (hfp b hb).1.2.1 z
    · exact (hfp b hb).1.2.2.1 z
  · have e2 : (σ ++ [none])[i]? = some (some v) := e2
    have e1 : M[i]? = some y := e1
    have hi : i < σ.length := by
      by_cases hi : i < σ.length
      · exact hi
      · rw [List.getElem?_append_right (by omega)] at e2
        cases q : i - σ.length with
        | zero => rw [q] at e2; cases e2
        | succ n => rw [q] at e2; cases e2
    rw [List.getElem?_append_left hi] at e2
    have e3 : Vis scope y := e3
    have hiN : i < X.N.length := by rw [← I.len]; exact hi
    have hfree : scope.names.lookup y = some .free := by
      rcases e3 with k | k | k
      · rcases L.own _ (PySem.mem_of_lookup k) rfl with z | z
        · have z : y = x := z
          subst z
          exact absurd (nodup_ix L.nd e1 L.last) (Nat.ne_of_lt hiN)
        · exact absurd (List.mem_of_getElem? e1) z
      · exact absurd rfl (L.cell _ (PySem.mem_of_lookup k))
      · exact k
    have e1 : X.N[i]? = some y := (L.old i y hiN e1).elim id fun z => by rw [z] at hfree; cases hfree
    obtain ⟨m, hn, hl⟩ := I.loc
    have hvis : Vis X.env.scope y := (L.free _ (PySem.mem_of_lookup hfree) rfl).elim (fun k => .inr (.inl k)) (fun k => .inr (.inr k))
    obtain ⟨w', r, q⟩ := hl i y v e1 e2 hvis
    obtain ⟨c2, h2⟩ := look hfree
    refine ⟨w', r, .inr ⟨.inr hfree, c2, h2, ?_⟩⟩
    have c1 := cm h2
    rcases q with ⟨k', _⟩ | ⟨_, c3, e', z⟩
    · have k' : X.env.scope.names.lookup y = some .local := k'
      rcases L.free _ (PySem.mem_of_lookup hfree) rfl with k2 | k2 <;> rw [show X.env.scope.names.lookup y = _ from k2] at k' <;> cases k'
    · rw [c1] at e'
      cases e'
      exact z.keeps kp
  · obtain ⟨w', z⟩ := I.cell y c (cm e)
    exact ⟨w', z.keeps kp⟩
  · rcases List.mem_append.mp hp with hp | hp
    · exact hpn p hp
    · cases hp
  · show (σ ++ [none]).length = M.length
    rw [List.length_append, I.len, L.len]
    rfl

theorem Inv.wok {s' : Shared} (I : Inv X pins σ H s) (h : Wok s s') : Inv X pins σ H s' :=
  I.call' (ch := []) h.os (Un.kept h.keep) (I.hok.kept h.keep) h.bare fun b z => by simp at z
end

/-! ### the loop -/
/-- what is asked of the walk and of the element: st: the answer that ends it (false for all, true for any) -/
structure Asks (st : Bool) (J : It) (n : Nat) (telt : TE) (σ : L2.St) (W : Nat → Hp → Prop) (Qb : Bool → Hp → Prop) : Prop where
  turn : ∀ i H, i < n → W i H → J.go i H ∧ ∀ x H', J.yld i H x H' → telt (σ ++ [some x]) H' fun v H'' => ∃ b, v = .bl b ∧ (b ≠ st → W (i + 1) H'') ∧ (b = st → Qb st H'')
  stop : ∀ H, W n H → J.stop n H ∧ Qb (!st) H
theorem seg_loop {X : Cx} {A : Around} {sz : Shared} {Hz : Hp} {code : Value} {M : List Str} {scope : Scope} {x : Str} {px : Pos} {fp : List Addr} {pn : List (Addr × Obj)} {a g : Addr} {it : Addr} {tn : Nat → Heap → Prop} {J : It} {elt iter : Expr} {gpos : Pos} {telt : TE} {σ : L2.St}
    {W : Nat → Hp → Prop} {R : Bool → Shared → Prop} {QH : Bool → Hp → Prop} {st : Bool} {n : Nat} (L : GNames X.N M X.env.scope scope x) (hσ : σ.length = X.N.length) (hh : A.handled = none)
    (T : Turn X.prog X.w X.K (.Name x px) J fp it tn) (hpf : ∀ p ∈ pn, p.1 ∉ fp) (hgen : ∃ go, (a, go) ∈ pn ∧ ∀ h : Heap, h.get? a = some go → h.IsGen a g)
    (he : PE (gcx X (A.over (.compLoop (.GeneratorExp elt [⟨.Name x px, iter, [], 0⟩] scope gpos) 0 (.ref it) .none (gnv X scope sz.heap.objs.size code)) []) sz Hz (gnv X scope sz.heap.objs.size code) M fp pn) elt telt)
    (hq : Asks st J n telt σ W QH)
    (hR : ∀ b σ' H s s', Inv (gcx X (A.over (.compLoop (.GeneratorExp elt [⟨.Name x px, iter, [], 0⟩] scope gpos) 0 (.ref it) .none (gnv X scope sz.heap.objs.size code)) []) sz Hz (gnv X scope sz.heap.objs.size code) M fp pn) [] σ' H s → QH b H → Wok s s' → R b s') :
    ∀ (k i : Nat) (s₀ s : Shared) (y : Option V) (H : Hp), n - i = k → i ≤ n → Inv (gcx X (A.over (.compLoop (.GeneratorExp elt [⟨.Name x px, iter, [], 0⟩] scope gpos) 0 (.ref it) .none (gnv X scope sz.heap.objs.size code)) []) sz Hz (gnv X scope sz.heap.objs.size code) M fp pn) [] (σ ++ [y]) H s →
      tn i s.heap → (∀ b ∈ fp, H b = none) → W i H →
      Seg (model X.prog X.w) A (fun n s₀ r s₁ => r = .ok .next ∧ RA st R n s₀ s₁) (YA st R a g) k s₀
        (.compLoop (.GeneratorExp elt [⟨.Name x px, iter, [], 0⟩] scope gpos) 0 (.ref it) .none (gnv X scope sz.heap.objs.size code))
        ((model X.prog X.w).den (.compLoop (.GeneratorExp elt [⟨.Name x px, iter, [], 0⟩] scope gpos) 0 (.ref it) .none (gnv X scope sz.heap.objs.size code))) [] s := by
  generalize hcode : (Code.compLoop (.GeneratorExp elt [⟨.Name x px, iter, [], 0⟩] scope gpos) 0 (.ref it) .none (gnv X scope sz.heap.objs.size code)) = cd at *
  generalize hG : gcx X (A.over cd []) sz Hz (gnv X scope sz.heap.objs.size code) M fp pn = G at *
  have gp : G.prog = X.prog := by rw [← hG]; rfl
  have gw : G.w = X.w := by rw [← hG]; rfl
  have gK : G.K = X.K := by rw [← hG]; rfl
  have gA : G.A = A.over cd [] := by rw [← hG]; rfl
  have gc : G.calm = true := by rw [← hG]; rfl
  have gN : G.N = M := by rw [← hG]; rfl
  have gE : G.env = gnv X scope sz.heap.objs.size code := by rw [← hG]; rfl
  have gex : G.ex = fp := by rw [← hG]; rfl
  have gpn : G.pn = pn := by rw [← hG]; rfl
  have gxe : ∀ e s, ¬ G.xe e s := by rw [← hG]; exact fun _ _ h => h
  have stat : ∀ {s : Shared} {σ' : L2.St} {H : Hp}, Inv G [] σ' H s → (∀ b ∈ fp, H b = none) → ∀ b ∈ fp, FpOk G [] H b := fun {s σ' H} I hn b hb => by
    have hb' : b ∈ G.ex := by rw [gex]; exact hb
    refine ⟨hn b hb, (I.ok.exf b hb').1, I.ok.exfs b hb', .inl hb', (I.ok.exf b hb').2, fun p hp z => ?_⟩
    rcases List.mem_append.mp hp with hp | hp
    · rw [gpn] at hp
      exact hpf p hp (by rw [z]; exact hb)
    · cases hp
  have isg : ∀ {s : Shared} {σ' : L2.St} {H : Hp} {pl : List (Addr × Obj)}, Inv G pl σ' H s → s.heap.IsGen a g := fun {s σ' H pl} I => by
    obtain ⟨go, hm, hh⟩ := hgen
    exact hh _ (I.pin (a, go) (List.mem_append_left _ (by rw [gpn]; exact hm))).1
  intro k
  induction k with
  | zero =>
    intro i s₀ s y H hk hi I ht hf hw
    have hin : i = n := by omega
    subst hin
    obtain ⟨hstop, hq1⟩ := hq.stop H hw
    subst hcode
    show Seg _ A _ _ _ s₀ _ ((compTurn (.GeneratorExp elt [⟨.Name x px, iter, [], 0⟩] scope gpos) 0 (.ref it) .none (gnv X scope sz.heap.objs.size code)).onRaise (leaving (gnv X scope sz.heap.objs.size code))) [] s
    rw [compTurn_gen, Sem.onRaise_eq_wrap]
    refine seg_bind_wrap (wpAny_standAt ?_)
    have hd := T.done G gp gw gK gc i [] s (σ ++ [y]) H (fun _ _ => False) I (stat I hf) ht hstop
    rw [gA] at hd
    refine seg_bind_wrap (wpAny_mono hd (fun r s1 ⟨hr, I1⟩ => ?_) fun _ _ z => z.elim)
    subst hr
    exact seg_end (.ok .next) ⟨rfl, I1.bare, fun s' hs' => hR _ _ _ _ _ I1 hq1 hs'⟩
  | succ k ih =>
    intro i s₀ s y H hk hi I ht hf hw
    have hlt : i < n := by omega
    obtain ⟨hgo, hturn⟩ := hq.turn i H hlt hw
    have hcode' := hcode
    subst hcode
    show Seg _ A _ _ _ s₀ _ ((compTurn (.GeneratorExp elt [⟨.Name x px, iter, [], 0⟩] scope gpos) 0 (.ref it) .none (gnv X scope sz.heap.objs.size code)).onRaise (leaving (gnv X scope sz.heap.objs.size code))) [] s
    rw [compTurn_gen, Sem.onRaise_eq_wrap]
    refine seg_bind_wrap (wpAny_standAt ?_)
    have hd := T.item G gp gw gK gc i [] s (σ ++ [y]) H (fun _ _ => False) I (stat I hf) ht hgo
    rw [gA] at hd
    refine seg_bind_wrap (wpAny_mono hd (fun r s1 ⟨u, hr, hlet⟩ => ?_) fun _ _ z => z.elim)
    subst hr
    refine seg_bind_wrap (wpAny_mono hlet (fun _ s2 ⟨x1, H2, I2, rv, hy, ht2, hf2⟩ => ?_) fun _ _ z => z.elim)
    have hix : G.N[X.N.length]? = some x := by rw [gN]; exact L.last
    have hnd : G.N.Nodup := by rw [gN]; exact L.nd
    have hlc : G.env.scope.names.lookup x = some .local := by rw [gE]; exact L.loc
    have hst := store_ok2 (M := model X.prog X.w) (A := A.over (.compLoop (.GeneratorExp elt [⟨.Name x px, iter, [], 0⟩] scope gpos) 0 (.ref it) .none (gnv X scope sz.heap.objs.size code)) []) (E := fun _ _ => False) (Q := fun _ s3 => ∃ H2', H2' = H2 ∧ Inv G [] ((σ ++ [y]).set X.N.length (some x1)) H2' s3 ∧ tn (i + 1) s3.heap) I2 hnd hix (.inl hlc) rv (fun s3 I3 hsb => by
      obtain ⟨b, hb, hbe⟩ := hsb
      refine ⟨H2, rfl, I3, T.keep _ _ _ ht2 fun c hc o e => (hb.2 c fun z => ?_).trans e⟩
      rcases hbe with q | q
      · exact (stat I2 hf2 c hc).2.1 (z.trans q)
      · exact (stat I2 hf2 c hc).2.2.2.2.1 x b q z.symm) (.inr hlc)
    rw [gE] at hst
    refine seg_bind_wrap (wpAny_assign_Name (wpAny_mono hst (fun _ s3 ⟨H3, e3, I3, ht3⟩ => ?_) fun _ _ z => z.elim))
    subst e3
    have hset : (σ ++ [y]).set X.N.length (some x1) = σ ++ [some x1] := by
      rw [← hσ, List.set_append_right _ _ (Nat.le_refl _), Nat.sub_self]
      rfl
    rw [hset] at I3
    simp only [List.forIn_nil]
    refine seg_bind_wrap (wpAny_pure ?_)
    simp only [if_true]
    have hyo : ∀ v, yieldOut (gnv X scope sz.heap.objs.size code) v = yieldValue v := fun v => by
      have hco : (gnv X scope sz.heap.objs.size code).scope.isCoroutine = false := L.co
      simp only [yieldOut, hco, Bool.false_eq_true, if_false]
    simp only [hyo]
    rw [Sem.bind_eq_wrap', Sem.bind_eq_wrap', Sem.wrap_wrap, Sem.wrap_wrap]
    have I3' := I3.pinned (stat I3 hf2) (T.obj _ _ ht3)
    have hrun := he.run _ s3 (σ ++ [some x1]) H3 _ I3' (hturn x1 H3 hy)
    rw [gA, gE, gp, gw] at hrun
    refine seg_wrap (wpAny_mono hrun (fun u4 s4 h4 => ?_) fun e s4 z => (gxe e s4 z).elim)
    obtain ⟨v4, H4, I4, r4, b, rfl, hgo4, hst4⟩ := h4
    have e4 : u4 = .bool b := r4
    subst e4
    have keep4 : ∀ c ∈ fp, ∀ o, s3.heap.get? c = some o → s4.heap.get? c = some o ∧ H4 c = none := fun c hc o e => by
      obtain ⟨q1, q2, _⟩ := I4.pin (c, o) (List.mem_append_right _ (List.mem_append_right _ (mem_pinsAt hc e)))
      exact ⟨q1, q2⟩
    have ht4 : tn (i + 1) s4.heap := T.keep _ _ _ ht3 fun c hc o e => (keep4 c hc o e).1
    have hf4 : ∀ c ∈ fp, H4 c = none := fun c hc => by
      obtain ⟨o, e, _⟩ := T.obj _ _ ht3 c hc
      exact (keep4 c hc o e).2
    refine seg_at (seg_yield rfl rfl rfl ⟨I4.nolimit, I4.bare, isg I4, b, rfl, fun hb s'' hw => ?_, fun hb s'' hw => ?_⟩)
    · refine seg_again rfl (ih (i + 1) s'' s'' (some x1) H4 (by omega) hlt (Inv.wok I4.unpinned hw) (T.keep _ _ _ ht4 fun c _ o e => hw.keep c o e) hf4 (hgo4 hb))
    · exact hR _ _ _ _ _ I4.unpinned (hst4 hb) hw

/-! ### the making -/
def Made (X : Cx) (pins : List (Addr × Obj)) (σ : L2.St) (k : Nat) (st : Bool) (Q : VK) (u : Value) (s5 : Shared) : Prop :=
  ∃ (a g : Addr) (n : Nat) (c : Code), u = .ref a ∧ s5.heap.IsGen a g ∧ s5.heap.NoLimit ∧ s5.gens[g]? = some (.fresh c) ∧
    ∀ A : Around, Room k A → A.frames = some X.stack → Seg (model X.prog X.w) A (fun n s₀ r s₁ => r = .ok .next ∧ RA st (fun b s' => ∃ H', Inv X pins σ H' s' ∧ Q (.bl b) H') n s₀ s₁)
      (YA st (fun b s' => ∃ H', Inv X pins σ H' s' ∧ Q (.bl b) H') a g) n (s5.setGen g .running) c ((model X.prog X.w).den c) [] (s5.setGen g .running)
theorem room_gen {k : Nat} {A : Around} {e : Expr} {it v : Value} {env : Env} (h : Room (k + 1) A) (hw : (Code.compLoop e 0 it v env).weight = 1 := by rfl) (hu : (Code.compLoop e 0 it v env).cUnits ≤ 3 := by exact Nat.le_of_eq rfl) : Room k (A.over (.compLoop e 0 it v env) []) := by
  refine ⟨h.hd, ?_, ?_⟩
  · have := h.dp
    show A.depth + frameCount [] + (Code.compLoop e 0 it v env).weight + 3 * k + 5 < _
    have e0 : frameCount [] = 0 := rfl
    omega
  · have := h.un
    show A.units + unitsOf [] + (Code.compLoop e 0 it v env).cUnits + 16 * k + 200 < _
    have e0 : unitsOf [] = 0 := rfl
    omega
/-- the reading: the walk; the table at P may have grown; then what the walk and the element are asked -/
def tGen (st : Bool) (P : Addr) (wi : TI) (telt : TE) : TE := fun σ H Q => wi σ H fun J H1 => GxR.TabG H1 P ∧ ∀ H2, GxR.Tabbed P H1 H2 → ∃ (n : Nat) (W : Nat → Hp → Prop), W 0 H2 ∧ Asks st J n telt σ W fun b H' => Q (.bl b) H'
section
variable {X : Cx} {pins : List (Addr × Obj)} {σ : L2.St} {H : Hp} {s : Shared}
theorem gen_made {c P : Addr} {elt iter : Expr} {x : Str} {M : List Str} {px gpos : Pos} {scope : Scope} {wi : TI} {telt : TE} {k : Nat} {st : Bool} {Q : VK} (hr : Room (k + 1) X.A) (TB : LamX.TabB X.base X.mg c P) (hcode : X.env.code = .ref c) (L : GNames X.N M X.env.scope scope x)
    (hi : PI X (.Name x px) iter wi) (hs : ∀ v, genFold iter X.env v = pure v) (he : ∀ (A : Around) (sz : Shared) (Hz : Hp) (C : Addr) (code : Value) (fp : List Addr) (pn : List (Addr × Obj)), Room k A → PE (gcx X A sz Hz (gnv X scope C code) M fp pn) elt telt)
    (I : Inv X pins σ H s) (h : tGen st P wi telt σ H Q) :
    wpAny (model X.prog X.w) X.A (eval (.GeneratorExp elt [⟨.Name x px, iter, [], 0⟩] scope gpos) X.env) (Made X pins σ (k + 1) st Q) X.xe s := by
  refine wpAny_GeneratorExp_make L.co (closure_ok (L.has I.ok)) L.cell L.dot L.kind hr.depth ?_ hs
  refine wpAny_mono (hi.run pins s σ H _ I h) (fun xv s1 h1 => wpAny_mono h1 (fun itv s2 h2 => ?_) fun _ _ z => z) fun _ _ z => z
  obtain ⟨it, fp, tn, J, H1, rfl, I2, T, ht, hf, ⟨ps, hP, htr⟩, hA⟩ := h2
  have hPs : s2.heap.get? P = some { cls := .none, data := .fields ps } := I2.hok P _ hP
  have hPlt : P < s2.heap.objs.size := Heap.lt_size hPs
  have cd : PySem.W.CodeHd s2.heap c P := TB.code.keeps fun b u e => I2.bk b u e
  refine ⟨I2.nolimit, ?_⟩
  have nt : ∀ b u, H1 b = some u → (∀ q, u ≠ .tbl q) → b ≠ P := fun b u e q z => by
    rw [z, hP] at e
    exact q ps (Option.some.inj e).symm
  have fpP : ∀ b ∈ fp, b ≠ P := fun b hb z => by
    have q := (hf b hb).1
    rw [z, hP] at q
    cases q
  have cont : ∀ (code : Value) (h3 : Heap) (tk : Nat) (ps' : Array Value), Heap.ExtBut P s2.heap h3 → s2.heap.objs.size ≤ h3.objs.size → h3.get? P = some { cls := .none, data := .fields ps' } → (∃ more, ps' = ps ++ more) → TriplesOk ps'.toList →
      wpAny (model X.prog X.w) X.A (builtinsFor X.env.globals X.env.builtins) (fun bi s₄ =>
        ∀ h', h'.Ns s₄.heap.objs.size (fun y => if y = ".0" then some (Value.ref it) else none) → Heap.SameBut s₄.heap.objs.size (s₄.heap.push { cls := .type "frame", data := .dict #[] }) h' →
          Made X pins σ (k + 1) st Q (.ref h'.objs.size) { s₄ with
            gens := s₄.gens.push (.fresh (.compStart (.GeneratorExp elt [⟨.Name x px, iter, [], 0⟩] scope gpos) 0 (.ref it) .none (genEnv scope (cloFrom X.env.cells scope.names []) s₄.heap.objs.size code bi X.env))),
            toks := s₄.toks + 1 + 1 + 1,
            heap := h'.push { cls := .type "generator", data := .fields #[.int s₄.gens.size 0, .str "<genexpr>" (s₄.toks + 1), .str (X.env.qual ++ "<genexpr>") (s₄.toks + 1 + 1)] } }) X.xe { s2 with heap := h3, toks := tk } := by
    intro code h3 tk ps' hx hsz hP3 hmore ht3
    obtain ⟨bm, ob, e1, e2, e3, e4, e5, e6, e7, e8⟩ := TB.bm
    have keep3 : ∀ b u, b ≠ P → s2.heap.get? b = some u → h3.get? b = some u := fun b u hb e => hx b u hb e
    refine wpAny_builtinsFor (m := X.mg) (by rw [I2.ok.glob]; exact (I2.mod.glob.keeps I2.bk).extBut hx TB.gP) e1 e2 (keep3 _ _ e4 (I2.bk _ _ e5)) e6 e7 e8 ?_
    obtain ⟨more, em⟩ := hmore
    have I4 : Inv X pins σ (upd H1 P (.tbl (ps ++ more))) { s2 with heap := h3, toks := tk } :=
      GxR.inv_tab (g' := s2.gens) (d' := s2.drawn) I2 hP keep3 (by rw [← em]; exact hP3) I2.bare
    have tb4 : GxR.Tabbed P H1 (upd H1 P (.tbl (ps ++ more))) := ⟨⟨ps ++ more, upd_same, by rw [← em]; exact ht3⟩, fun b hb => upd_ne hb⟩
    have hf4 : ∀ b ∈ fp, FpOk X pins (upd H1 P (.tbl (ps ++ more))) b ∧ b < h3.objs.size := fun b hb => by
      refine ⟨⟨by rw [upd_ne (fpP b hb)]; exact (hf b hb).1, (hf b hb).2⟩, ?_⟩
      obtain ⟨o, e, _⟩ := T.obj _ _ ht b hb
      exact Heap.lt_size (keep3 b o (fpP b hb) e)
    have ht4 : tn 0 h3 := T.keep _ _ _ ht fun b hb o e => keep3 b o (fpP b hb) e
    intro h' hns hsb
    obtain ⟨n, W, hW, hasks⟩ := hA _ tb4
    have sz' : h'.objs.size = h3.objs.size + 1 := by rw [hsb.1, Heap.size_push]
    have keep' : ∀ b o, h3.get? b = some o → h'.get? b = some o := fun b o e => hsb.extBut b o (Nat.ne_of_lt (Heap.lt_size e)) (Heap.get?_push_of_some _ e)
    have keep5 : ∀ b o, h3.get? b = some o → (h'.push { cls := .type "generator", data := .fields #[.int s2.gens.size 0, .str "<genexpr>" (tk + 1), .str (X.env.qual ++ "<genexpr>") (tk + 1 + 1)] }).get? b = some o := fun b o e => Heap.get?_push_of_some _ (keep' b o e)
    have hgo : (h'.push { cls := .type "generator", data := .fields #[.int s2.gens.size 0, .str "<genexpr>" (tk + 1), .str (X.env.qual ++ "<genexpr>") (tk + 1 + 1)] }).get? h'.objs.size = some { cls := .type "generator", data := .fields #[.int s2.gens.size 0, .str "<genexpr>" (tk + 1), .str (X.env.qual ++ "<genexpr>") (tk + 1 + 1)] } := Heap.get?_push_size _ rfl
    refine ⟨h'.objs.size, s2.gens.size, n, _, rfl, ⟨_, _, _, hgo, rfl, rfl, rfl⟩, I4.nolimit.keeps keep5, Array.getElem?_push_size .., fun A hrA hfr => ?_⟩
    have hh := hrA.hd
    have hfp0 : ∀ b ∈ fp, (upd H1 P (.tbl (ps ++ more))) b = none := fun b hb => (hf4 b hb).1.1
    -- the state in which the generator is woken
    have Ist : Inv (gcx X (A.over (.compLoop (.GeneratorExp elt [⟨.Name x px, iter, [], 0⟩] scope gpos) 0 (.ref it) .none (gnv X scope h3.objs.size code)) []) { s2 with heap := h3, toks := tk } (upd H1 P (.tbl (ps ++ more))) (gnv X scope h3.objs.size code) M fp
        [(h'.objs.size, { cls := .type "generator", data := .fields #[.int s2.gens.size 0, .str "<genexpr>" (tk + 1), .str (X.env.qual ++ "<genexpr>") (tk + 1 + 1)] })]) [] (σ ++ [none]) (upd H1 P (.tbl (ps ++ more)))
        (Shared.setGen { s2 with gens := s2.gens.push (.fresh (.compStart (.GeneratorExp elt [⟨.Name x px, iter, [], 0⟩] scope gpos) 0 (.ref it) .none (gnv X scope h3.objs.size code))), toks := tk + 1 + 1 + 1, heap := h'.push { cls := .type "generator", data := .fields #[.int s2.gens.size 0, .str "<genexpr>" (tk + 1), .str (X.env.qual ++ "<genexpr>") (tk + 1 + 1)] } } s2.gens.size .running) := by
      refine gstart (itv := .ref it) I4 L hh ?_ hf4 keep5 (hns.push _) (allBare_setGen (I2.bare.push rfl) rfl) fun p hp => ?_
      · show pushEnvs [gnv X scope h3.objs.size code] (pushEnvs (envsOf []) A.frames) = _
        rw [hfr]
        rfl
      · rw [List.mem_singleton.mp hp]
        refine ⟨hgo, ?_, ?_, ?_, fun v q => by cases q⟩
        · exact I4.hok.fresh (show h3.objs.size ≤ h'.objs.size by rw [sz']; exact Nat.le_succ _)
        · show h'.objs.size ≠ h3.objs.size
          rw [sz']
          exact Nat.succ_ne_self _
        · intro z
          have hle : h3.objs.size ≤ h'.objs.size := by rw [sz']; exact Nat.le_succ _
          rcases List.mem_cons.mp (I4.stkSub _ z) with q | q
          · have := I4.lt
            have q' : h'.objs.size = X.env.locals := q
            have this' : X.env.locals < h3.objs.size := this
            rw [q'] at hle
            exact absurd this' (Nat.not_lt.mpr hle)
          · exact I4.nofs hle q
    have loop := seg_loop (X := X) (M := M) (A := A) (st := st) (R := fun b s' => ∃ H', Inv X pins σ H' s' ∧ Q (.bl b) H') (a := h'.objs.size) (g := s2.gens.size) L I2.len hh T
      (pn := [(h'.objs.size, { cls := .type "generator", data := .fields #[.int s2.gens.size 0, .str "<genexpr>" (tk + 1), .str (X.env.qual ++ "<genexpr>") (tk + 1 + 1)] })])
      (fun p hp hm => by
        rw [List.mem_singleton.mp hp] at hm
        have := (hf4 _ hm).2
        have h9 : h'.objs.size < h3.objs.size := this
        omega)
      ⟨_, List.mem_singleton.mpr rfl, fun h e => ⟨_, _, _, e, rfl, rfl, rfl⟩⟩
      (he (A.over (.compLoop (.GeneratorExp elt [⟨.Name x px, iter, [], 0⟩] scope gpos) 0 (.ref it) .none (gnv X scope h3.objs.size code)) []) { s2 with heap := h3, toks := tk } (upd H1 P (.tbl (ps ++ more))) h3.objs.size code fp _ (room_gen hrA)) hasks
      (fun b σ' H' s s' Ig hq hw => by
        refine ⟨H', I4.call' (ch := fp) (hw.os.trans Ig.os) (Ig.base.trans (Un.kept hw.keep)) (Ig.hok.kept hw.keep) hw.bare fun b hb => ?_, hq⟩
        obtain ⟨_, f1, f2, f3, f4, f5⟩ := (hf4 b hb).1
        exact ⟨f3, f1, f4, f5⟩)
      n 0 (Shared.setGen { s2 with gens := s2.gens.push (.fresh (.compStart (.GeneratorExp elt [⟨.Name x px, iter, [], 0⟩] scope gpos) 0 (.ref it) .none (gnv X scope h3.objs.size code))), toks := tk + 1 + 1 + 1, heap := h'.push { cls := .type "generator", data := .fields #[.int s2.gens.size 0, .str "<genexpr>" (tk + 1), .str (X.env.qual ++ "<genexpr>") (tk + 1 + 1)] } } s2.gens.size .running)
      _ none _ (Nat.sub_zero _) (Nat.zero_le _) Ist (T.keep _ _ _ ht4 fun b _ o e => keep5 b o e) hfp0 hW
    show Seg _ A _ _ _ _ _ ((compStart (.GeneratorExp elt [⟨.Name x px, iter, [], 0⟩] scope gpos) 0 (.ref it) .none (gnv X scope h3.objs.size code)).onRaise (leaving (gnv X scope h3.objs.size code))) [] _
    unfold compStart
    rw [Sem.onRaise_eq_wrap]
    show Seg _ A _ _ _ _ _ ((ask >>= _).wrap _ _ _ _) [] _
    have ht5 : tn 0 (h'.push { cls := .type "generator", data := .fields #[.int s2.gens.size 0, .str "<genexpr>" (tk + 1), .str (X.env.qual ++ "<genexpr>") (tk + 1 + 1)] }) := T.keep _ _ _ ht4 fun b _ o e => keep5 b o e
    refine seg_bind_wrap (wpAny_askSetting ?_)
    split
    · exact seg_again rfl loop
    · first
        | exact seg_bind_wrap (wpAny_rule (seg_bind_wrap (wpAny_standAt (seg_bind_wrap (T.self _ 0 _ _ _ ht5 (seg_again rfl loop))))))
        | (refine seg_bind_wrap (wpAny_rule ?_); show Seg _ _ _ _ _ _ _ ((standAt iter.pos >>= _).wrap _ _ _ _) [] _; exact seg_bind_wrap (wpAny_standAt (seg_bind_wrap (T.self _ 0 _ _ _ ht5 (seg_again rfl loop)))))
  cases hfnd : codeAmong gpos ps.toList with
  | none =>
    refine wpAny_genexprCodeX hcode (cd.code hPs htr) (cd.tab hPs) hfnd fun c' h' tk hx hge hlt hco' _ htab' _ => ?_
    obtain ⟨o1, vs, f1, tf, fl, tg, inF, tx, tt, op, _, _, _, _, _, _, _, _, _, htr', _⟩ := hco'
    exact cont _ h' tk _ hx (Nat.le_trans hge (Nat.le_of_lt hlt)) htab'.2 ⟨_, rfl⟩ htr'
  | some cv =>
    refine wpAny_genexprCode_hit hcode (cd.code hPs htr) hfnd ?_
    exact cont cv s2.heap s2.toks ps (Heap.ExtBut.refl _ _) (Nat.le_refl _) hPs ⟨#[], by simp⟩ htr
theorem pe_all {c P : Addr} {elt iter : Expr} {x : Str} {M : List Str} {px p pos gpos : Pos} {scope : Scope} {wi : TI} {telt : TE} {k : Nat} (hr : Room (k + 2) X.A) (hg : Gl X "all") (hm : X.mg "all" = none) (TB : LamX.TabB X.base X.mg c P) (hcode : X.env.code = .ref c) (L : GNames X.N M X.env.scope scope x)
    (hi : PI X (.Name x px) iter wi) (he : ∀ (A : Around) (sz : Shared) (Hz : Hp) (C : Addr) (code : Value) (fp : List Addr) (pn : List (Addr × Obj)), Room k A → PE (gcx X A sz Hz (gnv X scope C code) M fp pn) elt telt)
    (hs : ∀ v, genFold iter X.env v = pure v := by intro _; rfl) (hb : bootBuiltins "all" = some (.builtin "all") := by decide +kernel)
    (he2 : starEach [.GeneratorExp elt [⟨.Name x px, iter, [], 0⟩] scope gpos] X.env = (false, eval (.GeneratorExp elt [⟨.Name x px, iter, [], 0⟩] scope gpos) X.env) :: starEach [] X.env := by rfl) :
    PE X (.Call (.Name "all" p) [.GeneratorExp elt [⟨.Name x px, iter, [], 0⟩] scope gpos] [] pos) (tGen false P wi telt) := by
  refine ⟨fun pins s σ H Q I h => ?_⟩
  refine wpAny_Call_Name_kw (ld_blt I hg hm hb ?_)
  refine PyProof.Rows.callWith_builtin1 ?_ he2 (by rfl)
  rw [he2]
  show wpAny _ _ (spliced ((false, eval (.GeneratorExp elt [⟨.Name x px, iter, [], 0⟩] scope gpos) X.env) :: backTo pos (starEach [] X.env))) _ _ s
  have hk1 : Room (k + 1) X.A := hr.mono (Nat.le_succ _)
  refine Calls.spliced_cons (thn (gen_made hk1 TB hcode L hi hs he I h) fun u s5 hM => ?_)
  obtain ⟨a, g, n, cd, rfl, hgen, hl, hgs, hseg⟩ := hM
  refine Calls.spliced_nil ?_
  refine call_function_tree F.kind_all F.plain_all F.entry_all (F.args_all1 _) ?_
  unfold Builtin.«all»
  refine wpAny_bind (m := oneArg "all" _) (wpAny_pure ?_)
  refine wpAny_bind (wpAny_pyIter_gen hgen ?_)
  refine wpAny_pure ⟨plainId_quiet F.plain_all_loop _, all_loop (A := X.A) (R := fun b s' => ∃ H', Inv X pins σ H' s' ∧ Q (.bl b) H') hr.hd hr.depth (fun b s' ⟨H', I', q⟩ => ⟨.bl b, H', I', rfl, q⟩) n s5 hgen hl ⟨_, hgs, rfl, hseg _ ?_ ?_⟩⟩
  · exact ⟨hr.hd, by have := hr.dp; show X.A.depth + 3 * (k + 1) + 5 < _; omega, by have := hr.un; show X.A.units + 1 + 1 + 16 * (k + 1) + 200 < _; omega⟩
  · exact I.ok.frames
theorem pe_any {c P : Addr} {elt iter : Expr} {x : Str} {M : List Str} {px p pos gpos : Pos} {scope : Scope} {wi : TI} {telt : TE} {k : Nat} (hr : Room (k + 2) X.A) (hg : Gl X "any") (hm : X.mg "any" = none) (TB : LamX.TabB X.base X.mg c P) (hcode : X.env.code = .ref c) (L : GNames X.N M X.env.scope scope x)
    (hi : PI X (.Name x px) iter wi) (he : ∀ (A : Around) (sz : Shared) (Hz : Hp) (C : Addr) (code : Value) (fp : List Addr) (pn : List (Addr × Obj)), Room k A → PE (gcx X A sz Hz (gnv X scope C code) M fp pn) elt telt)
    (hs : ∀ v, genFold iter X.env v = pure v := by intro _; rfl) (hb : bootBuiltins "any" = some (.builtin "any") := by decide +kernel)
    (he2 : starEach [.GeneratorExp elt [⟨.Name x px, iter, [], 0⟩] scope gpos] X.env = (false, eval (.GeneratorExp elt [⟨.Name x px, iter, [], 0⟩] scope gpos) X.env) :: starEach [] X.env := by rfl) :
    PE X (.Call (.Name "any" p) [.GeneratorExp elt [⟨.Name x px, iter, [], 0⟩] scope gpos] [] pos) (tGen true P wi telt) := by
  refine ⟨fun pins s σ H Q I h => ?_⟩
  refine wpAny_Call_Name_kw (ld_blt I hg hm hb ?_)
  refine PyProof.Rows.callWith_builtin1 ?_ he2 (by rfl)
  rw [he2]
  show wpAny _ _ (spliced ((false, eval (.GeneratorExp elt [⟨.Name x px, iter, [], 0⟩] scope gpos) X.env) :: backTo pos (starEach [] X.env))) _ _ s
  have hk1 : Room (k + 1) X.A := hr.mono (Nat.le_succ _)
  refine Calls.spliced_cons (thn (gen_made hk1 TB hcode L hi hs he I h) fun u s5 hM => ?_)
  obtain ⟨a, g, n, cd, rfl, hgen, hl, hgs, hseg⟩ := hM
  refine Calls.spliced_nil ?_
  refine call_function_tree F.kind_any F.plain_any F.entry_any (F.args_any1 _) ?_
  unfold Builtin.«any»
  refine wpAny_bind (m := oneArg "any" _) (wpAny_pure ?_)
  refine wpAny_bind (wpAny_pyIter_gen hgen ?_)
  refine wpAny_pure ⟨plainId_quiet F.plain_any_loop _, any_loop (A := X.A) (R := fun b s' => ∃ H', Inv X pins σ H' s' ∧ Q (.bl b) H') hr.hd hr.depth (fun b s' ⟨H', I', q⟩ => ⟨.bl b, H', I', rfl, q⟩) n s5 hgen hl ⟨_, hgs, rfl, hseg _ ?_ ?_⟩⟩
  · exact ⟨hr.hd, by have := hr.dp; show X.A.depth + 3 * (k + 1) + 5 < _; omega, by have := hr.un; show X.A.units + 1 + 1 + 16 * (k + 1) + 200 < _; omega⟩
  · exact I.ok.frames
end
end GA

set_option Elab.async false
set_option linter.all false
set_option maxRecDepth 100000
set_option maxHeartbeats 4000000
/-! what grows, and data without lists -/
namespace TK
open PySem PySem.Spec PyProof.Rows L2

/-- a tracked object stays, or is a table of code objects that stays one -/
def Kp (o : HO) (x : Option HO) : Prop := x = some o ∨ ∃ ps ps' : Array Value, o = .tbl ps ∧ x = some (.tbl ps') ∧ (TriplesOk ps.toList → TriplesOk ps'.toList)
/-- all that was tracked outside of S is kept, tables grow -/
def Gx (S : List Addr) (H H' : Hp) : Prop := ∀ b o, b ∉ S → H b = some o → Kp o (H' b)
abbrev Gr (H H' : Hp) : Prop := Gx [] H H'
variable {S : List Addr} {H H1 H2 H' : Hp} {K : PySem.W.Frag}
theorem Gx.refl : Gx S H H := fun _ _ _ e => .inl e
theorem Gr.refl : Gr H H := Gx.refl
theorem Kp.trans {o : HO} {x y : Option HO} (a : Kp o x) (b : ∀ u, x = some u → Kp u y) : Kp o y := by
  rcases a with a | ⟨ps, ps', rfl, a, k⟩
  · exact b o a
  · rcases b _ a with b | ⟨qs, qs', e, b, k'⟩
    · exact .inr ⟨ps, ps', rfl, b, k⟩
    · cases e
      exact .inr ⟨ps, qs', rfl, b, fun z => k' (k z)⟩
theorem Gx.trans (a : Gx S H H1) (b : Gx S H1 H2) : Gx S H H2 := fun c o hc e => (a c o hc e).trans fun u e' => b c u hc e'
theorem Gx.mono {S' : List Addr} (a : Gx S H H1) (h : ∀ b ∈ S, b ∈ S') : Gx S' H H1 := fun c o hc e => a c o (fun z => hc (h c z)) e
theorem Gr.x (a : Gr H H1) : Gx S H H1 := a.mono fun _ z => by simp at z
theorem Gx.thn (a : Gx S H H1) (b : Gr H1 H2) : Gx S H H2 := a.trans b.x
theorem Gr.thn (a : Gr H H1) (b : Gx S H1 H2) : Gx S H H2 := a.x.trans b
theorem Gx.same (a : Same H H1) : Gx S H H1 := fun b o _ e => .inl (a b o e)
theorem Gx.new {p : Addr} {o : HO} (h : H p = none) : Gx S H (upd H p o) := fun b u _ e => .inl (by rw [upd_ne (ne_of_none e h)]; exact e)
/-- an object that was not tracked at the start is written -/
theorem Gx.wr {p : Addr} {o : HO} (a : Gx S H H1) (h : H p = none) : Gx S H (upd H1 p o) := fun b u hb e => by
  rw [upd_ne (ne_of_none e h)]
  exact a b u hb e
theorem Gx.wrS {p : Addr} {o : HO} (a : Gx S H H1) (h : p ∈ S) : Gx S H (upd H1 p o) := fun b u hb e => by
  rw [upd_ne (fun z => hb (by rw [z]; exact h))]
  exact a b u hb e
theorem Kp.some {o : HO} {x : Option HO} (a : Kp o x) : x ≠ none := by
  rcases a with a | ⟨_, _, _, a, _⟩ <;> rw [a] <;> simp
theorem Gx.freeS (a : Gx S H H1) {p : Addr} (h : H1 p = none) : p ∈ S ∨ H p = none := by
  by_cases hp : p ∈ S
  · exact .inl hp
  · cases q : H p with
    | none => exact .inr rfl
    | some o => exact absurd h (a p o hp q).some
theorem Gx.free (a : Gx [] H H1) {p : Addr} (h : H1 p = none) : H p = none := (Gx.freeS a h).elim (fun z => by simp at z) id
theorem Gr.free (a : Gr H H1) {p : Addr} (h : H1 p = none) : H p = none := (Gx.freeS a h).elim (fun z => by simp at z) id
theorem Gx.at (a : Gx S H H1) {p : Addr} {o : HO} (hp : p ∉ S) (h : H p = some o) (ho : ∀ ps, o ≠ .tbl ps) : H1 p = some o := by
  rcases a p o hp h with z | ⟨ps, _, z, _⟩
  · exact z
  · exact absurd z (ho ps)
theorem Gx.lst (a : Gx [] H H1) {p : Addr} {xs : List V} (h : H p = some (.lst xs)) : H1 p = some (.lst xs) := Gx.at a (by simp) h fun _ z => by cases z
theorem Gr.lst (a : Gr H H1) {p : Addr} {xs : List V} (h : H p = some (.lst xs)) : H1 p = some (.lst xs) := Gx.at a (by simp) h fun _ z => by cases z
/-- the addresses of S hold lists -/
def LS (S : List Addr) (H : Hp) : Prop := ∀ b ∈ S, ∃ xs, H b = some (.lst xs)
theorem LS.nil : LS [] H := fun _ z => by simp at z
theorem Gx.rdT (a : Gx S H H1) (hS : LS S H) {p : Addr} {xs : List V} (h : Rd H p (.tup xs)) : Rd H1 p (.tup xs) := by
  have hp : p ∉ S := fun z => by
    obtain ⟨ys, e⟩ := hS p z
    rcases h with h | ⟨o, h⟩ <;> rw [e] at h <;> cases h
  rcases h with h | ⟨o, h⟩
  · exact .inl (a.at hp h fun _ z => by cases z)
  · exact .inr ⟨o, a.at hp h fun _ z => by cases z⟩
theorem Gx.seqTS (a : Gx S H H1) (hS : LS S H) {p : Addr} {xs : List V} (h : SqT K H p xs) : SqT K H1 p xs := h.elim (fun z => .inl (a.rdT hS z)) .inr
theorem Gx.seqT (a : Gx [] H H1) {p : Addr} {xs : List V} (h : SqT K H p xs) : SqT K H1 p xs := Gx.seqTS a .nil h
theorem Gr.seqT (a : Gr H H1) {p : Addr} {xs : List V} (h : SqT K H p xs) : SqT K H1 p xs := Gx.seqTS a .nil h
theorem Gx.seqL (a : Gx [] H H1) {p : Addr} {xs : List V} (h : SqL K H p xs) : SqL K H1 p xs := by
  rcases h with (h | ⟨o, h⟩) | h
  · exact .inl (.inl (Gx.at a (by simp) h fun _ z => by cases z))
  · exact .inl (.inr ⟨o, Gx.at a (by simp) h fun _ z => by cases z⟩)
  · exact .inr h
theorem Gr.seqL (a : Gr H H1) {p : Addr} {xs : List V} (h : SqL K H p xs) : SqL K H1 p xs := Gx.seqL a h
/-! tables -/
def TT (T : List Addr) (H : Hp) : Prop := ∀ P ∈ T, GxR.TabG H P
theorem Gx.tab {P : Addr} (a : Gx S H H1) (hP : P ∉ S) (h : GxR.TabG H P) : GxR.TabG H1 P := by
  obtain ⟨ps, e, k⟩ := h
  rcases a P _ hP e with z | ⟨qs, qs', z, z', k'⟩
  · exact ⟨ps, z, k⟩
  · cases z
    exact ⟨qs', z', k' k⟩
theorem Gx.ttS {T : List Addr} (a : Gx S H H1) (hS : LS S H) (h : TT T H) : TT T H1 := fun P hP => a.tab (fun z => by
  obtain ⟨xs, e⟩ := hS P z
  obtain ⟨ps, e', _⟩ := h P hP
  rw [e] at e'
  cases e') (h P hP)
theorem Gx.tt {T : List Addr} (a : Gx [] H H1) (h : TT T H) : TT T H1 := Gx.ttS a .nil h
theorem Gr.tt {T : List Addr} (a : Gr H H1) (h : TT T H) : TT T H1 := Gx.ttS a .nil h
theorem Gx.tabbed {P : Addr} (h : GxR.TabG H P) (t : GxR.Tabbed P H H1) : Gx S H H1 := fun b o hb e => by
  by_cases q : b = P
  · subst q
    obtain ⟨ps, e', k⟩ := h
    obtain ⟨⟨ps', e'', k'⟩, _⟩ := t
    rw [e] at e'
    cases e'
    exact .inr ⟨ps, ps', rfl, e'', fun _ => k'⟩
  · exact .inl (by rw [t.2 b q]; exact e)
theorem Gx.ls {S' : List Addr} (a : Gx S H H1) (h : LS S' H) (hd : ∀ b ∈ S', b ∉ S) : LS S' H1 := fun b hb => by
  obtain ⟨xs, e⟩ := h b hb
  exact ⟨xs, a.at (hd b hb) e fun _ z => by cases z⟩

/-! ### data: ints and tuples (None, bools, texts too), no lists -/
inductive DT (K : PySem.W.Frag) (H : Hp) : V → PyData → Prop
  | non : DT K H .non .none
  | bl (b : Bool) : DT K H (.bl b) (.bool b)
  | int (i : Int) : DT K H (.int i) (.int i)
  | str (x : Str) : DT K H (.str x) (.str x)
  | tup {a : Addr} {xs : List V} {ds : List PyData} : H a = some (.tup xs) → (hl : xs.length = ds.length) → (∀ (i : Nat) v d, xs[i]? = some v → ds[i]? = some d → DT K H v d) → DT K H (.ref a) (.tuple ds)
def DTs (K : PySem.W.Frag) (H : Hp) (vs : List V) (ds : List PyData) : Prop := vs.length = ds.length ∧ ∀ (i : Nat) v d, vs[i]? = some v → ds[i]? = some d → DT K H v d
theorem DT.mk {a : Addr} {xs : List V} {ds : List PyData} (h : H a = some (.tup xs)) (q : DTs K H xs ds) : DT K H (.ref a) (.tuple ds) := .tup h q.1 q.2
theorem DT.int_inv {v : V} {n : Int} (h : DT K H v (.int n)) : v = .int n := by
  cases h
  rfl
theorem DT.tup_invS {v : V} {ds : List PyData} (h : DT K H v (.tuple ds)) : ∃ a xs, v = .ref a ∧ H a = some (.tup xs) ∧ DTs K H xs ds := by
  cases h with
  | tup h1 h2 h3 => exact ⟨_, _, rfl, h1, h2, h3⟩
theorem DT.tup_inv {v : V} {ds : List PyData} (h : DT K H v (.tuple ds)) : ∃ a xs, v = .ref a ∧ SqT K H a xs ∧ DTs K H xs ds :=
  let ⟨a, xs, e, h1, h2⟩ := h.tup_invS
  ⟨a, xs, e, .inl (.inl h1), h2⟩
theorem Gx.tupS (a : Gx S H H1) (hS : LS S H) {p : Addr} {xs : List V} (h : H p = some (.tup xs)) : H1 p = some (.tup xs) := by
  refine a.at (fun z => ?_) h fun _ z => by cases z
  obtain ⟨ys, e⟩ := hS p z
  rw [e] at h
  cases h
theorem DT.gx (a : Gx S H H1) (hS : LS S H) {v : V} {d : PyData} (h : DT K H v d) : DT K H1 v d := by
  induction h with
  | non => exact .non
  | bl b => exact .bl b
  | int i => exact .int i
  | str x => exact .str x
  | tup h1 h2 _ ih => exact .tup (Gx.tupS a hS h1) h2 ih
theorem DT.gr (a : Gr H H1) {v : V} {d : PyData} (h : DT K H v d) : DT K H1 v d := DT.gx a .nil h
theorem DTs.gx (a : Gx S H H1) (hS : LS S H) {vs : List V} {ds : List PyData} (h : DTs K H vs ds) : DTs K H1 vs ds := ⟨h.1, fun i v d e e' => (h.2 i v d e e').gx a hS⟩
theorem DTs.gr (a : Gr H H1) {vs : List V} {ds : List PyData} (h : DTs K H vs ds) : DTs K H1 vs ds := h.gx a .nil
theorem DTs.nil : DTs K H [] [] := ⟨rfl, fun i v d e => by simp at e⟩
theorem DTs.cons {v : V} {d : PyData} {vs : List V} {ds : List PyData} (h : DT K H v d) (q : DTs K H vs ds) : DTs K H (v :: vs) (d :: ds) := by
  refine ⟨by rw [List.length_cons, List.length_cons, q.1], fun i w e h1 h2 => ?_⟩
  cases i with
  | zero =>
    cases h1
    cases h2
    exact h
  | succ i => exact q.2 i w e h1 h2
theorem DTs.cons_inv {d : PyData} {vs : List V} {ds : List PyData} (q : DTs K H vs (d :: ds)) : ∃ v vs', vs = v :: vs' ∧ DT K H v d ∧ DTs K H vs' ds := by
  cases vs with
  | nil => cases q.1
  | cons v vs' => exact ⟨v, vs', rfl, q.2 0 v d rfl rfl, by have := q.1; simp at this; exact this, fun i w e h1 h2 => q.2 (i + 1) w e h1 h2⟩
theorem DTs.nil_inv {vs : List V} (q : DTs K H vs []) : vs = [] := List.length_eq_zero_iff.mp q.1
theorem DTs.one {v : V} {d : PyData} (h : DT K H v d) : DTs K H [v] [d] := .cons h .nil
theorem DTs.app {vs ws : List V} {ds es : List PyData} (h : DTs K H vs ds) (q : DTs K H ws es) : DTs K H (vs ++ ws) (ds ++ es) := by
  refine ⟨by rw [List.length_append, List.length_append, h.1, q.1], fun i w e h1 h2 => ?_⟩
  by_cases hi : i < vs.length
  · rw [List.getElem?_append_left hi] at h1
    rw [List.getElem?_append_left (by rw [← h.1]; exact hi)] at h2
    exact h.2 i w e h1 h2
  · rw [List.getElem?_append_right (by omega)] at h1
    rw [List.getElem?_append_right (by rw [← h.1]; omega), ← h.1] at h2
    exact q.2 _ w e h1 h2
theorem DTs.at {vs : List V} {ds : List PyData} (h : DTs K H vs ds) {i : Nat} {d : PyData} (e : ds[i]? = some d) : ∃ v, vs[i]? = some v ∧ DT K H v d := by
  have hi : i < vs.length := by rw [h.1]; exact (List.getElem?_eq_some_iff.mp e).1
  exact ⟨vs[i], List.getElem?_eq_getElem hi, h.2 i _ d (List.getElem?_eq_getElem hi) e⟩
theorem DTs.at' {vs : List V} {ds : List PyData} (h : DTs K H vs ds) {i : Nat} {v : V} (e : vs[i]? = some v) : ∃ d, ds[i]? = some d ∧ DT K H v d := by
  have hi : i < ds.length := by rw [← h.1]; exact (List.getElem?_eq_some_iff.mp e).1
  exact ⟨ds[i], List.getElem?_eq_getElem hi, h.2 i v _ e (List.getElem?_eq_getElem hi)⟩
theorem DTs.ints {vs : List V} {ns : List Int} (h : DTs K H vs (ns.map PyData.int)) : vs = ns.map V.int := by
  induction ns generalizing vs with
  | nil => exact h.nil_inv
  | cons n ns ih =>
    obtain ⟨v, vs', rfl, h1, h2⟩ := h.cons_inv
    rw [h1.int_inv, ih h2]
    rfl
theorem DTs.of_ints (ns : List Int) : DTs K H (ns.map V.int) (ns.map PyData.int) := by
  induction ns with
  | nil => exact .nil
  | cons n ns ih => exact .cons (.int n) ih
/-- to the library's data -/
theorem DT.dp {v : V} {d : PyData} (h : DT K H v d) : Dp K H v d := by
  induction h with
  | non => exact .non
  | bl b => exact .bl b
  | int i => exact .int i
  | str x => exact .str x
  | @tup a xs ds h1 h2 h5 ih =>
    refine .tup (.inl (.inl h1)) ?_
    clear h1 h5
    induction ds generalizing xs with
    | nil =>
      have := List.length_eq_zero_iff.mp h2
      subst this
      exact .nil
    | cons d ds ihd =>
      cases xs with
      | nil => cases h2
      | cons v vs => exact .cons (ih 0 v d rfl rfl) (ihd (by simpa using h2) (fun i w e h3 h4 => ih (i + 1) w e h3 h4))
/-- a row: a tuple of ints -/
def rowD (ns : List Int) : PyData := .tuple (ns.map PyData.int)
def relD (ar : Int) (rows : List (List Int)) : PyData := .tuple [.int ar, .tuple (rows.map rowD)]
theorem DT.row_inv {v : V} {ns : List Int} (h : DT K H v (rowD ns)) : ∃ a, v = .ref a ∧ SqT K H a (ns.map V.int) := by
  obtain ⟨a, xs, e, h1, h2⟩ := h.tup_inv
  have := h2.ints
  subst this
  exact ⟨a, e, h1⟩
theorem DT.row_invS {v : V} {ns : List Int} (h : DT K H v (rowD ns)) : ∃ a, v = .ref a ∧ H a = some (.tup (ns.map V.int)) := by
  obtain ⟨a, xs, e, h1, h2⟩ := h.tup_invS
  have := h2.ints
  subst this
  exact ⟨a, e, h1⟩
theorem DT.row {a : Addr} {ns : List Int} (h : H a = some (.tup (ns.map V.int))) : DT K H (.ref a) (rowD ns) := .mk h (.of_ints ns)
theorem DT.rel_inv {v : V} {ar : Int} {rows : List (List Int)} (h : DT K H v (relD ar rows)) : ∃ a b xs, v = .ref a ∧ SqT K H a [.int ar, .ref b] ∧ SqT K H b xs ∧ DTs K H xs (rows.map rowD) := by
  obtain ⟨a, xs, e, h1, h2⟩ := h.tup_inv
  obtain ⟨v1, r1, rfl, h3, h4⟩ := h2.cons_inv
  obtain ⟨v2, r2, rfl, h5, h6⟩ := h4.cons_inv
  have := h6.nil_inv
  subst this
  obtain ⟨b, ys, rfl, h7, h8⟩ := h5.tup_inv
  rw [h3.int_inv] at h1
  exact ⟨a, b, ys, e, h1, h7, h8⟩
theorem DT.rel {a b : Addr} {xs : List V} {ar : Int} {rows : List (List Int)} (h : H a = some (.tup [.int ar, .ref b])) (h1 : H b = some (.tup xs)) (h2 : DTs K H xs (rows.map rowD)) : DT K H (.ref a) (relD ar rows) :=
  .mk h (.cons (.int ar) (.one (.mk h1 h2)))

/-! ### a def of the text whose code object is known -/
structure FunC (K : PySem.W.Frag) (x : Str) (st : Stmt) (f : Addr) (fd : FuncData) (c : Addr) : Prop where
  ex : ∃ (oc : Value) (od : Option Addr) (kV doc pm : Value) (an : Option Addr) (ct : Value) (osl : Array (Option Value)),
    fd = PySem.W.fnOf x x (defArgs st) (defBody st) (defScope st) .none kV doc pm an (.ref c) ct ∧ K.lookup f = some ⟨oc, od, .func fd, osl⟩ ∧ PySem.W.codeIn K (.ref c) x = true
  kp : PySem.W.keepIn K (.ref f) = true
section
variable {P : Program} {w : World} {mg : Str → Option Value} {base : Heap}
theorem FunC.ok {x : Str} {st : Stmt} {f c : Addr} {fd : FuncData} {N ps : List Str} {k : Nat} {sp : Sp} (F : FunC K x st f fd c) (S : FnScope N ps (defScope st)) (len : ∀ vs H Q E, sp vs H Q E → vs.length = ps.length)
    (hbody : ∀ (A : Around) (outer : List Env) (s : Shared) (H : Hp) (vs : List V) (Q : VK) (E : XK), Room k (A.deeper (envOfC x (defScope st) s.heap.objs.size f (.ref c))) → sp vs H Q E →
      ∃ t, PSs (cxOf CX0 P w K mg base N x (defScope st) f (.ref c) A outer s H E).nox (defBody st) t ∧ t { nx := fun _ H' => Q .non H', rt := Q } (start N vs) H) : FnOk P w K mg base CX0 (k + 1) f fd ps sp := by
  obtain ⟨oc, od, kV, doc, pm, an, ct, osl, rfl, lk, hcd⟩ := F.ex
  refine fn_of lk hcd S len fun A outer s H vs Q E hr hsp => ?_
  obtain ⟨t, h, q⟩ := hbody A outer s H vs Q E hr hsp
  exact ⟨t, h.nox, q⟩
theorem FunC.binds {x : Str} {st : Stmt} {f c : Addr} {fd : FuncData} {ps : List Str} (F : FunC K x st f fd c)
    (h : ∀ (kV doc pm : Value) (an : Option Addr) (cdv ct : Value) (us : List Value), us.length = ps.length → bindArgs (PySem.W.fnOf x x (defArgs st) (defBody st) (defScope st) .none kV doc pm an cdv ct) ⟨us, []⟩ = pure (ps.zip us)) : Binds K fd ps [] := by
  obtain ⟨oc, od, kV, doc, pm, an, ct, osl, rfl, lk, hcd⟩ := F.ex
  exact .all (h kV doc pm an (.ref c) ct)
end
/-- a def of the module: where it stands -/
structure Dfn (K : PySem.W.Frag) (mg : Str → Option Value) (x : Str) (st : Stmt) (ps : List Str) where
  f : Addr
  fd : FuncData
  c : Addr
  F : FunC K x st f fd c
  b : Binds K fd ps []
  g : mg x = some (.ref f)
/-- .. that holds generator expressions: its table -/
structure DfnG (K : PySem.W.Frag) (mg : Str → Option Value) (base : Heap) (x : Str) (st : Stmt) (ps : List Str) extends Dfn K mg x st ps where
  P : Addr
  TB : LamX.TabB base mg c P

/-! the rules that speak of the written part, it given (within comprehensions the context's own is not to be named) -/
section
variable {X : Cx}
theorem op_ltTK (K : PySem.W.Frag) (hu : X.A.units < cLine) (hK : X.K = K := by rfl) : OpR X (compareOp .Lt) (rLtT K) := hK ▸ op_ltT hu
theorem ix_tupK (K : PySem.W.Frag) (hK : X.K = K := by rfl) : IxR X (rIxT K) := hK ▸ ix_tup
theorem ix_listK (K : PySem.W.Frag) (hK : X.K = K := by rfl) : IxR X (rIxL K) := hK ▸ ix_list
theorem pi_tupK (K : PySem.W.Frag) {tg l : Expr} {tl : TE} (hl : PE X l tl) (hK : X.K = K := by rfl) : PI X tg l (iTup K tl) := hK ▸ pi_tup hl
theorem pi_listK (K : PySem.W.Frag) {tg l : Expr} {tl : TE} (hl : PE X l tl) (hK : X.K = K := by rfl) : PI X tg l (iList K tl) := hK ▸ pi_list hl
theorem op_catAK (K : PySem.W.Frag) (hK : X.K = K := by rfl) : OpR X (binaryOp .Add) (rCatA K) := hK ▸ op_catA
def rTupleOf (K : PySem.W.Frag) : List V → Hp → VK → Prop := fun xs H Q => ∃ p ys, xs = [.ref p] ∧ ((SqL K H p ys ∧ ∀ l, H l = none → Q (.ref l) (upd H l (.tup ys))) ∨ (SqT K H p ys ∧ Q (.ref p) H))
theorem call_tuple_ofK (K : PySem.W.Frag) (hK : X.K = K := by rfl) : CallR X (.type "tuple") (rTupleOf K) := hK ▸ call_tuple_of
def rLenSeq (K : PySem.W.Frag) : List V → Hp → VK → Prop := fun xs H Q => ∃ p ys, xs = [.ref p] ∧ (SqL K H p ys ∨ SqT K H p ys) ∧ Q (.int ys.length) H
theorem call_len_seqK (K : PySem.W.Frag) (hK : X.K = K := by rfl) : CallR X (.builtin "len") (rLenSeq K) := hK ▸ call_len_seq
end

/-! a comprehension over zip of two tuples -/
theorem lc_zipT {K : PySem.W.Frag} {a b : Addr} {xs ys : List V} {g : TG} {tt : L2.TT} {te : TE} {vs : List Nat} {σ : L2.St} {H1 : Hp} {D : Addr} {Qd : Hp → Prop} (n : Nat) (hx : n ≤ xs.length) (hy : n ≤ ys.length) (hn : xs.length ≤ n ∨ ys.length ≤ n) (Pv : Nat → Hp → Prop) (h0 : Pv 0 (upd H1 D (.lst []))) (hl : ∀ i H, i ≤ n → Pv i H → SqT K H a xs ∧ SqT K H b ys)
    (hs : ∀ (i : Nat) (x y : V) (T : Addr) (H : Hp), xs[i]? = some x → ys[i]? = some y → Pv i H → H T = none → g (.ref T) (wipe σ vs) (upd H T (.tup [x, y])) fun σ2 H2 => wipe σ2 vs = wipe σ vs ∧ tt σ2 H2 fun b H3 =>
      if b = true then te σ2 H3 fun y H4 => ∃ acc, H4 D = some (.lst acc) ∧ acc.length < sizeLine ∧ Pv (i + 1) (upd H4 D (.lst (acc ++ [y]))) else Pv (i + 1) H3) (hd : ∀ H, Pv n H → Qd H) :
    ∃ W : Nat → Nat → Hp → Prop, (∃ m, W 0 m (upd H1 D (.lst []))) ∧ ∀ i m H, W i m H →
      ((RZ.ItzT K a b).stop i H ∧ Qd H) ∨ ((RZ.ItzT K a b).go i H ∧ ∃ Nx : Hp → Prop, (∀ H', Nx H' → ∃ m', m' < m ∧ W (i + 1) m' H') ∧ ∀ x H', (RZ.ItzT K a b).yld i H x H' → g x (wipe σ vs) H' fun σ2 H2 => wipe σ2 vs = wipe σ vs ∧ tt σ2 H2 fun b H3 =>
        if b = true then te σ2 H3 fun y H4 => ∃ acc, H4 D = some (.lst acc) ∧ acc.length < sizeLine ∧ Nx (upd H4 D (.lst (acc ++ [y]))) else Nx H3) := by
  refine ⟨fun i m H => m = n - i ∧ i ≤ n ∧ Pv i H, ⟨n, by simp, Nat.zero_le _, h0⟩, ?_⟩
  rintro i m H ⟨rfl, hi, p⟩
  obtain ⟨q1, q2⟩ := hl i H hi p
  by_cases hlt : i < n
  · have e1 : xs[i]? = some (xs[i]'(by omega)) := List.getElem?_eq_getElem _
    have e2 : ys[i]? = some (ys[i]'(by omega)) := List.getElem?_eq_getElem _
    refine .inr ⟨⟨xs, ys, _, _, q1, q2, e1, e2⟩, Pv (i + 1), fun H' p' => ⟨n - (i + 1), by omega, rfl, hlt, p'⟩, fun v H' y => ?_⟩
    obtain ⟨T, x1, y1, rfl, hT, rfl, f1, f2⟩ := y
    exact hs i x1 y1 T H (f1 xs q1) (f2 ys q2) p hT
  · have e : i = n := by omega
    subst e
    exact .inl ⟨⟨xs, ys, q1, q2, hn⟩, hd H p⟩
theorem cut1 (xs : List V) : cutV xs (some 1) none = xs.drop 1 := by
  unfold cutV
  rw [show HT.sIx xs.length 0 (some 1) = min 1 xs.length from HT.sIx_nat xs.length 0 1, HT.sIx_none]
  cases xs with
  | nil => rfl
  | cons x r =>
    rw [show min 1 (x :: r).length = 1 by
      rw [List.length_cons]
      omega]
    show (List.take ((x :: r).length - 1) r) = r
    rw [List.length_cons, Nat.add_sub_cancel]
    exact List.take_length
theorem sixZero {n : Nat} (h : HT.sIx n 0 (some 1) = 0) : n = 0 := by
  rw [show HT.sIx n 0 (some 1) = min 1 n from HT.sIx_nat n 0 1] at h
  omega
theorem pair_at {α : Type} {R : α → α → Prop} : ∀ {l : List α}, l.Pairwise R → ∀ {i : Nat} {x y : α}, l[i]? = some x → l[i + 1]? = some y → R x y
  | [], _, _, _, _, h, _ => by simp at h
  | a :: l, h, 0, x, y, h1, h2 => by
    have e : a = x := Option.some.inj h1
    subst e
    exact (List.pairwise_cons.mp h).1 y (List.mem_of_getElem? (show l[0]? = some y from h2))
  | a :: l, h, i + 1, x, y, h1, h2 => pair_at (List.pairwise_cons.mp h).2 (i := i) h1 h2
theorem yesT {σ : L2.St} {H : Hp} {A B : Hp → Prop} (h : A H) : tYes σ H fun b H' => if b = true then A H' else B H' := iteT (A := A H) (B := B H) h
/-! a comprehension over a list, then over range(n) -/
theorem lc2_lr {K : PySem.W.Frag} {a : Addr} {xs : List V} {wi1 : TI} {te : TE} {p q : Nat} {σ : L2.St} {H1 : Hp} {D : Addr} {Qd : Hp → Prop} (n : Nat) (Pv : Nat → Nat → Hp → Prop) (h0 : Pv 0 0 (upd H1 D (.lst []))) (hl : ∀ i H, i ≤ xs.length → Pv i 0 H → SqL K H a xs)
    (hwi : ∀ x H R, R (Itr 0 n) H → wi1 ((wipe σ [p, q]).set p (some x)) H R) (hw1 : ∀ x, wipe ((wipe σ [p, q]).set p (some x)) [p, q] = wipe σ [p, q])
    (hw2 : ∀ x y, wipe ((wipe ((wipe σ [p, q]).set p (some x)) [q]).set q (some y)) [q] = wipe ((wipe σ [p, q]).set p (some x)) [q])
    (hs : ∀ (i j : Nat) x H, xs[i]? = some x → j < n → Pv i j H → te ((wipe ((wipe σ [p, q]).set p (some x)) [q]).set q (some (.int (0 + (j : Int))))) H fun y H4 => ∃ acc, H4 D = some (.lst acc) ∧ acc.length < sizeLine ∧ Pv i (j + 1) (upd H4 D (.lst (acc ++ [y]))))
    (hn : ∀ i H, i < xs.length → Pv i n H → Pv (i + 1) 0 H) (hd : ∀ H, Pv xs.length 0 H → Qd H) :
    ∃ W : Nat → Nat → Hp → Prop, (∃ m, W 0 m (upd H1 D (.lst []))) ∧ ∀ i m H, W i m H →
      ((Itl K a).stop i H ∧ Qd H) ∨ ((Itl K a).go i H ∧ ∃ Nx : Hp → Prop, (∀ H', Nx H' → ∃ m', m' < m ∧ W (i + 1) m' H') ∧ ∀ x H', (Itl K a).yld i H x H' → gName p x (wipe σ [p, q]) H' fun σ2 H2 => wipe σ2 [p, q] = wipe σ [p, q] ∧ tYes σ2 H2 fun b H3 =>
        if b = true then wi1 σ2 H3 fun J1 H4 => ∃ W1 : Nat → Nat → Hp → Prop, (∃ m, W1 0 m H4) ∧ ∀ j k H, W1 j k H →
          (J1.stop j H ∧ Nx H) ∨ (J1.go j H ∧ ∃ Nx1 : Hp → Prop, (∀ H', Nx1 H' → ∃ k', k' < k ∧ W1 (j + 1) k' H') ∧ ∀ x H', J1.yld j H x H' → gName q x (wipe σ2 [q]) H' fun σ3 H5 => wipe σ3 [q] = wipe σ2 [q] ∧ tYes σ3 H5 fun b H6 =>
            if b = true then te σ3 H6 fun y H7 => ∃ acc, H7 D = some (.lst acc) ∧ acc.length < sizeLine ∧ Nx1 (upd H7 D (.lst (acc ++ [y]))) else Nx1 H6)
        else Nx H3) := by
  refine ⟨fun i m H => m = xs.length - i ∧ i ≤ xs.length ∧ Pv i 0 H, ⟨xs.length, by simp, Nat.zero_le _, h0⟩, ?_⟩
  rintro i m H ⟨rfl, hi, pv⟩
  have qs := hl i H hi pv
  by_cases hlt : i < xs.length
  · refine .inr ⟨⟨xs, xs[i], qs, by simp [hlt]⟩, Pv (i + 1) 0, fun H' p' => ⟨xs.length - (i + 1), by omega, rfl, hlt, p'⟩, fun x H' y => ?_⟩
    obtain ⟨rfl, y⟩ := y
    have hx := y xs qs
    refine ⟨hw1 x, yesT (B := fun H3 => Pv (i + 1) 0 H3) (hwi x _ _ ⟨fun j k H => k = n - j ∧ j ≤ n ∧ Pv i j H, ⟨n, by simp, Nat.zero_le _, pv⟩, ?_⟩)⟩
    rintro j k H ⟨rfl, hj, pj⟩
    by_cases hjn : j < n
    · refine .inr ⟨hjn, Pv i (j + 1), fun H' p' => ⟨n - (j + 1), by omega, rfl, hjn, p'⟩, fun x1 H' y1 => ?_⟩
      obtain ⟨rfl, rfl⟩ := y1
      exact ⟨hw2 x _, yesT (B := fun H6 => Pv i (j + 1) H6) (hs i j x _ hx hjn pj)⟩
    · have e : j = n := by omega
      subst e
      exact .inl ⟨Nat.le_refl _, hn i H hlt pj⟩
  · have e : i = xs.length := by omega
    subst e
    exact .inl ⟨⟨xs, qs, Nat.le_refl _⟩, hd H pv⟩
/-! a list is written: data stay -/
theorem LS.one {p : Addr} {xs : List V} (h : H p = some (.lst xs)) : LS [p] H := fun b hb => by
  rw [List.mem_singleton.mp hb]
  exact ⟨xs, h⟩
theorem DT.wr {p : Addr} {xs : List V} {o : HO} (h : H p = some (.lst xs)) {v : V} {d : PyData} (q : DT K H v d) : DT K (upd H p o) v d := q.gx (S := [p]) (Gx.refl.wrS (List.mem_singleton.mpr rfl)) (.one h)
theorem DTs.wr {p : Addr} {xs : List V} {o : HO} (h : H p = some (.lst xs)) {vs : List V} {ds : List PyData} (q : DTs K H vs ds) : DTs K (upd H p o) vs ds := q.gx (S := [p]) (Gx.refl.wrS (List.mem_singleton.mpr rfl)) (.one h)
/-! a comprehension over a tuple, then over another -/
theorem lc2_tt {K : PySem.W.Frag} {a b : Addr} {xs ys : List V} {wi1 : TI} {te : TE} {p q : Nat} {σ : L2.St} {H1 : Hp} {D : Addr} {Qd : Hp → Prop} (Pv : Nat → Nat → Hp → Prop) (h0 : Pv 0 0 (upd H1 D (.lst []))) (hl : ∀ i j H, i ≤ xs.length → j ≤ ys.length → Pv i j H → SqT K H a xs ∧ SqT K H b ys)
    (hwi : ∀ (i : Nat) x H R, i < xs.length → Pv i 0 H → R (Itt K b) H → wi1 ((wipe σ [p, q]).set p (some x)) H R) (hw1 : ∀ x, wipe ((wipe σ [p, q]).set p (some x)) [p, q] = wipe σ [p, q])
    (hw2 : ∀ x y, wipe ((wipe ((wipe σ [p, q]).set p (some x)) [q]).set q (some y)) [q] = wipe ((wipe σ [p, q]).set p (some x)) [q])
    (hs : ∀ (i j : Nat) x y H, xs[i]? = some x → ys[j]? = some y → Pv i j H → te ((wipe ((wipe σ [p, q]).set p (some x)) [q]).set q (some y)) H fun y H4 => ∃ acc, H4 D = some (.lst acc) ∧ acc.length < sizeLine ∧ Pv i (j + 1) (upd H4 D (.lst (acc ++ [y]))))
    (hn : ∀ i H, i < xs.length → Pv i ys.length H → Pv (i + 1) 0 H) (hd : ∀ H, Pv xs.length 0 H → Qd H) :
    ∃ W : Nat → Nat → Hp → Prop, (∃ m, W 0 m (upd H1 D (.lst []))) ∧ ∀ i m H, W i m H →
      ((Itt K a).stop i H ∧ Qd H) ∨ ((Itt K a).go i H ∧ ∃ Nx : Hp → Prop, (∀ H', Nx H' → ∃ m', m' < m ∧ W (i + 1) m' H') ∧ ∀ x H', (Itt K a).yld i H x H' → gName p x (wipe σ [p, q]) H' fun σ2 H2 => wipe σ2 [p, q] = wipe σ [p, q] ∧ tYes σ2 H2 fun b H3 =>
        if b = true then wi1 σ2 H3 fun J1 H4 => ∃ W1 : Nat → Nat → Hp → Prop, (∃ m, W1 0 m H4) ∧ ∀ j k H, W1 j k H →
          (J1.stop j H ∧ Nx H) ∨ (J1.go j H ∧ ∃ Nx1 : Hp → Prop, (∀ H', Nx1 H' → ∃ k', k' < k ∧ W1 (j + 1) k' H') ∧ ∀ x H', J1.yld j H x H' → gName q x (wipe σ2 [q]) H' fun σ3 H5 => wipe σ3 [q] = wipe σ2 [q] ∧ tYes σ3 H5 fun b H6 =>
            if b = true then te σ3 H6 fun y H7 => ∃ acc, H7 D = some (.lst acc) ∧ acc.length < sizeLine ∧ Nx1 (upd H7 D (.lst (acc ++ [y]))) else Nx1 H6)
        else Nx H3) := by
  refine ⟨fun i m H => m = xs.length - i ∧ i ≤ xs.length ∧ Pv i 0 H, ⟨xs.length, by simp, Nat.zero_le _, h0⟩, ?_⟩
  rintro i m H ⟨rfl, hi, pv⟩
  have qs := (hl i 0 H hi (Nat.zero_le _) pv).1
  by_cases hlt : i < xs.length
  · refine .inr ⟨⟨xs, xs[i], qs, by simp [hlt]⟩, Pv (i + 1) 0, fun H' p' => ⟨xs.length - (i + 1), by omega, rfl, hlt, p'⟩, fun x H' y => ?_⟩
    obtain ⟨rfl, y⟩ := y
    have hx := y xs qs
    refine ⟨hw1 x, yesT (B := fun H3 => Pv (i + 1) 0 H3) (hwi i x _ _ hlt pv ⟨fun j k H => k = ys.length - j ∧ j ≤ ys.length ∧ Pv i j H, ⟨ys.length, by simp, Nat.zero_le _, pv⟩, ?_⟩)⟩
    rintro j k H ⟨rfl, hj, pj⟩
    have qy := (hl i j H hi hj pj).2
    by_cases hjn : j < ys.length
    · refine .inr ⟨⟨ys, ys[j], qy, by simp [hjn]⟩, Pv i (j + 1), fun H' p' => ⟨ys.length - (j + 1), by omega, rfl, hjn, p'⟩, fun x1 H' y1 => ?_⟩
      obtain ⟨rfl, y1⟩ := y1
      exact ⟨hw2 x _, yesT (B := fun H6 => Pv i (j + 1) H6) (hs i j x x1 _ hx (y1 ys qy) pj)⟩
    · have e : j = ys.length := by omega
      subst e
      exact .inl ⟨⟨ys, qy, Nat.le_refl _⟩, hn i H hlt pj⟩
  · have e : i = xs.length := by omega
    subst e
    exact .inl ⟨⟨xs, qs, Nat.le_refl _⟩, hd H pv⟩
end TK

set_option Elab.async false
set_option linter.all false
set_option maxRecDepth 100000
set_option maxHeartbeats 4000000
namespace K82
open PySem PySem.Spec PyProof.Rows L2 TK
def topS (i : Nat) : Stmt := PySem.Challenge.pw_templates_k82_whole_least_costs.main.body.getD i (.Pass ⟨0, 0, 0, 0⟩)
abbrev s_power_of : Stmt := topS 5
abbrev n_power_of : List Str := ["base", "exponent", "worth", "_"]
abbrev p_power_of : List Str := ["base", "exponent"]
theorem sc_power_of : FnScope n_power_of p_power_of (defScope s_power_of) := ⟨rfl, rfl, rfl, by decide +kernel, rfl, by decide +kernel, by decide +kernel⟩
abbrev s_is_integer : Stmt := topS 6
abbrev n_is_integer : List Str := ["value", "low", "high"]
abbrev p_is_integer : List Str := ["value", "low", "high"]
theorem sc_is_integer : FnScope n_is_integer p_is_integer (defScope s_is_integer) := ⟨rfl, rfl, rfl, by decide +kernel, rfl, by decide +kernel, by decide +kernel⟩
abbrev s_is_positive : Stmt := topS 7
abbrev n_is_positive : List Str := ["value"]
abbrev p_is_positive : List Str := ["value"]
theorem sc_is_positive : FnScope n_is_positive p_is_positive (defScope s_is_positive) := ⟨rfl, rfl, rfl, by decide +kernel, rfl, by decide +kernel, by decide +kernel⟩
abbrev s_is_tuple : Stmt := topS 8
abbrev n_is_tuple : List Str := ["value", "low", "high"]
abbrev p_is_tuple : List Str := ["value", "low", "high"]
theorem sc_is_tuple : FnScope n_is_tuple p_is_tuple (defScope s_is_tuple) := ⟨rfl, rfl, rfl, by decide +kernel, rfl, by decide +kernel, by decide +kernel⟩
abbrev s_are_places : Stmt := topS 9
abbrev n_are_places : List Str := ["value", "low", "high", "bound"]
abbrev p_are_places : List Str := ["value", "low", "high", "bound"]
theorem sc_are_places : FnScope n_are_places p_are_places (defScope s_are_places) := ⟨rfl, rfl, rfl, by decide +kernel, rfl, by decide +kernel, by decide +kernel⟩
abbrev s_position : Stmt := topS 11
abbrev n_position : List Str := ["size", "arguments", "place", "argument"]
abbrev p_position : List Str := ["size", "arguments"]
theorem sc_position : FnScope n_position p_position (defScope s_position) := ⟨rfl, rfl, rfl, by decide +kernel, rfl, by decide +kernel, by decide +kernel⟩
abbrev s_check_costs : Stmt := topS 19
abbrev n_check_costs : List Str := ["costs", "size", "functions", "index", "function"]
abbrev p_check_costs : List Str := ["costs"]
theorem sc_check_costs : FnScope n_check_costs p_check_costs (defScope s_check_costs) := ⟨rfl, rfl, rfl, by decide +kernel, rfl, by decide +kernel, by decide +kernel⟩
abbrev s_is_cost_function : Stmt := topS 20
abbrev n_is_cost_function : List Str := ["size", "value", "rows"]
abbrev p_is_cost_function : List Str := ["size", "value"]
theorem sc_is_cost_function : FnScope n_is_cost_function p_is_cost_function (defScope s_is_cost_function) := ⟨rfl, rfl, rfl, by decide +kernel, rfl, by decide +kernel, by decide +kernel⟩
abbrev s_check_terms : Stmt := topS 21
abbrev n_check_terms : List Str := ["costs", "instance", "variables", "terms", "index", "term"]
abbrev p_check_terms : List Str := ["costs", "instance"]
theorem sc_check_terms : FnScope n_check_terms p_check_terms (defScope s_check_terms) := ⟨rfl, rfl, rfl, by decide +kernel, rfl, by decide +kernel, by decide +kernel⟩
abbrev s_is_term : Stmt := topS 22
abbrev n_is_term : List Str := ["costs", "variables", "value", "arity"]
abbrev p_is_term : List Str := ["costs", "variables", "value"]
theorem sc_is_term : FnScope n_is_term p_is_term (defScope s_is_term) := ⟨rfl, rfl, rfl, by decide +kernel, rfl, by decide +kernel, by decide +kernel⟩
abbrev s_least_cost : Stmt := topS 23
abbrev n_least_cost : List Str := ["costs", "instance", "variables", "terms", "found", "variable", "ended", "term", "longer", "cost", "values", "value"]
abbrev p_least_cost : List Str := ["costs", "instance"]
theorem sc_least_cost : FnScope n_least_cost p_least_cost (defScope s_least_cost) := ⟨rfl, rfl, rfl, by decide +kernel, rfl, by decide +kernel, by decide +kernel⟩
abbrev s_cost_of : Stmt := topS 24
abbrev n_cost_of : List Str := ["costs", "terms", "values", "total", "index", "scope", "weight", "told", "variable"]
abbrev p_cost_of : List Str := ["costs", "terms", "values"]
theorem sc_cost_of : FnScope n_cost_of p_cost_of (defScope s_cost_of) := ⟨rfl, rfl, rfl, by decide +kernel, rfl, by decide +kernel, by decide +kernel⟩
abbrev s_law_taken : Stmt := topS 26
abbrev n_law_taken : List Str := ["row", "many", "found", "cell"]
abbrev p_law_taken : List Str := ["row", "many"]
theorem sc_law_taken : FnScope n_law_taken p_law_taken (defScope s_law_taken) := ⟨rfl, rfl, rfl, by decide +kernel, rfl, by decide +kernel, by decide +kernel⟩
abbrev s_law_pick : Stmt := topS 27
abbrev n_law_pick : List Str := ["row", "things"]
abbrev p_law_pick : List Str := ["row", "things"]
theorem sc_law_pick : FnScope n_law_pick p_law_pick (defScope s_law_pick) := ⟨rfl, rfl, rfl, by decide +kernel, rfl, by decide +kernel, by decide +kernel⟩
abbrev s_law_alike : Stmt := topS 28
abbrev n_law_alike : List Str := ["found", "due", "k"]
abbrev p_law_alike : List Str := ["found", "due"]
theorem sc_law_alike : FnScope n_law_alike p_law_alike (defScope s_law_alike) := ⟨rfl, rfl, rfl, by decide +kernel, rfl, by decide +kernel, by decide +kernel⟩
abbrev s_law_rows : Stmt := topS 29
abbrev n_law_rows : List Str := ["size", "arity", "found", "turn", "more", "told", "value"]
abbrev p_law_rows : List Str := ["size", "arity"]
theorem sc_law_rows : FnScope n_law_rows p_law_rows (defScope s_law_rows) := ⟨rfl, rfl, rfl, by decide +kernel, rfl, by decide +kernel, by decide +kernel⟩
abbrev s_law_costs : Stmt := topS 30
abbrev n_law_costs : List Str := ["row", "size", "many", "most", "found", "turn", "arity", "told"]
abbrev p_law_costs : List Str := ["row", "size", "many", "most"]
theorem sc_law_costs : FnScope n_law_costs p_law_costs (defScope s_law_costs) := ⟨rfl, rfl, rfl, by decide +kernel, rfl, by decide +kernel, by decide +kernel⟩
abbrev s_law_terms : Stmt := topS 31
abbrev n_law_terms : List Str := ["row", "costs", "variables", "most", "weight", "found", "turn", "which", "scope", "place"]
abbrev p_law_terms : List Str := ["row", "costs", "variables", "most", "weight"]
theorem sc_law_terms : FnScope n_law_terms p_law_terms (defScope s_law_terms) := ⟨rfl, rfl, rfl, by decide +kernel, rfl, by decide +kernel, by decide +kernel⟩
abbrev s_law_total : Stmt := topS 32
abbrev n_law_total : List Str := ["costs", "instance", "values", "found", "which", "scope", "weight", "at", "name"]
abbrev p_law_total : List Str := ["costs", "instance", "values"]
theorem sc_law_total : FnScope n_law_total p_law_total (defScope s_law_total) := ⟨rfl, rfl, rfl, by decide +kernel, rfl, by decide +kernel, by decide +kernel⟩
abbrev s_law_least : Stmt := topS 33
abbrev n_law_least : List Str := ["costs", "instance", "best", "values", "cost"]
abbrev p_law_least : List Str := ["costs", "instance"]
theorem sc_law_least : FnScope n_law_least p_law_least (defScope s_law_least) := ⟨rfl, rfl, rfl, by decide +kernel, rfl, by decide +kernel, by decide +kernel⟩
abbrev s_law : Stmt := topS 34
abbrev n_law : List Str := ["script", "row", "size", "costs", "instance"]
abbrev p_law : List Str := ["script"]
theorem sc_law : FnScope n_law p_law (defScope s_law) := ⟨rfl, rfl, rfl, by decide +kernel, rfl, by decide +kernel, by decide +kernel⟩
/-- what the top has written: where each def stands, what is still a built-in -/
structure Txt (K : PySem.W.Frag) (mg : Str → Option Value) (base : Heap) where
  power_of : Dfn K mg "power_of" s_power_of p_power_of
  is_integer : Dfn K mg "is_integer" s_is_integer p_is_integer
  is_positive : Dfn K mg "is_positive" s_is_positive p_is_positive
  is_tuple : Dfn K mg "is_tuple" s_is_tuple p_is_tuple
  are_places : DfnG K mg base "are_places" s_are_places p_are_places
  position : Dfn K mg "position" s_position p_position
  check_costs : Dfn K mg "check_costs" s_check_costs p_check_costs
  is_cost_function : DfnG K mg base "_is_cost_function" s_is_cost_function p_is_cost_function
  check_terms : Dfn K mg "check_terms" s_check_terms p_check_terms
  is_term : Dfn K mg "_is_term" s_is_term p_is_term
  least_cost : Dfn K mg "least_cost" s_least_cost p_least_cost
  cost_of : Dfn K mg "cost_of" s_cost_of p_cost_of
  law_taken : Dfn K mg "_law_taken" s_law_taken p_law_taken
  law_pick : Dfn K mg "_law_pick" s_law_pick p_law_pick
  law_alike : Dfn K mg "_law_alike" s_law_alike p_law_alike
  law_rows : Dfn K mg "_law_rows" s_law_rows p_law_rows
  law_costs : Dfn K mg "_law_costs" s_law_costs p_law_costs
  law_terms : Dfn K mg "_law_terms" s_law_terms p_law_terms
  law_total : Dfn K mg "_law_total" s_law_total p_law_total
  law_least : Dfn K mg "_law_least" s_law_least p_law_least
  law : Dfn K mg "law" s_law p_law
  c_MOST_VALUES : ∃ t, mg "MOST_VALUES" = some (.int 3 t)
  c_MOST_FUNCTIONS : ∃ t, mg "MOST_FUNCTIONS" = some (.int 4 t)
  c_MOST_PLACES : ∃ t, mg "MOST_PLACES" = some (.int 2 t)
  c_MOST_COST : ∃ t, mg "MOST_COST" = some (.int 1000 t)
  c_MOST_VARIABLES : ∃ t, mg "MOST_VARIABLES" = some (.int 8 t)
  c_MOST_TERMS : ∃ t, mg "MOST_TERMS" = some (.int 40 t)
  b_all : mg "all" = none
  b_bool : mg "bool" = none
  b_enumerate : mg "enumerate" = none
  b_int : mg "int" = none
  b_isinstance : mg "isinstance" = none
  b_len : mg "len" = none
  b_list : mg "list" = none
  b_max : mg "max" = none
  b_min : mg "min" = none
  b_range : mg "range" = none
  b_str : mg "str" = none
  b_tuple : mg "tuple" = none
variable {P : Program} {w : World} {K : PySem.W.Frag} {mg : Str → Option Value} {base : Heap}
abbrev Txt.tabs (T : Txt K mg base) : List Addr := [T.are_places.P, T.is_cost_function.P]
end K82

set_option Elab.async false
set_option linter.all false
set_option maxRecDepth 100000
set_option maxHeartbeats 4000000
namespace K82
open PySem PySem.Spec PyProof.Rows L2 TK
variable {P : Program} {w : World} {K : PySem.W.Frag} {mg : Str → Option Value} {base : Heap}
theorem tyT {H : Hp} {a : Addr} {xs : List V} (h : SqT K H a xs) : TyX K H (.ref a) (.type "tuple") := by
  rcases h with (h | ⟨o, h⟩) | ⟨o, its, n, h1, h2, _⟩
  · exact .base (.tup h)
  · exact .fTuple h
  · exact .kTuple h1 h2
/-! is_integer -/
def sp_is_integer : Sp := fun vs H Q _ => ∃ v lo hi : Int, vs = [.int v, .int lo, .int hi] ∧ Q (.bl (decide (lo ≤ v ∧ v ≤ hi))) H
theorem ok_is_integer (T : Txt K mg base) : FnOk P w K mg base CX0 1 T.is_integer.f T.is_integer.fd p_is_integer sp_is_integer := by
  refine T.is_integer.F.ok sc_is_integer (fun vs H Q E h => ?_) (fun A outer s H vs Q E hr h => ?_)
  · obtain ⟨v, lo, hi, rfl, _⟩ := h
    rfl
  · obtain ⟨v, lo, hi, rfl, q⟩ := h
    refine ⟨_, pss_one (ps_ret (pe_and (pe_callB call_isi (by rfl) T.b_isinstance boot_isinstance (pa_cons (pv 0) (pa_cons (pe_bltn (v := .ty "int") (by rfl) T.b_int boot_int rfl) pa_nil)))
      (pe_and (pe_not (pe_callB call_isi (by rfl) T.b_isinstance boot_isinstance (pa_cons (pv 0) (pa_cons (pe_bltn (v := .ty "bool") (by rfl) T.b_bool boot_bool rfl) pa_nil))))
        (pe_one (pe_chain op_le op_le (pv 1) (pv 0) (pv 2)))))), ?_⟩
    refine ⟨.int v, rfl, .int v, .ty "int", _, _, true, rfl, .ty _, .base (.int v), kit_ty (by decide +kernel), true, rfl, iteT ?_⟩
    refine ⟨.int v, rfl, .int v, .ty "bool", _, _, false, rfl, .ty _, .base (.int v), kit_ty (by decide +kernel), false, rfl, true, rfl, iteT ?_⟩
    refine ⟨.int lo, rfl, .int v, rfl, lo, v, rfl, rfl, _, rfl, ?_⟩
    by_cases h1 : lo ≤ v
    · rw [if_pos (decide_eq_true h1)]
      refine ⟨.int hi, rfl, v, hi, rfl, rfl, ?_⟩
      have e : decide (lo ≤ v ∧ v ≤ hi) = decide (v ≤ hi) := by simp [h1]
      rw [e] at q
      exact q
    · rw [if_neg (by simp [h1])]
      have e : decide (lo ≤ v ∧ v ≤ hi) = false := by simp [h1]
      rw [e] at q
      exact q
/-! is_tuple -/
def sp_is_tuple (K : PySem.W.Frag) : Sp := fun vs H Q _ => ∃ (v : V) (ds : List PyData) (lo hi : Int), vs = [v, .int lo, .int hi] ∧ DT K H v (.tuple ds) ∧ Q (.bl (decide (lo ≤ (ds.length : Int) ∧ (ds.length : Int) ≤ hi))) H
theorem ok_is_tuple (T : Txt K mg base) : FnOk P w K mg base CX0 1 T.is_tuple.f T.is_tuple.fd p_is_tuple (sp_is_tuple K) := by
  refine T.is_tuple.F.ok sc_is_tuple (fun vs H Q E h => ?_) (fun A outer s H vs Q E hr h => ?_)
  · obtain ⟨v, ds, lo, hi, rfl, _⟩ := h
    rfl
  · obtain ⟨v, ds, lo, hi, rfl, hv, q⟩ := h
    obtain ⟨a, xs, rfl, hS, hD⟩ := hv.tup_inv
    refine ⟨_, pss_one (ps_ret (pe_and (pe_callB call_isi (by rfl) T.b_isinstance boot_isinstance (pa_cons (pv 0) (pa_cons (pe_bltn (v := .ty "tuple") (by rfl) T.b_tuple boot_tuple rfl) pa_nil)))
        (pe_one (pe_chain op_le op_le (pv 1) (pe_callB call_len_seq (by rfl) T.b_len PySem.boot_len (pa_cons (pv 0) pa_nil)) (pv 2))))), ?_⟩
    refine ⟨.ref a, rfl, .ref a, .ty "tuple", _, _, true, rfl, .ty _, tyT hS, kit_ty (by decide +kernel), true, rfl, iteT ?_⟩
    refine ⟨.int lo, rfl, .ref a, rfl, a, xs, rfl, .inr hS, lo, _, rfl, rfl, _, rfl, ?_⟩
    rw [hD.1]
    by_cases h1 : lo ≤ (ds.length : Int)
    · rw [if_pos (decide_eq_true h1)]
      refine ⟨.int hi, rfl, _, hi, rfl, rfl, ?_⟩
      have e : decide (lo ≤ (ds.length : Int) ∧ (ds.length : Int) ≤ hi) = decide ((ds.length : Int) ≤ hi) := by simp [h1]
      rw [e] at q
      exact q
    · rw [if_neg (by simp [h1])]
      have e : decide (lo ≤ (ds.length : Int) ∧ (ds.length : Int) ≤ hi) = false := by simp [h1]
      rw [e] at q
      exact q
/-! is_row -/
def sp_is_row (T : Txt K mg base) : Sp := fun vs H Q _ => ∃ (sz ar : Int) (v : V) (ns : List Int), vs = [.int sz, .int ar, v] ∧ DT K H v (rowD ns) ∧ TT T.tabs H ∧ (ns.length : Int) = ar ∧ (∀ x ∈ ns, 0 ≤ x ∧ x ≤ sz - 1) ∧ ∀ H', Gr H H' → Q (.bl true) H'
/-! is_relation -/
def iZipK (K : PySem.W.Frag) (v u : V) (H1 : Hp) (R : It → Hp → Prop) : Prop := ∃ a b xs ys, [v, u] = [V.ref a, V.ref b] ∧ ((SqL K H1 a xs ∧ SqL K H1 b ys ∧ R (Itz K a b) H1) ∨ (SqT K H1 a xs ∧ SqT K H1 b ys ∧ R (RZ.ItzT K a b) H1))
/-- right rows, ascending, each once -/
structure RelOk (sz ar : Int) (rows : List (List Int)) : Prop where
  ar1 : 1 ≤ ar
  ar4 : ar ≤ 4
  len : ∀ r ∈ rows, (r.length : Int) = ar
  val : ∀ r ∈ rows, ∀ x ∈ r, 0 ≤ x ∧ x ≤ sz - 1
  asc : rows.Pairwise fun r q => HT.lexLt r q = true
  most : rows.length ≤ 1000
def sp_is_relation (T : Txt K mg base) : Sp := fun vs H Q _ => ∃ (sz ar : Int) (v : V) (rows : List (List Int)), vs = [.int sz, v] ∧ DT K H v (relD ar rows) ∧ TT T.tabs H ∧ RelOk sz ar rows ∧ ∀ H', Gr H H' → Q (.bl true) H'
end K82

set_option Elab.async false
set_option linter.all false
set_option maxRecDepth 100000
set_option maxHeartbeats 4000000
namespace K82
open PySem PySem.Spec PyProof.Rows L2 TK
variable {P : Program} {w : World} {K : PySem.W.Frag} {mg : Str → Option Value} {base : Heap}
/-! are_places -/
def sp_are_places (T : Txt K mg base) : Sp := fun vs H Q _ => ∃ (v : V) (ns : List Int) (lo hi bd : Int), vs = [v, .int lo, .int hi, .int bd] ∧ DT K H v (rowD ns) ∧ TT T.tabs H ∧ (lo ≤ (ns.length : Int) ∧ (ns.length : Int) ≤ hi) ∧ (∀ x ∈ ns, 0 ≤ x ∧ x ≤ bd - 1) ∧ ∀ H', Gr H H' → Q (.bl true) H'
theorem ok_are_places (T : Txt K mg base) : FnOk P w K mg base CX0 4 T.are_places.f T.are_places.fd p_are_places (sp_are_places T) := by
  refine T.are_places.F.ok sc_are_places (fun vs H Q E h => ?_) (fun A outer s H vs Q E hr h => ?_)
  · obtain ⟨v, ns, lo, hi, bd, rfl, _⟩ := h
    rfl
  · obtain ⟨v, ns, lo, hi, bd, rfl, hv, hT, hl, hn, q⟩ := h
    obtain ⟨a, rfl, hS⟩ := hv.row_inv
    refine ⟨_, pss_one (ps_ret (pe_and (pe_call (ok_is_tuple T) (hr.mono (by decide)) (by rfl) T.is_tuple.g T.is_tuple.F.kp T.is_tuple.b .nil pass0 (pa_cons (pv 0) (pa_cons (pv 1) (pa_cons (pv 2) pa_nil))))
      (pe_one (GA.pe_all (k := 1) hr (by rfl) T.b_all T.are_places.TB rfl (GA.gNames_by (N := n_are_places) (M := ["value", "low", "high", "bound", "place"]) (sc := defScope s_are_places) (by decide +kernel)) (pi_tup (pv 0))
        (fun A sz Hz C code fp pn hrA => pe_call (ok_is_integer T) hrA (by rfl) T.is_integer.g T.is_integer.F.kp T.is_integer.b .nil pass0 (pa_cons (pv 4) (pa_cons pe_int (pa_cons (pe_op op_sub (pv 3) pe_int) pa_nil)))))))), ?_⟩
    refine ⟨.ref a, rfl, .int lo, rfl, .int hi, rfl, .ref a, _, lo, hi, rfl, hv, _, rfl, ?_⟩
    rw [List.length_map, decide_eq_true hl]
    refine iteT ⟨.ref a, rfl, a, rfl, ⟨_, hS⟩, hT _ (by simp), fun H2 ht => ⟨ns.length, fun i H' => Gr H H', Gx.tabbed (hT _ (by simp)) ht, fun i H3 hi hw => ?_, fun H3 hw => ?_⟩⟩
    · have e : (ns.map V.int)[i]? = some (.int ns[i]) := by
        rw [List.getElem?_map, List.getElem?_eq_getElem hi]
        rfl
      refine ⟨⟨_, _, hw.seqT hS, e⟩, fun x H4 hy => ?_⟩
      obtain ⟨rfl, hx⟩ := hy
      have ex : x = .int ns[i] := Option.some.inj ((hx _ (hw.seqT hS)).symm.trans e)
      subst ex
      refine ⟨_, rfl, .int bd, rfl, bd, 1, rfl, rfl, ns[i], 0, bd - 1, rfl, _, rfl, fun _ => hw, fun hf => ?_⟩
      have := hn ns[i] (List.getElem_mem hi)
      rw [decide_eq_true this] at hf
      cases hf
    · exact ⟨⟨_, hw.seqT hS, by rw [List.length_map]; exact Nat.le_refl _⟩, q H3 hw⟩
/-! the checks: right values pass -/
def sp_check_size : Sp := fun vs H Q _ => ∃ sz : Int, vs = [.int sz] ∧ (1 ≤ sz ∧ sz ≤ 4) ∧ Q .non H
def sp_check_relation_arity : Sp := fun vs H Q _ => ∃ ar : Int, vs = [.int ar] ∧ (1 ≤ ar ∧ ar ≤ 4) ∧ Q .non H
def sp_check_relation (T : Txt K mg base) : Sp := fun vs H Q _ => ∃ (sz ar : Int) (v : V) (rows : List (List Int)), vs = [.int sz, v] ∧ DT K H v (relD ar rows) ∧ TT T.tabs H ∧ RelOk sz ar rows ∧ ∀ H', Gr H H' → Q .non H'
def sp_check_places (T : Txt K mg base) : Sp := fun vs H Q _ => ∃ (v : V) (ns : List Int) (lo hi bd : Int), vs = [v, .int lo, .int hi, .int bd] ∧ DT K H v (rowD ns) ∧ TT T.tabs H ∧ (lo ≤ (ns.length : Int) ∧ (ns.length : Int) ≤ hi) ∧ (∀ x ∈ ns, 0 ≤ x ∧ x ≤ bd - 1) ∧ ∀ H', Gr H H' → Q .non H'
end K82

set_option Elab.async false
set_option linter.all false
/-! plain mathematics of rows -/
namespace MR
/-- each row with each value behind it -/
def ext (sz : Nat) (rows : List (List Int)) : List (List Int) := rows.flatMap fun r => (List.range sz).map fun (v : Nat) => r ++ [(v : Int)]
def allRows (sz : Nat) : Nat → List (List Int)
  | 0 => [[]]
  | n + 1 => ext sz (allRows sz n)
/-- i rows done, j values of the next one -/
def part (sz : Nat) (rows : List (List Int)) (i j : Nat) : List (List Int) := ext sz (rows.take i) ++ match rows[i]? with
  | some r => (List.range j).map fun (v : Nat) => r ++ [(v : Int)]
  | none => []
theorem ext_len (sz : Nat) (rows : List (List Int)) : (ext sz rows).length = rows.length * sz := by
  induction rows with
  | nil => simp [ext]
  | cons r rows ih =>
    unfold ext at ih ⊢
    rw [List.flatMap_cons, List.length_append, ih, List.length_map, List.length_range, List.length_cons, Nat.add_mul]
    omega
theorem ext_app (sz : Nat) (a b : List (List Int)) : ext sz (a ++ b) = ext sz a ++ ext sz b := by
  unfold ext
  rw [List.flatMap_append]
theorem ext_one (sz : Nat) (r : List Int) : ext sz [r] = (List.range sz).map fun (v : Nat) => r ++ [(v : Int)] := by
  unfold ext
  simp
theorem part_zero (sz : Nat) (rows : List (List Int)) : part sz rows 0 0 = [] := by
  unfold part
  cases rows with
  | nil => rfl
  | cons r rows => rfl
theorem part_step {sz : Nat} {rows : List (List Int)} {i j : Nat} {r : List Int} (h : rows[i]? = some r) : part sz rows i (j + 1) = part sz rows i j ++ [r ++ [(j : Int)]] := by
  unfold part
  rw [h]
  show ext sz (rows.take i) ++ (List.range (j + 1)).map (fun (v : Nat) => r ++ [(v : Int)]) = ext sz (rows.take i) ++ (List.range j).map (fun (v : Nat) => r ++ [(v : Int)]) ++ [r ++ [(j : Int)]]
  rw [List.range_succ, List.map_append, ← List.append_assoc]
  rfl
theorem part_next {sz : Nat} {rows : List (List Int)} {i : Nat} (h : i < rows.length) : part sz rows i sz = part sz rows (i + 1) 0 := by
  unfold part
  have e : rows[i]? = some rows[i] := List.getElem?_eq_getElem h
  have z : (match rows[i + 1]? with | some r => (List.range 0).map fun (v : Nat) => r ++ [(v : Int)] | none => []) = [] := by
    cases rows[i + 1]? <;> rfl
  rw [e, z, List.append_nil, List.take_add_one, e, ext_app]
  show _ = ext sz (rows.take i) ++ ext sz [rows[i]]
  rw [ext_one]
theorem part_end (sz : Nat) (rows : List (List Int)) : part sz rows rows.length 0 = ext sz rows := by
  unfold part
  rw [List.getElem?_eq_none (Nat.le_refl _), List.append_nil, List.take_length]
theorem part_len {sz : Nat} {rows : List (List Int)} {i j : Nat} (hj : j ≤ sz) : (part sz rows i j).length ≤ rows.length * sz := by
  unfold part
  rw [List.length_append, ext_len, List.length_take]
  cases h : rows[i]? with
  | none =>
    have : min i rows.length * sz ≤ rows.length * sz := Nat.mul_le_mul_right _ (Nat.min_le_right _ _)
    simpa using this
  | some r =>
    have hi : i < rows.length := (List.getElem?_eq_some_iff.mp h).1
    show min i rows.length * sz + ((List.range j).map _).length ≤ _
    rw [List.length_map, List.length_range, Nat.min_eq_left (Nat.le_of_lt hi)]
    have : (i + 1) * sz ≤ rows.length * sz := Nat.mul_le_mul_right _ hi
    rw [Nat.add_mul] at this
    omega
theorem allRows_len (sz n : Nat) : (allRows sz n).length = sz ^ n := by
  induction n with
  | zero => rfl
  | succ n ih =>
    show (ext sz (allRows sz n)).length = _
    rw [ext_len, ih, Nat.pow_succ]
theorem allRows_len_le {sz n : Nat} (hs : sz ≤ 4) (hn : n ≤ 4) : (allRows sz n).length ≤ 256 := by
  rw [allRows_len]
  exact Nat.le_trans (Nat.pow_le_pow_left hs n) (Nat.pow_le_pow_right (by omega) hn)
theorem mem_ext {sz : Nat} {rows : List (List Int)} {r : List Int} : r ∈ ext sz rows ↔ ∃ q ∈ rows, ∃ v : Nat, v < sz ∧ r = q ++ [(v : Int)] := by
  unfold ext
  rw [List.mem_flatMap]
  constructor
  · rintro ⟨q, hq, h⟩
    obtain ⟨v, hv, rfl⟩ := List.mem_map.mp h
    exact ⟨q, hq, v, List.mem_range.mp hv, rfl⟩
  · rintro ⟨q, hq, v, hv, rfl⟩
    exact ⟨q, hq, List.mem_map.mpr ⟨v, List.mem_range.mpr hv, rfl⟩⟩
theorem allRows_ok {sz : Nat} : ∀ {n : Nat} {r : List Int}, r ∈ allRows sz n → r.length = n ∧ ∀ x ∈ r, 0 ≤ x ∧ x < (sz : Int)
  | 0, r, h => by
    have : r = [] := by simpa [allRows] using h
    subst this
    exact ⟨rfl, fun x hx => by simp at hx⟩
  | n + 1, r, h => by
    obtain ⟨q, hq, v, hv, rfl⟩ := mem_ext.mp h
    obtain ⟨h1, h2⟩ := allRows_ok hq
    refine ⟨by rw [List.length_append, h1]; rfl, fun x hx => ?_⟩
    rcases List.mem_append.mp hx with hx | hx
    · exact h2 x hx
    · have : x = (v : Int) := by simpa using hx
      subst this
      omega

/-! each row of one with each row of the other behind it -/
def prod (a b : List (List Int)) : List (List Int) := a.flatMap fun f => b.map fun g => f ++ g
def part2 (a b : List (List Int)) (i j : Nat) : List (List Int) := prod (a.take i) b ++ match a[i]? with
  | some f => (b.take j).map fun g => f ++ g
  | none => []
theorem prod_app (a c b : List (List Int)) : prod (a ++ c) b = prod a b ++ prod c b := by
  unfold prod
  rw [List.flatMap_append]
theorem prod_one (f : List Int) (b : List (List Int)) : prod [f] b = b.map fun g => f ++ g := by
  unfold prod
  simp
theorem prod_len (a b : List (List Int)) : (prod a b).length = a.length * b.length := by
  induction a with
  | nil => simp [prod]
  | cons f a ih =>
    unfold prod at ih ⊢
    rw [List.flatMap_cons, List.length_append, ih, List.length_map, List.length_cons, Nat.add_mul]
    omega
theorem part2_zero (a b : List (List Int)) : part2 a b 0 0 = [] := by
  unfold part2
  cases a with
  | nil => rfl
  | cons f a => simp [prod]
theorem part2_step {a b : List (List Int)} {i j : Nat} {f g : List Int} (h : a[i]? = some f) (h2 : b[j]? = some g) : part2 a b i (j + 1) = part2 a b i j ++ [f ++ g] := by
  unfold part2
  rw [h]
  show prod (a.take i) b ++ (b.take (j + 1)).map _ = prod (a.take i) b ++ (b.take j).map _ ++ [_]
  rw [List.take_add_one, h2, List.map_append, ← List.append_assoc]
  rfl
theorem part2_next {a b : List (List Int)} {i : Nat} (h : i < a.length) : part2 a b i b.length = part2 a b (i + 1) 0 := by
  unfold part2
  have e : a[i]? = some a[i] := List.getElem?_eq_getElem h
  have z : (match a[i + 1]? with | some f => (b.take 0).map fun g => f ++ g | none => []) = [] := by
    cases a[i + 1]? <;> rfl
  rw [e, z, List.append_nil, List.take_add_one, e, prod_app]
  show prod (a.take i) b ++ (b.take b.length).map _ = prod (a.take i) b ++ prod [a[i]] b
  rw [prod_one, List.take_length]
theorem part2_end (a b : List (List Int)) : part2 a b a.length 0 = prod a b := by
  unfold part2
  rw [List.getElem?_eq_none (Nat.le_refl _), List.append_nil, List.take_length]
theorem part2_len {a b : List (List Int)} {i j : Nat} : (part2 a b i j).length ≤ a.length * b.length := by
  unfold part2
  rw [List.length_append, prod_len, List.length_take]
  cases h : a[i]? with
  | none =>
    have : min i a.length * b.length ≤ a.length * b.length := Nat.mul_le_mul_right _ (Nat.min_le_right _ _)
    simpa using this
  | some r =>
    have hi : i < a.length := (List.getElem?_eq_some_iff.mp h).1
    show min i a.length * b.length + ((b.take j).map _).length ≤ _
    rw [List.length_map, List.length_take, Nat.min_eq_left (Nat.le_of_lt hi)]
    have : (i + 1) * b.length ≤ a.length * b.length := Nat.mul_le_mul_right _ hi
    rw [Nat.add_mul] at this
    omega

/-! rows with equal entries at two places -/
def glue (rows : List (List Int)) (a b : Nat) : List (List Int) := rows.filter fun r => decide (r.getD a 0 = r.getD b 0)
theorem filter_step {α : Type} {l : List α} {p : α → Bool} {i : Nat} {x : α} (h : l[i]? = some x) : (l.take (i + 1)).filter p = (l.take i).filter p ++ if p x = true then [x] else [] := by
  rw [List.take_add_one, h, List.filter_append]
  by_cases hp : p x = true
  · simp [hp]
  · simp [hp]
end MR

set_option Elab.async false
set_option linter.all false
set_option maxRecDepth 100000
set_option maxHeartbeats 4000000
namespace K82
open PySem PySem.Spec PyProof.Rows L2 TK MR
variable {P : Program} {w : World} {K : PySem.W.Frag} {mg : Str → Option Value} {base : Heap}
/-- a list of rows at p -/
def LR (K : PySem.W.Frag) (H : Hp) (p : Addr) (rows : List (List Int)) : Prop := ∃ vs, H p = some (.lst vs) ∧ DTs K H vs (rows.map rowD)
theorem LR.app {H : Hp} {rows : List (List Int)} {vs : List V} (h : DTs K H vs (rows.map rowD)) {v : V} {r : List Int} (hv : DT K H v (rowD r)) : DTs K H (vs ++ [v]) ((rows ++ [r]).map rowD) := by
  rw [List.map_append]
  exact h.app (.one hv)
/-- a row with one more value: row + (value,) -/
theorem cat_one {H : Hp} {v : V} {r : List Int} {n : Int} {T : Addr} {Q : VK} (hv : DT K H v (rowD r)) (hT : H T = some (.tup [.int n])) (hl : r.length < 1000) (q : ∀ u H', Gr H H' → DT K H' u (rowD (r ++ [n])) → Q u H') : rCatA K v (.ref T) H Q := by
  obtain ⟨a, rfl, hS⟩ := hv.row_inv
  refine ⟨a, T, _, _, rfl, rfl, hS, .inl (.inl hT), ?_, fun e => ?_, fun _ e => (by cases e), fun _ _ p hp => ?_⟩
  · rw [List.length_map]
    have h9 := Nat.le_of_lt (small1000 (n := r.length + 1) (by omega))
    simpa using h9
  · have e : r = [] := by simpa using e
    subst e
    exact q _ _ Gx.refl (.row hT)
  · refine q _ _ (Gx.new hp) (.row ?_)
    rw [List.map_append]
    exact upd_same
/-! all_rows -/
def sp_all_rows (K : PySem.W.Frag) : Sp := fun vs H Q _ => ∃ sz ar : Nat, vs = [.int sz, .int ar] ∧ sz ≤ 4 ∧ ar ≤ 4 ∧ ∀ p H', Gr H H' → H p = none → LR K H' p (allRows sz ar) → Q (.ref p) H'
end K82

set_option Elab.async false
set_option linter.all false
set_option maxRecDepth 100000
set_option maxHeartbeats 4000000
namespace K82
open PySem PySem.Spec PyProof.Rows L2 TK MR
variable {P : Program} {w : World} {K : PySem.W.Frag} {mg : Str → Option Value} {base : Heap}
/-- a relation laid: (ar, tuple) -/
theorem rel_laid {H : Hp} {p : Addr} {u : V} {ar : Int} {rows : List (List Int)} (hu : DT K H u (.tuple (rows.map rowD))) (hp : H p = none) : DT K (upd H p (.tup [.int ar, u])) (.ref p) (relD ar rows) := by
  obtain ⟨b, xs, rfl, h1, h2⟩ := hu.tup_invS
  exact DT.rel upd_same (Gx.tupS (Gx.new (S := []) hp) .nil h1) (h2.gr (Gx.new hp))
/-- tuple(a list of rows) -/
theorem tup_laid {H : Hp} {p l : Addr} {rows : List (List Int)} (h : LR K H p rows) (hl : H l = none) : ∃ vs, H p = some (.lst vs) ∧ DT K (upd H l (.tup vs)) (.ref l) (.tuple (rows.map rowD)) := by
  obtain ⟨vs, h1, h2⟩ := h
  exact ⟨vs, h1, .mk upd_same (h2.gr (Gx.new hl))⟩
/-! full -/
def sp_full (K : PySem.W.Frag) : Sp := fun vs H Q _ => ∃ sz ar : Nat, vs = [.int sz, .int ar] ∧ (1 ≤ sz ∧ sz ≤ 4) ∧ (1 ≤ ar ∧ ar ≤ 4) ∧ ∀ v H', Gr H H' → DT K H' v (relD ar (allRows sz ar)) → Q v H'
/-- a concatenation of two rows, neither empty -/
theorem cat_rows {H : Hp} {v u : V} {r q : List Int} {Q : VK} (hv : DT K H v (rowD r)) (hu : DT K H u (rowD q)) (hl : r.length + q.length ≤ 1000) (h1 : r ≠ []) (h2 : q ≠ []) (k : ∀ z H', Gr H H' → DT K H' z (rowD (r ++ q)) → Q z H') : rCatA K v u H Q := by
  obtain ⟨a, rfl, hS⟩ := hv.row_inv
  obtain ⟨b, rfl, hS2⟩ := hu.row_inv
  refine ⟨a, b, _, _, rfl, rfl, hS, hS2, ?_, fun e => ?_, fun _ e => ?_, fun _ _ p hp => ?_⟩
  · rw [List.length_map, List.length_map]
    exact Nat.le_of_lt (small1000 hl)
  · exact absurd (by simpa using e) h1
  · exact absurd (by simpa using e) h2
  · refine k _ _ (Gx.new hp) (.row ?_)
    rw [List.map_append]
    exact upd_same
/-- a relation's parts -/
theorem rel_ix0 {H : Hp} {v : V} {ar : Int} {rows : List (List Int)} {Q : VK} (h : DT K H v (relD ar rows)) (q : Q (.int ar) H) : rIxT K v (.int 0) H Q := by
  obtain ⟨a, b, xs, rfl, h1, _, _⟩ := h.rel_inv
  exact ⟨a, _, 0, .int ar, rfl, rfl, h1, atI_nat (j := 0) rfl, q⟩
theorem rel_ix1 {H : Hp} {v : V} {ar : Int} {rows : List (List Int)} {Q : VK} (h : DT K H v (relD ar rows)) (q : ∀ b xs, SqT K H b xs → DTs K H xs (rows.map rowD) → Q (.ref b) H) : rIxT K v (.int 1) H Q := by
  obtain ⟨a, b, xs, rfl, h1, h2, h3⟩ := h.rel_inv
  exact ⟨a, _, 1, .ref b, rfl, rfl, h1, atI_nat (j := 1) rfl, q b xs h2 h3⟩
/-! product -/
def sp_product (T : Txt K mg base) : Sp := fun vs H Q _ => ∃ (sz : Int) (v u : V) (ar br : Int) (r1 r2 : List (List Int)), vs = [.int sz, v, u] ∧ (1 ≤ sz ∧ sz ≤ 4) ∧ DT K H v (relD ar r1) ∧ DT K H u (relD br r2) ∧ TT T.tabs H ∧ RelOk sz ar r1 ∧ RelOk sz br r2 ∧ ar + br ≤ 4 ∧ r1.length * r2.length ≤ 900 ∧
  ∀ z H', Gr H H' → DT K H' z (relD (ar + br) (prod r1 r2)) → Q z H'
end K82

set_option Elab.async false
set_option linter.all false
set_option maxRecDepth 100000
set_option maxHeartbeats 4000000
namespace K82
open PySem PySem.Spec PyProof.Rows L2 TK MR
variable {P : Program} {w : World} {K : PySem.W.Frag} {mg : Str → Option Value} {base : Heap}
/-- row[a] -/
theorem row_ix {H : Hp} {v : V} {r : List Int} {z : Int} {a : Nat} {Q : VK} (h : DT K H v (rowD r)) (ez : z = (a : Int)) (ha : a < r.length) (q : Q (.int (r.getD a 0)) H) : rIxT K v (.int z) H Q := by
  obtain ⟨p, rfl, h1⟩ := h.row_inv
  subst ez
  refine ⟨p, _, (a : Int), .int (r.getD a 0), rfl, rfl, h1, atI_nat ?_, q⟩
  rw [List.getElem?_map, List.getElem?_eq_getElem ha, List.getD_eq_getElem?_getD, List.getElem?_eq_getElem ha]
  rfl
/-! glued -/
def sp_glued (T : Txt K mg base) : Sp := fun vs H Q _ => ∃ (sz : Int) (v u : V) (ar : Int) (rows : List (List Int)) (a b : Nat), vs = [.int sz, v, u] ∧ (1 ≤ sz ∧ sz ≤ 4) ∧ DT K H v (relD ar rows) ∧ DT K H u (rowD [(a : Int), (b : Int)]) ∧ TT T.tabs H ∧ RelOk sz ar rows ∧ (a : Int) < ar ∧ (b : Int) < ar ∧
  ∀ z H', Gr H H' → DT K H' z (relD ar (glue rows a b)) → Q z H'
end K82

set_option Elab.async false
set_option linter.all false
set_option maxRecDepth 100000
set_option maxHeartbeats 4000000
namespace K82
open PySem PySem.Spec PyProof.Rows L2 TK MR
variable {P : Program} {w : World} {K : PySem.W.Frag} {mg : Str → Option Value} {base : Heap}
/-! the draws' own list -/
/-- the script and the place r: apart, or the script stands in the fragment -/
def Sep (K : PySem.W.Frag) (a r : Addr) (ns : List Int) : Prop := a ≠ r ∨ SqL K (fun _ => none) a (ns.map V.int)
theorem seqL_frag {H : Hp} {a : Addr} {xs : List V} (h : SqL K (fun _ => none) a xs) : SqL K H a xs := by
  rcases h with (h | ⟨o', h⟩) | h
  · cases h
  · cases h
  · exact .inr h
theorem seqL_ne {H : Hp} {a r : Addr} {xs : List V} {o : HO} (h : SqL K H a xs) (n : a ≠ r) : SqL K (upd H r o) a xs := by
  rcases h with (h | ⟨o', h⟩) | h
  · exact .inl (.inl (by rw [upd_ne n]; exact h))
  · exact .inl (.inr ⟨o', by rw [upd_ne n]; exact h⟩)
  · exact .inr h
theorem seqL_upd {H : Hp} {a r : Addr} {ns : List Int} {o : HO} (h : SqL K H a (ns.map V.int)) (n : Sep K a r ns) : SqL K (upd H r o) a (ns.map V.int) := n.elim (seqL_ne h) seqL_frag
def RowSt (K : PySem.W.Frag) (H : Hp) (r a : Addr) : Prop := ∃ (ns : List Int) (i st d : Int), H r = some (.lst [.ref a, .int i, .int st, .int d]) ∧ SqL K H a (ns.map V.int) ∧ Sep K a r ns ∧ 0 ≤ i ∧ 0 ≤ st ∧ st < 2147483647
theorem fmod_range {x m : Int} (h : 0 < m) : 0 ≤ Int.fmod x m ∧ Int.fmod x m < m := ⟨Int.fmod_nonneg_of_pos x h, Int.fmod_lt_of_pos x h⟩
theorem RowSt.lst {H : Hp} {r a : Addr} (h : RowSt K H r a) : ∃ xs, H r = some (.lst xs) := let ⟨_, _, _, _, h, _⟩ := h; ⟨_, h⟩
theorem RowSt.ls {H : Hp} {r a : Addr} (h : RowSt K H r a) : LS [r] H := let ⟨_, e⟩ := h.lst; .one e
theorem RowSt.gr {H H' : Hp} {r a : Addr} (g : Gr H H') (h : RowSt K H r a) : RowSt K H' r a := by
  obtain ⟨ns, i, st, d, h1, h2, h3⟩ := h
  exact ⟨ns, i, st, d, g.lst h1, g.seqL h2, h3⟩
/-! _law_taken -/
def sp_law_taken (K : PySem.W.Frag) : Sp := fun vs H Q _ => ∃ (r a : Addr) (m : Int), vs = [.ref r, .int m] ∧ RowSt K H r a ∧ 1 ≤ m ∧ m ≤ 1000000 ∧ ∀ (x : Int) H', 0 ≤ x → x < m → Gx [r] H H' → RowSt K H' r a → Q (.int x) H'
theorem ok_law_taken (T : Txt K mg base) : FnOk P w K mg base CX0 1 T.law_taken.f T.law_taken.fd p_law_taken (sp_law_taken K) := by
  refine T.law_taken.F.ok sc_law_taken (fun vs H Q E h => ?_) (fun A outer s H vs Q E hr h => ?_)
  · obtain ⟨_, _, _, rfl, _⟩ := h
    rfl
  · obtain ⟨r, a, m, rfl, ⟨ns, i, st, d, hr0, hS, har, hi, hst, hst2⟩, h1, h2, q⟩ := h
    refine ⟨_, pss_cons (ps_if (pt_cmpR op_gt (pe_ix ix_list (pv 0) pe_int (fun _ _ => rfl)) pe_int (nomark _))
        (pss_cons (ps_set (i := 2) sc_law_taken.nd rfl (.inl rfl) (pe_op op_modN (pe_callTy call_int1 (by rfl) T.b_int boot_int (pa_cons (pe_ix ix_list (pv 0) pe_int (fun _ _ => rfl)) pa_nil)) (pv 1)))
        (pss_cons (ps_asg (pe_op op_fdivN (pe_ix ix_list (pv 0) pe_int (fun _ _ => rfl)) (pv 1)) (pg_sub (pv 0) pe_int set_list))
        (pss_one (ps_ret (pv 2))))) pss_nil)
      (pss_cons (ps_asg (pe_op op_add (pe_ix ix_list (pv 0) pe_int (fun _ _ => rfl)) pe_int) (pg_sub (pv 0) pe_int set_list))
      (pss_cons (ps_if (pt_cmpR op_gt (pe_ix ix_list (pv 0) pe_int (fun _ _ => rfl)) (pe_callB call_len_seq (by rfl) T.b_len PySem.boot_len (pa_cons (pe_ix ix_list (pv 0) pe_int (fun _ _ => rfl)) pa_nil)) (nomark _))
        (pss_cons (ps_asg (pe_op op_modN (pe_callTy call_int1 (by rfl) T.b_int boot_int (pa_cons (pe_op op_add (pe_op op_mul (pe_ix ix_list (pv 0) pe_int (fun _ _ => rfl)) pe_int) pe_int) pa_nil)) pe_int) (pg_sub (pv 0) pe_int set_list))
        (pss_one (ps_ret (pe_op op_modN (pe_callTy call_int1 (by rfl) T.b_int boot_int (pa_cons (pe_op op_fdivN (pe_ix ix_list (pv 0) pe_int (fun _ _ => rfl)) pe_int) pa_nil)) (pv 1))))) pss_nil)
      (pss_cons (ps_set (i := 3) sc_law_taken.nd rfl (.inl rfl) (pe_ix ix_list (pe_ix ix_list (pv 0) pe_int (fun _ _ => rfl)) (pe_op op_sub (pe_ix ix_list (pv 0) pe_int (fun _ _ => rfl)) pe_int) (fun _ _ => rfl)))
      (pss_cons (ps_asg (pe_op op_modN (pe_callTy call_int1 (by rfl) T.b_int boot_int (pa_cons (pe_op op_add (pe_op op_add (pe_op op_mul (pe_ix ix_list (pv 0) pe_int (fun _ _ => rfl)) pe_int) (pv 3)) pe_int) pa_nil)) pe_int) (pg_sub (pv 0) pe_int set_list))
      (pss_cons (ps_if (pt_cmpR op_ge (pv 3) (pe_op op_pow pe_int pe_int) (nomark _)) (pss_one (ps_asg (pe_op op_fdivN (pv 3) (pv 1)) (pg_sub (pv 0) pe_int set_list))) pss_nil)
      (pss_one (ps_ret (pe_op op_modN (pe_callTy call_int1 (by rfl) T.b_int boot_int (pa_cons (pv 3) pa_nil)) (pv 1))))))))), ?_⟩
    have hm0 : m ≠ 0 := by omega
    have hmb : m.natAbs < 1073741824 := by omega
    refine ⟨.ref r, rfl, r, _, 3, .int d, rfl, rfl, .inl (.inl hr0), atI_nat (j := 3) rfl, d, 0, rfl, rfl, _, rfl, ite2 (fun _ => ?_) (fun _ => ?_)⟩
    · -- digits of a great cell
      refine ⟨.ref r, rfl, r, _, 3, .int d, rfl, rfl, .inl (.inl hr0), atI_nat (j := 3) rfl, .inl ⟨d, rfl, .int m, rfl, d, m, rfl, rfl, hm0, ?_⟩⟩
      refine ⟨.ref r, rfl, r, _, 3, .int d, rfl, rfl, .inl (.inl hr0), atI_nat (j := 3) rfl, .int m, rfl, d, m, rfl, rfl, ⟨hm0, hmb⟩, .ref r, rfl, r, _, 3, 3, rfl, rfl, hr0, rfl, ?_⟩
      obtain ⟨f1, f2⟩ := fmod_range (x := d) (show 0 < m by omega)
      exact ⟨_, rfl, q _ _ f1 f2 (Gx.refl.wrS (List.mem_singleton.mpr rfl)) ⟨ns, i, st, d.fdiv m, upd_same, seqL_upd hS har, har, hi, hst, hst2⟩⟩
    · refine ⟨.ref r, rfl, r, _, 1, .int i, rfl, rfl, .inl (.inl hr0), atI_nat (j := 1) rfl, i, 1, rfl, rfl, .ref r, rfl, r, _, 1, 1, rfl, rfl, hr0, rfl, ?_⟩
      have hr1 : upd H r (.lst ([.ref a, .int i, .int st, .int d].set 1 (.int (i + 1)))) r = some (.lst [.ref a, .int (i + 1), .int st, .int d]) := upd_same
      have hS1 : SqL K (upd H r (.lst ([.ref a, .int i, .int st, .int d].set 1 (.int (i + 1))))) a (ns.map V.int) := seqL_upd hS har
      have g1 : Gx [r] H (upd H r (.lst ([.ref a, .int i, .int st, .int d].set 1 (.int (i + 1))))) := Gx.refl.wrS (List.mem_singleton.mpr rfl)
      generalize upd H r (.lst ([.ref a, .int i, .int st, .int d].set 1 (.int (i + 1)))) = H1 at *
      refine ⟨.ref r, rfl, r, _, 1, .int (i + 1), rfl, rfl, .inl (.inl hr1), atI_nat (j := 1) rfl, .ref r, rfl, r, _, 0, .ref a, rfl, rfl, .inl (.inl hr1), atI_nat (j := 0) rfl, a, _, rfl, .inl hS1, i + 1, _, rfl, rfl, _, rfl, ite2 (fun _ => ?_) (fun hlen => ?_)⟩
      · -- behind the script
        refine ⟨.ref r, rfl, r, _, 2, .int st, rfl, rfl, .inl (.inl hr1), atI_nat (j := 2) rfl, st, 48271, rfl, rfl, .inl ⟨by omega, by omega⟩, st * 48271, 11, rfl, rfl, .inl ⟨_, rfl, _, 2147483647, rfl, rfl, (by show (2147483647 : Int) ≠ 0; decide), .ref r, rfl, r, _, 2, 2, rfl, rfl, hr1, rfl, ?_⟩⟩
        obtain ⟨f1, f2⟩ := fmod_range (x := st * 48271 + 11) (show (0 : Int) < 2147483647 by decide)
        have hr2 : upd H1 r (.lst ([.ref a, .int (i + 1), .int st, .int d].set 2 ((.int (Int.fmod (st * 48271 + 11) 2147483647))))) r = some (.lst [.ref a, .int (i + 1), (.int (Int.fmod (st * 48271 + 11) 2147483647)), .int d]) := upd_same
        refine ⟨.ref r, rfl, r, _, 2, (.int (Int.fmod (st * 48271 + 11) 2147483647)), rfl, rfl, .inl (.inl hr2), atI_nat (j := 2) rfl, (Int.fmod (st * 48271 + 11) 2147483647), 7, rfl, rfl, ⟨by decide, by decide⟩, .inl ⟨_, rfl, .int m, rfl, _, m, rfl, rfl, hm0, ?_⟩⟩
        obtain ⟨e1, e2⟩ := fmod_range (x := (Int.fmod (st * 48271 + 11) 2147483647).fdiv 7) (show 0 < m by omega)
        exact q _ _ e1 e2 (g1.wrS (List.mem_singleton.mpr rfl)) ⟨ns, i + 1, _, d, hr2, seqL_upd hS1 har, har, by omega, f1, f2⟩
      · have hl : i < (ns.length : Int) := by
          have hlen' : ¬ (decide (((ns.map V.int).length : Int) < i + 1) = true) := hlen
          rw [List.length_map] at hlen'
          simp at hlen'
          omega
        obtain ⟨k, hk⟩ := Int.eq_ofNat_of_zero_le hi
        subst hk
        have hkl : k < ns.length := by omega
        refine ⟨.ref r, rfl, r, _, 0, .ref a, rfl, rfl, .inl (.inl hr1), atI_nat (j := 0) rfl, .ref r, rfl, r, _, 1, .int ((k : Int) + 1), rfl, rfl, .inl (.inl hr1), atI_nat (j := 1) rfl, (k : Int) + 1, 1, rfl, rfl, a, _, (k : Int) + 1 - 1, .int ns[k], rfl, rfl, hS1, at_of (j := k) (by omega) ?_, ?_⟩
        · rw [List.getElem?_map, List.getElem?_eq_getElem hkl]
          rfl
        generalize ns[k] = cell
        refine ⟨.ref r, rfl, r, _, 2, .int st, rfl, rfl, .inl (.inl hr1), atI_nat (j := 2) rfl, st, 48271, rfl, rfl, .inl ⟨by omega, by omega⟩, .int cell, rfl, st * 48271, cell, rfl, rfl, st * 48271 + cell, 11, rfl, rfl, .inl ⟨_, rfl, _, 2147483647, rfl, rfl, (by show (2147483647 : Int) ≠ 0; decide), .ref r, rfl, r, _, 2, 2, rfl, rfl, hr1, rfl, ?_⟩⟩
        obtain ⟨f1, f2⟩ := fmod_range (x := st * 48271 + cell + 11) (show (0 : Int) < 2147483647 by decide)
        have hr2 : upd H1 r (.lst ([.ref a, .int ((k : Int) + 1), .int st, .int d].set 2 ((.int (Int.fmod (st * 48271 + cell + 11) 2147483647))))) r = some (.lst [.ref a, .int ((k : Int) + 1), (.int (Int.fmod (st * 48271 + cell + 11) 2147483647)), .int d]) := upd_same
        have hS2 := seqL_upd (o := .lst ([.ref a, .int ((k : Int) + 1), .int st, .int d].set 2 ((.int (Int.fmod (st * 48271 + cell + 11) 2147483647))))) hS1 har
        have g2 : Gx [r] H (upd H1 r (.lst ([.ref a, .int ((k : Int) + 1), .int st, .int d].set 2 ((.int (Int.fmod (st * 48271 + cell + 11) 2147483647)))))) := g1.wrS (List.mem_singleton.mpr rfl)
        obtain ⟨e1, e2⟩ := fmod_range (x := cell) (show 0 < m by omega)
        refine ⟨.int cell, rfl, 10, 18, rfl, rfl, ⟨by decide, by decide, by decide⟩, cell, _, rfl, rfl, _, rfl, ite2 (fun _ => ?_) (fun _ => ?_)⟩
        · refine ⟨.int cell, rfl, .int m, rfl, cell, m, rfl, rfl, ⟨hm0, hmb⟩, .ref r, rfl, r, _, 3, 3, rfl, rfl, hr2, rfl, ?_⟩
          exact ⟨.int cell, rfl, .inl ⟨cell, rfl, .int m, rfl, cell, m, rfl, rfl, hm0, q _ _ e1 e2 (g2.wrS (List.mem_singleton.mpr rfl)) ⟨ns, (k : Int) + 1, _, cell.fdiv m, upd_same, seqL_upd hS2 har, har, by omega, f1, f2⟩⟩⟩
        · exact ⟨.int cell, rfl, .inl ⟨cell, rfl, .int m, rfl, cell, m, rfl, rfl, hm0, q _ _ e1 e2 g2 ⟨ns, (k : Int) + 1, _, d, hr2, hS2, har, by omega, f1, f2⟩⟩⟩

end K82

set_option Elab.async false
set_option linter.all false
set_option maxRecDepth 100000
set_option maxHeartbeats 4000000
namespace K82
open PySem PySem.Spec PyProof.Rows L2 TK MR
variable {P : Program} {w : World} {K : PySem.W.Frag} {mg : Str → Option Value} {base : Heap}
theorem Gx.seqLne {H H1 : Hp} {r l : Addr} {xs : List V} (g : Gx [r] H H1) (n : l ≠ r) (h : SqL K H l xs) : SqL K H1 l xs := by
  have nn : l ∉ [r] := fun z => n (List.mem_singleton.mp z)
  rcases h with (h | ⟨o', h⟩) | h
  · exact .inl (.inl (g.at nn h fun _ z => by cases z))
  · exact .inl (.inr ⟨o', g.at nn h fun _ z => by cases z⟩)
  · exact .inr h
/-! _law_pick -/
def sp_law_pick (K : PySem.W.Frag) : Sp := fun vs H Q _ => ∃ (r a l : Addr) (xs : List V), vs = [.ref r, .ref l] ∧ RowSt K H r a ∧ SqL K H l xs ∧ l ≠ r ∧ 1 ≤ xs.length ∧ xs.length ≤ 1000 ∧ ∀ (j : Nat) (v : V) H', xs[j]? = some v → Gx [r] H H' → RowSt K H' r a → Q v H'
theorem ok_law_pick (T : Txt K mg base) : FnOk P w K mg base CX0 2 T.law_pick.f T.law_pick.fd p_law_pick (sp_law_pick K) := by
  refine T.law_pick.F.ok sc_law_pick (fun vs H Q E h => ?_) (fun A outer s H vs Q E hr h => ?_)
  · obtain ⟨_, _, _, _, rfl, _⟩ := h
    rfl
  · obtain ⟨r, a, l, xs, rfl, hR, hS, hne, h1, h2, q⟩ := h
    refine ⟨_, pss_one (ps_ret (pe_ix ix_list (pv 1) (pe_call (ok_law_taken T) hr (by rfl) T.law_taken.g T.law_taken.F.kp T.law_taken.b .nil pass0 (pa_cons (pv 0) (pa_cons (pe_callB call_len_seq (by rfl) T.b_len PySem.boot_len (pa_cons (pv 1) pa_nil)) pa_nil))) (fun _ _ => rfl))), ?_⟩
    refine ⟨.ref l, rfl, .ref r, rfl, .ref l, rfl, l, xs, rfl, .inl hS, r, a, _, rfl, hR, by omega, by omega, fun x H' hx0 hx1 g hR' => ?_⟩
    obtain ⟨k, hk⟩ := Int.eq_ofNat_of_zero_le hx0
    subst hk
    have hkl : k < xs.length := by omega
    have e : xs[k]? = some xs[k] := List.getElem?_eq_getElem hkl
    exact ⟨l, xs, (k : Int), xs[k], rfl, rfl, Gx.seqLne g hne hS, atI_nat e, q k _ H' e g hR'⟩
/-! _law_rows -/
theorem ok_law_rows (T : Txt K mg base) : FnOk P w K mg base CX0 1 T.law_rows.f T.law_rows.fd p_law_rows (sp_all_rows K) := by
  refine T.law_rows.F.ok sc_law_rows (fun vs H Q E h => ?_) (fun A outer s H vs Q E hr h => ?_)
  · obtain ⟨sz, ar, rfl, _⟩ := h
    rfl
  · obtain ⟨sz, ar, rfl, h1, h2, q⟩ := h
    refine ⟨_, pss_cons (ps_set (i := 2) sc_law_rows.nd rfl (.inl rfl) (pe_lst (pa_cons (pe_tup pa_nil) pa_nil)))
      (pss_cons (ps_for PassesOwn.never rfl (pi_range1 (by rfl) T.b_range (pa_cons (pv 1) pa_nil)) (pg_name (i := 3) sc_law_rows.nd rfl (.inl rfl))
        (pss_cons (ps_set (i := 4) sc_law_rows.nd rfl (.inl rfl) (pe_lst pa_nil))
        (pss_cons (ps_for PassesOwn.never rfl (pi_list (pv 2)) (pg_name (i := 5) sc_law_rows.nd rfl (.inr rfl))
          (pss_one (ps_set (i := 4) sc_law_rows.nd rfl (.inl rfl) (pe_op op_cat (pv 4)
            (pe_lc (own := [("value", 6)]) (g := gName 6) (tt := tYes) rfl sc_law_rows.nd (pi_range1 (by rfl) T.b_range (pa_cons (pv 0) pa_nil))
              (blkOk_by (N := n_law_rows) (sc := defScope s_law_rows) (by decide +kernel)) (fun _ _ _ _ _ => pg_name (i := 6) sc_law_rows.nd rfl (Or.inl rfl)) (fun _ _ _ _ _ => pts_nil)
              (fun _ _ _ _ _ => pe_op (op_catAK K) (pv 5) (pe_tup (pa_cons (pv 6) pa_nil))))))))
        (pss_one (ps_set (i := 2) sc_law_rows.nd rfl (.inl rfl) (pv 4))))))
      (pss_one (ps_ret (pv 2)))), ?_⟩
    -- found = [()]
    refine ⟨Nat.zero_le _, fun t nt => ⟨by show 1 ≤ sizeLine; decide, fun p np => ?_⟩⟩
    have np0 : H p = none := Gr.free (Gx.new nt) np
    have g0 : Gr H (upd (upd H t (.tup [])) p (.lst [.ref t])) := (Gx.new nt).trans (Gx.new np)
    have l0 : LR K (upd (upd H t (.tup [])) p (.lst [.ref t])) p (allRows sz 0) := by
      refine ⟨_, upd_same, .one (.row (ns := []) ?_)⟩
      have : t ≠ p := fun e => by
        rw [e, upd_same] at np
        cases np
      rw [upd_ne this, upd_same]
      rfl
    refine ⟨.int ar, rfl, ar, rfl, by omega, by omega, ?_⟩
    refine for_range (n := (ar : Int).toNat) (fun i σ H' => ∃ p y3 y4 y5, σ = [some (.int sz), some (.int ar), some (.ref p), y3, y4, y5, none] ∧ Gr H H' ∧ H p = none ∧ LR K H' p (allRows sz i)) ⟨p, none, none, none, rfl, g0, np0, l0⟩ (fun i σ H' hi hp => ?_) (fun σ H' hp => ?_)
    · obtain ⟨p1, y3, y4, y5, rfl, g1, n1, vs1, hp1, hd1⟩ := hp
      have hi4 : i < 4 := by omega
      have lr4 : (allRows sz i).length * sz ≤ 256 := by
        rw [allRows_len]
        exact Nat.mul_le_mul (Nat.le_trans (Nat.pow_le_pow_left h1 i) (Nat.pow_le_pow_right (show 0 < 4 by omega) (show i ≤ 3 by omega))) h1
      have lx : vs1.length = (allRows sz i).length := by rw [hd1.1, List.length_map]
      -- more = []
      refine ⟨Nat.zero_le _, fun m0 nm0 => ?_⟩
      have gm : Gr H' (upd H' m0 (.lst [])) := Gx.new nm0
      refine ⟨.ref p1, rfl, p1, rfl, ⟨_, gm.seqL (.inl (.inl hp1))⟩, ?_⟩
      refine for_list (K := K) (xs := vs1) (fun j σ H2 => ∃ m y5, σ = [some (.int sz), some (.int ar), some (.ref p1), some (.int (0 + (i : Int))), some (.ref m), y5, none] ∧ Gr H' H2 ∧ H' m = none ∧ LR K H2 m (ext sz ((allRows sz i).take j)))
        ⟨m0, y5, rfl, gm, nm0, [], upd_same, .nil⟩ (fun j σ H2 _ hp => by obtain ⟨_, _, _, g2, _⟩ := hp; exact g2.seqL (.inl (.inl hp1))) (fun j x σ H2 ex hp => ?_) (fun σ H2 hp => ?_)
      · obtain ⟨m, y5', rfl, g2, nm, ms, hm, hms⟩ := hp
        obtain ⟨dx, e1, dv⟩ := hd1.at' ex
        rw [List.getElem?_map] at e1
        obtain ⟨r, er, rfl⟩ := Option.map_eq_some_iff.mp e1
        have hr4 := (allRows_ok (List.mem_of_getElem? er)).1
        refine ⟨.ref m, rfl, .int sz, rfl, sz, rfl, by omega, by omega, fun D nD => ?_⟩
        have hj : j < (allRows sz i).length := (List.getElem?_eq_some_iff.mp er).1
        have hDm : D ≠ m := fun z => by rw [z, hm] at nD; cases nD
        refine lc_range (n := (sz : Int).toNat) (fun b H3 => Gr H2 H3 ∧ b ≤ sz ∧ LR K H3 D ((List.range b).map fun (v : Nat) => r ++ [(v : Int)])) ⟨Gx.new nD, Nat.zero_le _, [], upd_same, .nil⟩ (fun b H3 hb p => ?_) (fun H3 p => ?_)
        · obtain ⟨g3, hb', ws, hD, hds⟩ := p
          have hb2 : b < sz := by omega
          refine ⟨rfl, yesT ⟨x, rfl, .int (0 + (b : Int)), rfl, by show 1 ≤ sizeLine; decide, fun t nt => ?_⟩⟩
          have gt : Gr H3 (upd H3 t (.tup [.int (0 + (b : Int))])) := Gx.new nt
          dsimp only [tC]
          refine cat_one (r := r) (n := 0 + (b : Int)) ((dv.gr (g2.trans g3)).gr gt) upd_same (by omega) fun u H4 g4 du => ?_
          have hD4 : H4 D = some (.lst ws) := (gt.trans g4).lst hD
          refine ⟨ws, hD4, ?_, ((g3.trans gt).trans g4).wr nD, hb2, _, upd_same, ?_⟩
          · rw [hds.1, List.length_map, List.length_map, List.length_range]
            exact small1000 (by omega)
          · rw [List.range_succ, List.map_append]
            rw [Int.zero_add] at du
            exact LR.app ((hds.gr (gt.trans g4)).wr hD4) (DT.wr hD4 du)
        · obtain ⟨g3, _, ws, hD, hds⟩ := p
          have hm3 := g3.lst hm
          have hms3 := hms.gr g3
          refine ⟨m, D, ms, ws, rfl, rfl, hm3, hD, ?_, fun p2 np2 => ?_⟩
          · have q1 := hms.1
            have q2 := hds.1
            rw [List.length_map, ext_len, List.length_take] at q1
            rw [List.length_map, List.length_map, List.length_range] at q2
            have : min j (allRows sz i).length * sz ≤ 256 := Nat.le_trans (Nat.mul_le_mul_right _ (Nat.min_le_right _ _)) lr4
            exact Nat.le_of_lt (small1000 (by omega))
          · refine ⟨p2, some x, rfl, (g2.trans g3).trans (Gx.new np2), ?_, _, upd_same, ?_⟩
            · exact (g2.trans g3).free np2
            · rw [List.take_add_one, er, ext_app]
              show DTs K _ _ ((ext sz ((allRows sz i).take j) ++ ext sz [r]).map rowD)
              rw [ext_one, List.map_append]
              have q : (sz : Int).toNat = sz := by omega
              rw [q] at hds
              exact (hms3.app hds).gr (Gx.new np2)
      · obtain ⟨m, y5', rfl, g2, nm, hl⟩ := hp
        rw [lx, List.take_length] at hl
        exact ⟨.ref m, rfl, m, _, _, _, rfl, g1.trans g2, g1.free nm, hl⟩
    · obtain ⟨p1, y3, y4, y5, rfl, g1, n1, hl⟩ := hp
      exact ⟨.ref p1, rfl, q p1 H' g1 n1 (by simpa using hl)⟩

end K82

set_option Elab.async false
set_option linter.all false
set_option maxRecDepth 100000
set_option maxHeartbeats 4000000
namespace K82
open PySem PySem.Spec PyProof.Rows L2 TK MR
variable {P : Program} {w : World} {K : PySem.W.Frag} {mg : Str → Option Value} {base : Heap}
/-- told + (thing,) of any data -/
theorem cat_oneD {H : Hp} {v u : V} {es : List PyData} {d : PyData} {T : Addr} {Q : VK} (hv : DT K H v (.tuple es)) (hu : DT K H u d) (hT : H T = some (.tup [u])) (hl : es.length < 1000) (q : ∀ z H', Gr H H' → DT K H' z (.tuple (es ++ [d])) → Q z H') : rCatA K v (.ref T) H Q := by
  obtain ⟨a, xs, rfl, hS, hD⟩ := hv.tup_inv
  refine ⟨a, T, _, _, rfl, rfl, hS, .inl (.inl hT), ?_, fun e => ?_, fun _ e => (by cases e), fun _ _ p hp => ?_⟩
  · have h9 := Nat.le_of_lt (small1000 (n := es.length + 1) (by omega))
    rw [hD.1]
    simpa using h9
  · subst e
    have e : es = [] := List.length_eq_zero_iff.mp hD.1.symm
    subst e
    exact q _ _ Gx.refl (.mk hT (.one hu))
  · exact q _ _ (Gx.new hp) (.mk upd_same ((hD.app (.one hu)).gr (Gx.new hp)))
/-- a list of tuples of n things of ds -/
def TLs (K : PySem.W.Frag) (H : Hp) (ds : List PyData) (n : Nat) (ws : List V) : Prop := ∀ w ∈ ws, ∃ es, DT K H w (.tuple es) ∧ es.length = n ∧ ∀ e ∈ es, e ∈ ds
theorem TLs.gr {H H' : Hp} {ds : List PyData} {n : Nat} {ws : List V} (g : Gr H H') (h : TLs K H ds n ws) : TLs K H' ds n ws := fun w hw => let ⟨es, a, b⟩ := h w hw; ⟨es, a.gr g, b⟩
theorem TLs.wr {H : Hp} {ds : List PyData} {n : Nat} {ws : List V} {p : Addr} {xs : List V} {o : HO} (e : H p = some (.lst xs)) (h : TLs K H ds n ws) : TLs K (upd H p o) ds n ws := fun w hw => let ⟨es, a, b⟩ := h w hw; ⟨es, DT.wr e a, b⟩
theorem TLs.app {H : Hp} {ds : List PyData} {n : Nat} {ws us : List V} (h : TLs K H ds n ws) (k : TLs K H ds n us) : TLs K H ds n (ws ++ us) := fun w hw => (List.mem_append.mp hw).elim (h w) (k w)
theorem TLs.nil {H : Hp} {ds : List PyData} {n : Nat} : TLs K H ds n [] := fun w hw => by simp at hw
theorem TLs.one {H : Hp} {ds : List PyData} {n : Nat} {u : V} {es : List PyData} (h : DT K H u (.tuple es)) (hl : es.length = n) (hm : ∀ e ∈ es, e ∈ ds) : TLs K H ds n [u] := fun w hw => by
  rw [List.mem_singleton.mp hw]
  exact ⟨es, h, hl, hm⟩
/-! _law_tuples -/
def sp_law_tuples (K : PySem.W.Frag) : Sp := fun vs H Q _ => ∃ (l : Addr) (xs : List V) (ds : List PyData) (n : Nat), vs = [.ref l, .int n] ∧ SqL K H l xs ∧ DTs K H xs ds ∧ ds.length ≤ 8 ∧ n ≤ 3 ∧ ∀ p H' ws, Gr H H' → H p = none → H' p = some (.lst ws) → ws.length ≤ 512 → TLs K H' ds n ws → Q (.ref p) H'
end K82

set_option Elab.async false
set_option linter.all false
namespace MR
def idxI (sz : Nat) (as : List Int) : Int := as.foldl (fun (a x : Int) => a * (sz : Int) + x) 0
theorem idxI_app (sz : Nat) (as : List Int) (x : Int) : idxI sz (as ++ [x]) = idxI sz as * sz + x := by
  unfold idxI
  rw [List.foldl_append]
  rfl
theorem fold_bd {sz : Nat} : ∀ (as : List Int) (c : Int) (n : Nat), 0 ≤ c → c < (sz : Int) ^ n → (∀ x ∈ as, 0 ≤ x ∧ x < (sz : Int)) → 0 ≤ as.foldl (fun (a x : Int) => a * (sz : Int) + x) c ∧ as.foldl (fun (a x : Int) => a * (sz : Int) + x) c < (sz : Int) ^ (n + as.length)
  | [], c, n, h1, h2, _ => ⟨h1, h2⟩
  | x :: as, c, n, h1, h2, h => by
    obtain ⟨h3, h4⟩ := h x List.mem_cons_self
    have hs : (0 : Int) ≤ sz := Int.natCast_nonneg _
    have e : (c + 1) * (sz : Int) ≤ (sz : Int) ^ n * sz := Int.mul_le_mul_of_nonneg_right (by omega) hs
    rw [Int.add_mul, Int.one_mul] at e
    have q := fold_bd as (c * sz + x) (n + 1) (Int.add_nonneg (Int.mul_nonneg h1 hs) h3) (by rw [Int.pow_succ]; omega) fun y hy => h y (List.mem_cons_of_mem _ hy)
    rw [List.length_cons, show n + (as.length + 1) = n + 1 + as.length by omega]
    exact q
theorem idxI_bd {sz : Nat} (as : List Int) (h : ∀ x ∈ as, 0 ≤ x ∧ x < (sz : Int)) : 0 ≤ idxI sz as ∧ idxI sz as < (sz : Int) ^ as.length := by
  have q := fold_bd as 0 0 (Int.le_refl _) (by rw [Int.pow_zero]; decide) h
  rw [Nat.zero_add] at q
  exact q
theorem idxI_nat {sz : Nat} {as : List Int} (h : ∀ x ∈ as, 0 ≤ x ∧ x < (sz : Int)) : (idxI sz as).toNat < sz ^ as.length := by
  obtain ⟨h1, h2⟩ := idxI_bd as h
  have : ((idxI sz as).toNat : Int) < ((sz ^ as.length : Nat) : Int) := by
    rw [Int.toNat_of_nonneg h1, Int.natCast_pow]
    exact h2
  omega
/-- the row to which an operation with this table carries rows of so many places -/
def carried (sz : Nat) (tab : List Int) (rs : List (List Int)) (ar : Nat) : List Int := (List.range ar).map fun a => tab.getD (idxI sz (rs.map fun r => r.getD a 0)).toNat 0
theorem carried_len (sz : Nat) (tab : List Int) (rs : List (List Int)) (ar : Nat) : (carried sz tab rs ar).length = ar := by
  unfold carried
  rw [List.length_map, List.length_range]
theorem getD_ok {tab : List Int} {sz : Int} (h : ∀ x ∈ tab, 0 ≤ x ∧ x < sz) (hs : 0 < sz) (i : Nat) : 0 ≤ tab.getD i 0 ∧ tab.getD i 0 < sz := by
  rw [List.getD_eq_getElem?_getD]
  cases e : tab[i]? with
  | none => exact ⟨Int.le_refl _, hs⟩
  | some x => exact h x (List.mem_of_getElem? e)
theorem carried_ok {sz : Nat} {tab : List Int} {rs : List (List Int)} {ar : Nat} (h : ∀ x ∈ tab, 0 ≤ x ∧ x < (sz : Int)) (hs : 1 ≤ sz) : ∀ x ∈ carried sz tab rs ar, 0 ≤ x ∧ x < (sz : Int) := fun x hx => by
  unfold carried at hx
  obtain ⟨a, _, rfl⟩ := List.mem_map.mp hx
  exact getD_ok h (by omega) _
end MR

set_option Elab.async false
set_option linter.all false
set_option maxRecDepth 100000
set_option maxHeartbeats 4000000
namespace K82
open PySem PySem.Spec PyProof.Rows L2 TK MR
variable {P : Program} {w : World} {K : PySem.W.Frag} {mg : Str → Option Value} {base : Heap}
/-- an operation: how many arguments, its table -/
def opD (k : Int) (tab : List Int) : PyData := .tuple [.int k, rowD tab]
theorem DT.op_inv {H : Hp} {v : V} {k : Int} {tab : List Int} (h : DT K H v (opD k tab)) : ∃ a b, v = .ref a ∧ SqT K H a [.int k, .ref b] ∧ SqT K H b (tab.map V.int) := by
  obtain ⟨a, xs, e, h1, h2⟩ := h.tup_inv
  obtain ⟨v1, r1, rfl, h3, h4⟩ := h2.cons_inv
  obtain ⟨v2, r2, rfl, h5, h6⟩ := h4.cons_inv
  have := h6.nil_inv
  subst this
  obtain ⟨b, rfl, h7⟩ := DT.row_inv h5
  rw [h3.int_inv] at h1
  exact ⟨a, b, e, h1, h7⟩
/-! _law_value -/
def sp_law_value (K : PySem.W.Frag) : Sp := fun vs H Q _ => ∃ (sz : Nat) (v : V) (l : Addr) (as tab : List Int) (k : Int), vs = [.int sz, v, .ref l] ∧ sz ≤ 4 ∧ DT K H v (opD k tab) ∧ SqL K H l (as.map V.int) ∧ (∀ x ∈ as, 0 ≤ x ∧ x < (sz : Int)) ∧ as.length ≤ 3 ∧ tab.length = sz ^ as.length ∧ Q (.int (tab.getD (idxI sz as).toNat 0)) H
/-! _law_carried -/
def sp_law_carried (K : PySem.W.Frag) : Sp := fun vs H Q _ => ∃ (sz : Nat) (v u : V) (rs : List (List Int)) (tab : List Int) (k : Int) (ar : Nat), vs = [.int sz, v, u] ∧ sz ≤ 4 ∧ DT K H v (opD k tab) ∧ DT K H u (.tuple (rs.map rowD)) ∧ rs ≠ [] ∧ rs.length ≤ 3 ∧ (∀ r ∈ rs, r.length = ar ∧ ∀ x ∈ r, 0 ≤ x ∧ x < (sz : Int)) ∧ ar ≤ 4 ∧ tab.length = sz ^ rs.length ∧
  ∀ z H', Gr H H' → DT K H' z (rowD (carried sz tab rs ar)) → Q z H'
end K82

set_option Elab.async false
set_option linter.all false
set_option maxRecDepth 100000
namespace MR
def minOf : List Int → Int
  | [] => 0
  | n :: ns => ns.foldl min n
def maxOf : List Int → Int
  | [] => 0
  | n :: ns => ns.foldl max n
/-- the ascending arrangement -/
def ins (x : Int) : List Int → List Int
  | [] => [x]
  | y :: ys => if x ≤ y then x :: y :: ys else y :: ins x ys
def isort : List Int → List Int
  | [] => []
  | x :: xs => ins x (isort xs)
theorem ins_perm (x : Int) : ∀ l, (ins x l).Perm (x :: l)
  | [] => List.Perm.refl _
  | y :: ys => by
    unfold ins
    split
    · exact List.Perm.refl _
    · exact ((ins_perm x ys).cons y).trans (List.Perm.swap x y ys)
theorem isort_perm : ∀ l, (isort l).Perm l
  | [] => List.Perm.refl _
  | x :: xs => (ins_perm x _).trans ((isort_perm xs).cons x)
theorem ins_asc (x : Int) : ∀ {l : List Int}, l.Pairwise (· ≤ ·) → (ins x l).Pairwise (· ≤ ·)
  | [], _ => List.pairwise_singleton ..
  | y :: ys, h => by
    obtain ⟨h1, h2⟩ := List.pairwise_cons.mp h
    unfold ins
    split
    · rename_i hxy
      exact List.pairwise_cons.mpr ⟨fun z hz => (List.mem_cons.mp hz).elim (fun e => e ▸ hxy) fun hz => Int.le_trans hxy (h1 z hz), h⟩
    · rename_i hxy
      refine List.pairwise_cons.mpr ⟨fun z hz => ?_, ins_asc x h2⟩
      rcases List.mem_cons.mp ((ins_perm x ys).subset hz) with e | hz
      · rw [e]
        omega
      · exact h1 z hz
theorem isort_asc : ∀ l, (isort l).Pairwise (· ≤ ·)
  | [] => List.Pairwise.nil
  | x :: xs => ins_asc x (isort_asc xs)
/-- the second of the ascending list -/
def mid (r : List Int) : Int := (isort r).getD 1 0
def dif (sz : Nat) (r : List Int) : Int := Int.fmod (r.getD 0 0 - r.getD 1 0 + r.getD 2 0) sz
def pix (r : List Int) : Int := if r.getD 1 0 = r.getD 2 0 then r.getD 1 0 else r.getD 0 0
def named (sz : Nat) : List (Nat × List Int) :=
  [(2, (allRows sz 2).map minOf), (2, (allRows sz 2).map maxOf), (3, (allRows sz 3).map mid), (3, (allRows sz 3).map (dif sz)), (1, List.replicate sz 0), (3, (allRows sz 3).map pix)]
/-- two ascending arrangements are one -/
theorem sorted_one : ∀ {l m : List Int}, l.Perm m → l.Pairwise (· ≤ ·) → m.Pairwise (· ≤ ·) → l = m
  | [], m, h, _, _ => (List.nil_perm.mp h).symm
  | a :: l, [], h, _, _ => absurd h.length_eq (by simp)
  | a :: l, b :: m, h, h1, h2 => by
    have ha : a ∈ b :: m := h.subset List.mem_cons_self
    have hb : b ∈ a :: l := h.symm.subset List.mem_cons_self
    have e : a = b := by
      rcases List.mem_cons.mp ha with e | ha
      · exact e
      · rcases List.mem_cons.mp hb with e | hb
        · exact e.symm
        · exact Int.le_antisymm ((List.pairwise_cons.mp h1).1 b hb) ((List.pairwise_cons.mp h2).1 a ha)
    subst e
    rw [sorted_one (List.perm_cons a |>.mp h) (List.pairwise_cons.mp h1).2 (List.pairwise_cons.mp h2).2]
theorem mid_eq {r l : List Int} (h : l.Perm r) (hs : l.Pairwise (· ≤ ·)) : l.getD 1 0 = mid r := by
  unfold mid
  rw [sorted_one (h.trans (isort_perm r).symm) hs (isort_asc r)]
/-- an operation of so many arguments: its table -/
structure OpOk (sz k : Nat) (tab : List Int) : Prop where
  k1 : 1 ≤ k
  k3 : k ≤ 3
  len : tab.length = sz ^ k
  val : ∀ x ∈ tab, 0 ≤ x ∧ x < (sz : Int)
  /-- equal arguments give themselves, or all give zero -/
  own : (∀ v : Nat, v < sz → tab.getD (idxI sz (List.replicate k (v : Int))).toNat 0 = v) ∨ (∀ x ∈ tab, x = 0)
def opB (sz : Nat) (o : Nat × List Int) : Bool :=
  decide (1 ≤ o.1) && decide (o.1 ≤ 3) && decide (o.2.length = sz ^ o.1) && (o.2.all fun x => decide (0 ≤ x) && decide (x < (sz : Int))) &&
    (((List.range sz).all fun v => decide (o.2.getD (idxI sz (List.replicate o.1 (v : Int))).toNat 0 = v)) || o.2.all fun x => decide (x = 0))
theorem op_by {sz : Nat} {o : Nat × List Int} (h : opB sz o = true) : OpOk sz o.1 o.2 := by
  unfold opB at h
  simp only [Bool.and_eq_true, Bool.or_eq_true, decide_eq_true_eq, List.all_eq_true, List.mem_range] at h
  obtain ⟨⟨⟨⟨h1, h2⟩, h3⟩, h4⟩, h5⟩ := h
  exact ⟨h1, h2, h3, h4, h5⟩
theorem named_ok1 : (named 1).all (opB 1) = true := by decide +kernel
theorem named_ok2 : (named 2).all (opB 2) = true := by decide +kernel
theorem named_ok3 : (named 3).all (opB 3) = true := by decide +kernel
theorem named_ok4 : (named 4).all (opB 4) = true := by decide +kernel
theorem named_ok {sz : Nat} (h1 : 1 ≤ sz) (h4 : sz ≤ 4) : ∀ o ∈ named sz, OpOk sz o.1 o.2 := fun o ho => by
  have e : sz = 1 ∨ sz = 2 ∨ sz = 3 ∨ sz = 4 := by omega
  rcases e with rfl | rfl | rfl | rfl
  · exact op_by (List.all_eq_true.mp named_ok1 o ho)
  · exact op_by (List.all_eq_true.mp named_ok2 o ho)
  · exact op_by (List.all_eq_true.mp named_ok3 o ho)
  · exact op_by (List.all_eq_true.mp named_ok4 o ho)
end MR

set_option Elab.async false
set_option linter.all false
set_option maxRecDepth 100000
set_option maxHeartbeats 4000000
/-! min, max, sorted of a tuple of ints; tuple * 1 -/
namespace PyProof.Rows
open PySem
open Sem (wp)
section
variable {prog : Program} {w : World} {A : Around} {E : Value → Shared → Prop} {s : Shared}
theorem collect_tupleI {l : Addr} {vs : List Value} {Q : List Value → Shared → Prop} (hl : IsTup s.heap l vs.toArray)
    (h : Q vs { s with heap := (s.heap.push (seqObj "list" #[] 0)).update s.heap.objs.size (Obj.mapSeq (· ++ vs.toArray)) }) (hsz : vs.length ≤ sizeLine) :
    wpAny (model prog w) A (collect (.ref l)) Q E s := by
  obtain ⟨o, ho, hc, n, hd⟩ := id hl
  unfold collect
  refine wpAny_bind (wpAny_runValue (codeAny_builtin entry_proto_collect' ?_))
  show wpAny _ _ (do again (.builtin "list.__iadd__" ⟨[← newList [], .ref l], []⟩)) _ _ s
  refine wpAny_bind (wpAny_newList (wpAny_pure ⟨Code.quiet_builtin _ (by decide +kernel), codeAny_builtin entry_list_iadd' ?_⟩))
  show wpAny _ _ (Builtin.List.listExtendWith (.ref s.heap.objs.size) (.ref l) (.ref s.heap.objs.size)) _ _ { s with heap := s.heap.push (seqObj "list" #[] 0) }
  unfold Builtin.List.listExtendWith
  have ho' : (s.heap.push (seqObj "list" #[] 0)).get? l = some o := Heap.get?_push_of_some _ ho
  refine wpAny_bind (wpAny_typeOf (T := "tuple") ⟨o, ho', hc⟩ ?_)
  have ht : (Value.type "tuple" == Value.type "tuple") = true := by rfl
  rw [if_pos (by rw [ht]; simp)]
  refine wpAny_bind (listItems_at ho' hd ?_)
  refine wpAny_bind (listItems_at (xs := #[]) (n := 0) (Heap.get?_push_size _ rfl) rfl ?_)
  rw [if_neg (by simp)]
  refine wpAny_bind (listUpdate_at (xs := #[]) (n := 0) (Heap.get?_push_size _ rfl) rfl ?_ (Nat.zero_le _) (by show (#[] ++ vs.toArray).size ≤ sizeLine + 1; simp only [Array.size_append, List.size_toArray, List.length_nil]; omega))
  refine wpAny_pure ?_
  show wpAny (model prog w) A (do
      let o ← load s.heap.objs.size
      match o.data with
      | .seq xs _ => pure xs.toList
      | _ => unsupported "internal:collect") Q E { s with heap := (s.heap.push (seqObj "list" #[] 0)).update s.heap.objs.size (Obj.mapSeq (· ++ vs.toArray)) }
  refine wpAny_bind (wpAny_load (get?_update_seq (Heap.get?_push_size _ rfl) _) ?_)
  show wpAny _ _ (pure ((#[] : Array Value) ++ vs.toArray).toList) Q E _
  rw [show ((#[] : Array Value) ++ vs.toArray).toList = vs by simp]
  exact wpAny_pure h
theorem sorted_intsT {l : Addr} {vs : List Value} {ns : List Int} {Q : Value → Shared → Prop} (hl : IsTup s.heap l vs.toArray) (hI : IntsAre vs ns) (h64 : vs.length < 64)
    (h : ∀ (out : Array Value) (ns' : List Int), IntsAre out.toList ns' → ns'.Perm ns → ns'.Pairwise (· ≤ ·) → Q (.ref (s.heap.objs.size + 1)) { s with heap := sortedAll s.heap vs out }) :
    wpAny (model prog w) A (call (.builtin "sorted") [.ref l]) Q E s := by
  refine Calls.call_function_entry kind_sorted plain_sorted entry_sorted (args_sorted1 _) ?_
  unfold Builtin.«sorted»
  refine wpAny_bind (m := checkCount "sorted" 1 1 _) (wpAny_pure ?_)
  refine wpAny_bind (collect_tupleI hl ?_ (by rw [sizeLine_eq]; omega))
  refine wpAny_bind (wpAny_newList ?_)
  have hsz : ((s.heap.push (seqObj "list" #[] 0)).update s.heap.objs.size (Obj.mapSeq (· ++ vs.toArray))).objs.size = s.heap.objs.size + 1 := by
    rw [Heap.size_update, size_push']
  have hoL : (((s.heap.push (seqObj "list" #[] 0)).update s.heap.objs.size (Obj.mapSeq (· ++ vs.toArray))).push (seqObj "list" vs.toArray 0)).get? (s.heap.objs.size + 1) = some (seqObj "list" vs.toArray 0) := by
    rw [← hsz]; exact Heap.get?_push_size _ rfl
  show wpAny _ _ _ _ _ { s with heap := ((s.heap.push (seqObj "list" #[] 0)).update s.heap.objs.size (Obj.mapSeq (· ++ vs.toArray))).push (seqObj "list" vs.toArray 0) }
  rw [hsz]
  refine wpAny_bind (wpAny_holding (wpAny_call_entry slot_list_sort ⟨_, hoL, rfl⟩ entry_list_sort (list_sort_tree hoL hI h64 fun out ns' a1 a2 a3 => ⟨_, rfl, ?_⟩) (args_list_sort _)))
  exact wpAny_pure ⟨_, rfl, h out ns' a1 a2 a3⟩
end
end PyProof.Rows
namespace TK
open PySem PySem.Spec PyProof.Rows L2
section
variable {X : Cx}
theorem dpAll_ints {K : PySem.W.Frag} {H : Hp} : ∀ ns : List Int, DpAll K H (ns.map V.int) (ns.map PyData.int)
  | [] => .nil
  | n :: ns => .cons (.int n) (dpAll_ints ns)
theorem alikeInts (ns : List Int) : PySem.W.AlikeAll (ns.map PyData.int) := by
  refine ⟨fun x hx y hy => ?_, fun x hx => ?_⟩
  · obtain ⟨n, _, rfl⟩ := List.mem_map.mp hx
    obtain ⟨m, _, rfl⟩ := List.mem_map.mp hy
    rfl
  · obtain ⟨n, _, rfl⟩ := List.mem_map.mp hx
    exact fun z => by cases z
theorem depthInts : ∀ ns : List Int, PyData.depthAll (ns.map PyData.int) ≤ 1
  | [] => Nat.zero_le _
  | n :: ns => Nat.max_le.mpr ⟨by show PyData.depth (.int n) ≤ 1; simp [PyData.depth], depthInts ns⟩
/-- sorted(a tuple of ints) -/
def rSortedTI (K : PySem.W.Frag) : List V → Hp → VK → Prop := fun vs H Q => ∃ (a : Addr) (ns : List Int), vs = [V.ref a] ∧ SqT K H a (ns.map V.int) ∧ ns.length < 64 ∧ ∀ (ns' : List Int) (p : Addr), ns'.Perm ns → ns'.Pairwise (· ≤ ·) → H p = none → Q (.ref p) (upd H p (.lst (ns'.map V.int)))
theorem cr_sortedTI (K : PySem.W.Frag) (hK : X.K = K := by rfl) : CallR X (.builtin "sorted") (rSortedTI K) := by
  subst hK
  intro pins s σ H vs us Q I r h
  obtain ⟨a, ns, rfl, hs, h64, q⟩ := h
  obtain ⟨its, rv, hl, _⟩ := I.tuple hs
  rw [Vals.ref1 r]
  have hi := rv.ints
  refine PyProof.Rows.sorted_intsT hl hi (by rw [hi.length]; exact h64) fun out ns' h1 h2 h3 => ?_
  obtain ⟨ep, he'⟩ := PyProof.Rows.sortedAll_at s.heap its out
  have hlen : (ns'.map V.int).length ≤ sizeLine := by rw [List.length_map, h2.length_eq]; exact small64 h64
  exact ⟨.ref _, upd H (s.heap.objs.size + 1) (.lst (ns'.map V.int)), I.laid (t' := s.toks) (fun _ _ => PyProof.Rows.sortedAll_old) (Nat.le_succ _) ⟨hlen, out.toList, ep, vals_of_ints h1, he'⟩, rfl, q ns' _ h2 h3 (I.hok.fresh (Nat.le_succ _))⟩
/-- min, max of a tuple of ints -/
def rMinT (K : PySem.W.Frag) : List V → Hp → VK → Prop := fun vs H Q => ∃ (a : Addr) (n : Int) (ns : List Int), vs = [V.ref a] ∧ SqT K H a ((n :: ns).map V.int) ∧ Q (.int (ns.foldl min n)) H
def rMaxT (K : PySem.W.Frag) : List V → Hp → VK → Prop := fun vs H Q => ∃ (a : Addr) (n : Int) (ns : List Int), vs = [V.ref a] ∧ SqT K H a ((n :: ns).map V.int) ∧ Q (.int (ns.foldl max n)) H
theorem cr_minT (K : PySem.W.Frag) (hc : X.calm = true) (hu : X.A.units + 8 < cLine) (hK : X.K = K := by rfl) : CallR X (.builtin "min") (rMinT K) := by
  subst hK
  intro pins s σ H vs us Q I r h
  obtain ⟨a, n, ns, rfl, hs, q⟩ := h
  obtain ⟨its, rv, hl, _⟩ := I.tuple hs
  rw [Vals.ref1 r]
  obtain ⟨as, hr⟩ := Dp.readsAll I ((n :: ns).map PyData.int) _ its (dpAll_ints _) rv
  refine PySem.W.min_tuple_data (I.ok.hd hc) hl (by simpa using hr) (alikeInts (n :: ns)) (by have := depthInts (n :: ns); have e : PyData.depthAll (PyData.int n :: ns.map PyData.int) ≤ 1 := this; omega) fun i v h' tk bs _ hrd hk => ?_
  rw [PySem.W.minD_ints] at hrd
  cases hrd with
  | int i t => exact ⟨.int _, H, I.kept hk, ⟨t, rfl⟩, q⟩
theorem cr_maxT (K : PySem.W.Frag) (hc : X.calm = true) (hu : X.A.units + 8 < cLine) (hK : X.K = K := by rfl) : CallR X (.builtin "max") (rMaxT K) := by
  subst hK
  intro pins s σ H vs us Q I r h
  obtain ⟨a, n, ns, rfl, hs, q⟩ := h
  obtain ⟨its, rv, hl, _⟩ := I.tuple hs
  rw [Vals.ref1 r]
  obtain ⟨as, hr⟩ := Dp.readsAll I ((n :: ns).map PyData.int) _ its (dpAll_ints _) rv
  refine PySem.W.max_tuple_data (I.ok.hd hc) hl (by simpa using hr) (alikeInts (n :: ns)) (by have := depthInts (n :: ns); have e : PyData.depthAll (PyData.int n :: ns.map PyData.int) ≤ 1 := this; omega) fun i v h' tk bs _ hrd hk => ?_
  rw [PySem.W.maxD_ints] at hrd
  cases hrd with
  | int i t => exact ⟨.int _, H, I.kept hk, ⟨t, rfl⟩, q⟩
end
end TK

set_option Elab.async false
set_option linter.all false
set_option maxRecDepth 100000
set_option maxHeartbeats 4000000
/-! a tuple of one int, times k (1 to 4) -/
namespace TK
open PySem PySem.Spec PyProof.Rows L2
theorem tuple_mul1 (l : Addr) (items : Array Value) (n : Nat) (dd : Option Addr) (sl : Array (Option Value)) (u : Tok) :
    Meets (Builtin.«tuple.__mul__» ⟨[.ref l, .int 1 u], []⟩) (fun _ R s => s.heap.get? l = some { cls := .type "tuple", dict := dd, data := .seq items n, slots := sl } ∧ R (.ok (.ret (Value.ref l))) s) :=
  .of_wp fun prog w A R s h => by
    obtain ⟨hp, g, d, tk, os⟩ := s
    obtain ⟨hl, h⟩ := h
    have f1 := AutoSeq1.idx_int
    wp_walk using wpAny_loadPart' hl
    repeat (first
      | (refine wpAny_ite_false (decide_eq_false (by decide)) ?_; wp_walk using wpAny_loadPart' hl)
      | (refine wpAny_ite_true (decide_eq_true (by simp)) ?_; wp_walk using wpAny_loadPart' hl))
    exact ⟨_, rfl, h⟩
def rRepA (K : PySem.W.Frag) : R2 := fun x y H Q => ∃ l k xs, x = .ref l ∧ y = .int k ∧ SqT K H l xs ∧ xs ≠ [] ∧ 1 ≤ k ∧ k ≤ 1000 ∧ xs.length ≤ 1000 ∧ (k = 1 → Q (.ref l) H) ∧ (2 ≤ k → ∀ p, H p = none → Q (.ref p) (upd H p (.tup (List.replicate k.toNat xs).flatten)))
theorem op_repA {X : Cx} (K : PySem.W.Frag) (hK : X.K = K := by rfl) : OpR X (binaryOp .Mult) (rRepA K) := by
  subst hK
  intro pins s σ H x y v u Q I rx ry h
  obtain ⟨l, k, xs, rfl, rfl, hT, hne, h1, h2, hz, q1, q2⟩ := h
  by_cases hk : k = 1
  · subst hk
    cases rx
    obtain ⟨t, rfl⟩ := ry
    obtain ⟨its, r, ⟨⟨cls, dd, data, sl⟩, ho, hc, n, hd⟩, hs⟩ := I.tuple hT
    simp only at hc hd
    subst hc hd
    refine wpAny_binaryOp_repeat_ref (T := "tuple") (U := "int") (by decide) ⟨_, ho, rfl⟩ (fun s' => typeIs_int s' 1 t) noFill_tuple_mul F.fills_int_mul F.slot_int_rmul repeat_tuple F.slot_int_index.lookup
      (call_meets F.slot_int_rmul (typeIs_int s 1 t) F.entry_int_rmul (F.args_int_rmul_2 _ _) (int_rmul_tuple 1 t l its.toArray n dd sl)
        ⟨ho, rfl, ⟨_, ho, rfl⟩, call_meets F.slot_tuple_mul ⟨_, ho, rfl⟩ F.entry_tuple_mul (F.args_tuple_mul_2 _ _) (tuple_mul1 l its.toArray n dd sl t) ⟨ho, ?_⟩⟩)
    exact ⟨.ref l, H, I, rfl, q1 rfl⟩
  · exact op_repT pins s σ H (.ref l) (.int k) v u Q I rx ry ⟨l, k, xs, rfl, rfl, hT, hne, by omega, h2, hz, q2 (by omega)⟩
end TK

set_option Elab.async false
set_option linter.all false
set_option maxRecDepth 100000
set_option maxHeartbeats 4000000
namespace K82
open PySem PySem.Spec PyProof.Rows L2 TK MR
variable {P : Program} {w : World} {K : PySem.W.Frag} {mg : Str → Option Value} {base : Heap}
/-- [f(told) for told in a list of rows], f an int -/
theorem lc_ints {a : Addr} {xs : List V} {rows : List (List Int)} {te : TE} {j : Nat} {vs : List Nat} {σ : L2.St} {H1 : Hp} {D : Addr} {Qd : Hp → Prop} (f : List Int → Int) (hx : DTs K H1 xs (rows.map rowD)) (ha : SqL K H1 a xs) (hl : rows.length ≤ 900) (nD : H1 D = none)
    (hw : ∀ x, wipe ((wipe σ vs).set j (some x)) vs = wipe σ vs)
    (ht : ∀ x r H2 (k : VK), r ∈ rows → Gr H1 H2 → DT K H2 x (rowD r) → (∀ H3, Gr H2 H3 → k (.int (f r)) H3) → te ((wipe σ vs).set j (some x)) H2 k)
    (hd : ∀ H2, Gr H1 H2 → H2 D = some (.lst ((rows.map f).map V.int)) → Qd H2) :
    ∃ W : Nat → Nat → Hp → Prop, (∃ m, W 0 m (upd H1 D (.lst []))) ∧ ∀ i m H, W i m H →
      ((Itl K a).stop i H ∧ Qd H) ∨ ((Itl K a).go i H ∧ ∃ Nx : Hp → Prop, (∀ H', Nx H' → ∃ m', m' < m ∧ W (i + 1) m' H') ∧ ∀ x H', (Itl K a).yld i H x H' → gName j x (wipe σ vs) H' fun σ2 H2 => wipe σ2 vs = wipe σ vs ∧ tYes σ2 H2 fun b H3 =>
        if b = true then te σ2 H3 fun y H4 => ∃ acc, H4 D = some (.lst acc) ∧ acc.length < sizeLine ∧ Nx (upd H4 D (.lst (acc ++ [y]))) else Nx H3) := by
  have lx : xs.length = rows.length := by rw [hx.1, List.length_map]
  refine lc_list (K := K) (a := a) (xs := xs) (fun i H' => Gr H1 H' ∧ H' D = some (.lst (((rows.take i).map f).map V.int))) ⟨Gx.new nD, upd_same⟩ (fun i H' _ p => p.1.seqL ha) (fun i x H' ex p => ?_) (fun H' p => ?_)
  · obtain ⟨g, hD⟩ := p
    obtain ⟨dx, e1, dv⟩ := hx.at' ex
    rw [List.getElem?_map] at e1
    obtain ⟨r, er, rfl⟩ := Option.map_eq_some_iff.mp e1
    refine ⟨hw x, yesT (ht x r H' _ (List.mem_of_getElem? er) g (dv.gr g) fun H3 g3 => ⟨_, g3.lst hD, ?_, (g.trans g3).wr nD, ?_⟩)⟩
    · rw [List.length_map, List.length_map, List.length_take]
      exact small1000 (by omega)
    · rw [upd_same, List.take_add_one, er, List.map_append, List.map_append]
      rfl
  · obtain ⟨g, hD⟩ := p
    rw [lx, List.take_length] at hD
    exact hd H' g hD
/-- (k, tuple) laid -/
theorem op_laid {H : Hp} {l t : Addr} {k : Int} {tab : List Int} (h : H l = some (.tup (tab.map V.int))) (ht : H t = none) : DT K (upd H t (.tup [.int k, .ref l])) (.ref t) (opD k tab) :=
  .mk upd_same (.cons (.int k) (.one (.row (Gx.tupS (Gx.new (S := []) ht) .nil h))))
/-- a list of operations at p -/
def LO (K : PySem.W.Frag) (H : Hp) (p : Addr) (os : List (Nat × List Int)) : Prop := ∃ vs, H p = some (.lst vs) ∧ DTs K H vs (os.map fun o => opD o.1 o.2)
theorem LO.gr {H H' : Hp} {p : Addr} {os : List (Nat × List Int)} (g : Gr H H') (h : LO K H p os) : LO K H' p os := let ⟨vs, a, b⟩ := h; ⟨vs, g.lst a, b.gr g⟩
/-- found.append(op) -/
theorem LO.add {H : Hp} {p : Addr} {os : List (Nat × List Int)} (h : LO K H p os) (hl : os.length ≤ 900) {v : V} {o : Nat × List Int} (hv : DT K H v (opD o.1 o.2)) (Q : VK) (q : ∀ H', (∀ b, b ≠ p → H' b = H b) → LO K H' p (os ++ [o]) → Q .non H') : rAppend (.ref p) [v] H Q := by
  obtain ⟨vs, a, b⟩ := h
  refine ⟨p, vs, v, rfl, rfl, a, ?_, q _ (fun c hc => upd_ne hc) ⟨_, upd_same, ?_⟩⟩
  · rw [b.1, List.length_map]
    exact small1000 (by omega)
  · rw [List.map_append]
    exact (b.wr a).app (.one (DT.wr a hv))
theorem grBut {H H1 H2 : Hp} {p : Addr} (g : Gr H H1) (n : H p = none) (h : ∀ b, b ≠ p → H2 b = H1 b) : Gr H H2 := fun b o hb e => by
  rw [h b (ne_of_none e n)]
  exact g b o hb e
/-- (k, tuple([f(told) for told in a list of rows])) -/
theorem pair_ints {wi : TI} {te : TE} {σ : L2.St} {H : Hp} {Q : VK} {rows : List (List Int)} (k : Int) (f : List Int → Int) (hwi : ∀ R : It → Hp → Prop, (∀ p xs H1, Gr H H1 → SqL K H1 p xs → DTs K H1 xs (rows.map rowD) → R (Itl K p) H1) → wi σ H R) (hl : rows.length ≤ 900)
    (ht : ∀ x r H2 (k : VK), r ∈ rows → Gr H H2 → DT K H2 x (rowD r) → (∀ H3, Gr H2 H3 → k (.int (f r)) H3) → te ((wipe σ [2]).set 2 (some x)) H2 k)
    (q : ∀ v H', Gr H H' → DT K H' v (opD k (rows.map f)) → Q v H') (hw : ∀ x, wipe ((wipe σ [2]).set 2 (some x)) [2] = wipe σ [2] := by intro _; rfl) : tTup (tCons (tC (.int k)) (tCons (tCB (rTupleOf K) (tCons (tLc wi (gName 2) tYes te [2]) tNil)) tNil)) σ H Q := by
  refine hwi _ fun p xs H1 g1 hS hD D nD => ?_
  refine lc_ints (K := K) (xs := xs) (rows := rows) f hD hS hl nD hw (fun x r H2 k hr g dv kk => ht x r H2 k hr (g1.trans g) dv kk) fun H2 g2 hD2 => ?_
  refine ⟨D, _, rfl, .inl ⟨.inl (.inl hD2), fun l nl => ⟨by show 2 ≤ sizeLine; decide, fun t nt => ?_⟩⟩⟩
  exact q _ _ (((g1.trans g2).trans (Gx.new nl)).trans (Gx.new nt)) (op_laid upd_same nt)
/-- found.append(such a pair) -/
theorem app_op {te : TE} {u : TS} {D : Ends} {σ : L2.St} {H0 H : Hp} {p : Addr} {os : List (Nat × List Int)} (o : Nat × List Int) (hσ : σ[1]? = some (some (.ref p))) (hl : LO K H p os) (hn : os.length ≤ 900) (g : Gr H0 H) (np : H0 p = none)
    (hp : ∀ Q : VK, (∀ v H', Gr H H' → DT K H' v (opD o.1 o.2) → Q v H') → te σ H Q) (q : ∀ H', Gr H0 H' → Gx [p] H H' → LO K H' p (os ++ [o]) → u D σ H') : tSeq (tDrop (tBM K "list" rAppend (tVar 1) (tCons te tNil))) u D σ H := by
  refine ⟨.ref p, hσ, .inl ⟨rfl, _, .inl (.inl hl.choose_spec.1)⟩, hp _ fun v H' g' dv => ?_⟩
  exact (hl.gr g').add hn dv (fun _ H2 => u D σ H2) fun H2 hb hl2 => q H2 (grBut (g.trans g') np hb) (fun b o hb' e => by
    rw [hb b (fun z => hb' (List.mem_singleton.mpr z))]
    exact g' b o (by simp) e) hl2
/-- found = [such a pair] -/
theorem first_op {te : TE} {u : TS} {D : Ends} {σ : L2.St} {H : Hp} (o : Nat × List Int) (hp : ∀ Q : VK, (∀ v H', Gr H H' → DT K H' v (opD o.1 o.2) → Q v H') → te σ H Q)
    (q : ∀ p H', Gr H H' → H p = none → LO K H' p [o] → u D (σ.set 1 (some (.ref p))) H') : tSeq (tAsg (tLst (tCons te tNil)) (gName 1)) u D σ H :=
  hp _ fun v H1 g1 dv => ⟨by show 1 ≤ sizeLine; decide, fun p np => q p _ (g1.trans (Gx.new np)) (g1.free np) ⟨_, upd_same, .one (dv.gr (Gx.new np))⟩⟩
/-- return found + [such a pair] -/
theorem ret_op {te : TE} {D : Ends} {σ : L2.St} {H0 H : Hp} {p : Addr} {os : List (Nat × List Int)} (o : Nat × List Int) (hσ : σ[1]? = some (some (.ref p))) (hl : LO K H p os) (hn : os.length ≤ 900) (g : Gr H0 H)
    (hp : ∀ Q : VK, (∀ v H', Gr H H' → DT K H' v (opD o.1 o.2) → Q v H') → te σ H Q) (q : ∀ l H', Gr H0 H' → H0 l = none → LO K H' l (os ++ [o]) → D.rt (.ref l) H') : tRet (tOp rCat (tVar 1) (tLst (tCons te tNil))) D σ H := by
  refine ⟨.ref p, hσ, hp _ fun v H7 g7 dv => ⟨by show 1 ≤ sizeLine; decide, fun p7 np7 => ?_⟩⟩
  obtain ⟨vs, ev, dvs⟩ := hl
  have ev7 := g7.lst ev
  have hpp : p ≠ p7 := fun z => by
    rw [z] at ev7
    rw [ev7] at np7
    cases np7
  refine ⟨p, p7, vs, [v], rfl, rfl, by rw [upd_ne hpp]; exact ev7, upd_same, ?_, fun p8 np8 => ?_⟩
  · rw [dvs.1, List.length_map]
    exact Nat.le_of_lt (small1000 (n := os.length + 1) (by omega))
  · have gl : Gr H0 (upd (upd H7 p7 (.lst [v])) p8 (.lst (vs ++ [v]))) := ((g.trans g7).trans (Gx.new np7)).trans (Gx.new np8)
    refine q p8 _ gl (((g.trans g7).trans (Gx.new np7)).free np8) ⟨_, upd_same, ?_⟩
    have g8 : Gr H (upd (upd H7 p7 (.lst [v])) p8 (.lst (vs ++ [v]))) := (g7.trans (Gx.new np7)).trans (Gx.new np8)
    rw [List.map_append]
    exact (dvs.gr g8).app (.one (dv.gr ((Gx.new np7).trans (Gx.new np8))))
/-- told[a] -/
theorem ixc {σ : L2.St} {H : Hp} {i a : Nat} {x : V} {r : List Int} {Q : VK} (hσ : σ[i]? = some (some x)) (hd : DT K H x (rowD r)) (hc : a < r.length) (q : Q (.int (r.getD a 0)) H) : tOp (rIxT K) (tVar i) (tC (.int (a : Int))) σ H Q := by
  refine ⟨x, hσ, ?_⟩
  dsimp only [tC]
  exact row_ix hd rfl hc q
/-! _law_named -/
def sp_law_named (K : PySem.W.Frag) : Sp := fun vs H Q _ => ∃ sz : Nat, vs = [.int sz] ∧ 1 ≤ sz ∧ sz ≤ 4 ∧ ∀ p H', Gr H H' → H p = none → LO K H' p (named sz) → Q (.ref p) H'
end K82

set_option Elab.async false
set_option linter.all false
set_option maxRecDepth 100000
set_option maxHeartbeats 4000000
/-! sorted(d), d a dict whose keys are tuples of ints -/
namespace TK
open PySem PySem.Spec PyProof.Rows L2
section
variable {X : Cx} {pins : List (Addr × Obj)} {σ : L2.St} {H : Hp} {s : Shared}
def rSortedDT (d : Nat) (B : Int) : List V → Hp → VK → Prop := fun vs H Q => ∃ (a : Addr) (kvs : List (List Key × V)), vs = [.ref a] ∧ H a = some (.dT kvs) ∧ kvs.length < 64 ∧ (∀ p ∈ kvs, ∃ ns : List Int, p.1 = ns.map Sum.inl ∧ ns.length = d ∧ TS.Bd B ns) ∧
  ∀ (bs : List Addr) (ys : List V) (p : Addr), IsKeys H kvs bs → ys.Perm (bs.map V.ref) → ys.Pairwise (fun x y => ∀ n m : List Int, (∃ t, x = .ref t ∧ H t = some (.tup (n.map V.int))) → (∃ t, y = .ref t ∧ H t = some (.tup (m.map V.int))) → TS.code B n ≤ TS.code B m) → H p = none → Q (.ref p) (upd H p (.lst ys))
theorem keys_ints (ns : List Int) : (ns.map Sum.inl : List Key).map kV = ns.map V.int := by
  rw [List.map_map]
  rfl
theorem paired_mem {α β : Type} {F : α → β → Prop} : ∀ {l : List α} {m : List β}, Paired F l m → ∀ y ∈ m, ∃ x ∈ l, F x y := by
  intro l m h
  induction h with
  | nil => intro y hy; cases hy
  | @cons p q ps qs hq t ih =>
    intro y hy
    rcases List.mem_cons.mp hy with e | hy
    · subst e
      exact ⟨p, List.mem_cons_self, hq⟩
    · obtain ⟨x, hx, e⟩ := ih y hy
      exact ⟨x, List.mem_cons_of_mem _ hx, e⟩
theorem tupI_rawS (I : Inv X pins σ H s) {t : Addr} {ns : List Int} (h : H t = some (.tup (ns.map V.int))) : TS.TupInts s.heap (.ref t) ns := tupI_raw I (.inl (.inl h))
theorem cr_sortedDT {d : Nat} {B : Int} (hd1 : 1 ≤ d) (hc : X.calm = true) : CallR X (.builtin "sorted") (rSortedDT d B) := by
  intro pins s σ H vs us Q I r h
  obtain ⟨a, kvs, rfl, ha, h64, hk, q⟩ := h
  obtain ⟨u, eu, rx⟩ := vals1 r
  subst eu
  cases rx
  obtain ⟨z, hs, ks, pr, o, es, ep, ho, hx, hdt, he, hn⟩ := (show ObjOk X.prog X.w H s.heap a (.dT kvs) from I.hok a _ ha)
  have l1 : es.size = ks.length := size_of_entries he
  have l2 : kvs.length = ks.length := Paired.length pr
  refine Calls.call_function_entry PyProof.Rows.kind_sorted PyProof.Rows.plain_sorted PyProof.Rows.entry_sorted (PyProof.Rows.args_sorted1 _) ?_
  unfold Builtin.«sorted»
  refine wpAny_bind (m := checkCount "sorted" 1 1 _) (wpAny_pure ?_)
  refine wpAny_bind (PySem.W.kdu_collect (A := X.A.in1) (kdl_raw hs hx hdt) (I.ok.hd hc) ho (by omega) fun h' tk acc kp it => ?_)
  have ea : acc.toList = (ks.map fun x => x.2.1).map Value.ref := by
    have hl : acc.toList.length = ks.length := by rw [Array.length_toList, it.1]; exact l1
    apply List.ext_getElem?
    intro j
    rw [List.map_map, List.getElem?_map]
    cases hj : acc.toList[j]? with
    | none =>
      have h1 := List.getElem?_eq_none_iff.mp hj
      rw [List.getElem?_eq_none (by omega)]
      all_goals rfl
    | some v =>
      obtain ⟨en, hen, hv⟩ := it.2 j v (by rw [← Array.getElem?_toList]; exact hj)
      have qe := entry_at he j
      rw [hen] at qe
      cases hb : ks[j]? with
      | none =>
        rw [hb] at qe
        exact nomatch (show some en = none from qe)
      | some b =>
        rw [hb] at qe
        have e2 : en = entryOfKey (tupleKind (mixKind X.prog X.w)) b := Option.some.inj qe
        rw [hv, e2]
        all_goals rfl
  have hal : acc.toList.length = ks.length := by rw [ea, List.length_map, List.length_map]
  have I1 : Inv X pins σ H { s with heap := h', toks := tk } := I.kept kp
  have key : ∀ v ∈ acc.toList, ∃ (t : Addr) (ns : List Int), v = Value.ref t ∧ H t = some (.tup (ns.map V.int)) ∧ ns.length = d ∧ TS.Bd B ns := fun v hv => by
    rw [ea, List.map_map] at hv
    obtain ⟨x, hx1, rfl⟩ := List.mem_map.mp hv
    obtain ⟨p, hp, e1, e2, _⟩ := paired_mem pr x hx1
    obtain ⟨ns, e3, e4, e5⟩ := hk p hp
    refine ⟨x.2.1, ns, rfl, ?_, e4, e5⟩
    rw [e3, keys_ints] at e2
    exact e2
  refine wpAny_bind (wpAny_newList ?_ (by rw [hal, sizeLine_eq]; omega))
  have hoL : (h'.push (seqObj "list" acc.toList.toArray 0)).get? h'.objs.size = some (seqObj "list" acc.toList.toArray 0) := Heap.get?_push_size _ rfl
  show wpAny _ _ _ _ _ { s with heap := h'.push (seqObj "list" acc.toList.toArray 0), toks := tk }
  have tk2 : ∀ (t : Addr) (ns : List Int), H t = some (.tup (ns.map V.int)) → TS.TupInts (h'.push (seqObj "list" acc.toList.toArray 0)) (.ref t) ns := fun t ns e =>
    (tupI_rawS I1 e).keeps fun b o e _ => Heap.get?_push_of_some _ e
  have x : TS.TupsOk (h'.push (seqObj "list" acc.toList.toArray 0)) d B acc.toList := fun v hv => by
    obtain ⟨t, ns, rfl, e, e4, e5⟩ := key v hv
    exact ⟨ns, tk2 t ns e, e4, e5⟩
  refine wpAny_bind (wpAny_holding (TS.call_sort_tups (s := { s with heap := h'.push (seqObj "list" acc.toList.toArray 0), toks := tk }) hoL (by rw [hal]; omega) hd1 x fun out a1 a2 => ?_))
  obtain ⟨c, he'⟩ := sortedHeap_at (vs := acc.toList) (out := out) hoL
  have h3 : ∀ u ∈ out.toList, ∃ a, u = Value.ref a := fun u hu => by
    obtain ⟨t, _, e, _⟩ := key u (a1.mem_iff.mp hu)
    exact ⟨t, e⟩
  have hp : (out.toList.map bkV).Perm ((ks.map fun x => x.2.1).map V.ref) := by
    have e := a1.map bkV
    rw [ea, List.map_map] at e
    exact e
  have hlen : (out.toList.map bkV).length ≤ sizeLine := by
    rw [hp.length_eq, List.length_map, List.length_map, sizeLine_eq]
    omega
  refine wpAny_pure ⟨_, rfl, .ref h'.objs.size, upd H h'.objs.size (.lst (out.toList.map bkV)), I1.laid (t' := tk) (fun b u e => ?_) (Nat.le_refl _)
    (show ObjOk X.prog X.w _ _ _ (.lst (out.toList.map bkV)) from ⟨hlen, out.toList, c, bkV_vals h3, he'⟩), rfl, q _ _ _ (isKeys_of pr) hp ?_ (I1.hok.fresh (Nat.le_refl _))⟩
  · have hb : b < h'.objs.size := Heap.lt_size e
    rw [PyProof.Rows.sortedHeap_old (Nat.ne_of_lt hb) (by rw [size_push']; exact Nat.lt_succ_of_lt hb)]
    exact Heap.get?_push_of_some _ e
  · rw [List.pairwise_map]
    refine List.Pairwise.imp (fun {u v} huv n m hn hm => ?_) a2
    obtain ⟨t, et, ht⟩ := hn
    obtain ⟨t', et', ht'⟩ := hm
    have eu := bkV_ref et
    have ev := bkV_ref et'
    have i1 := (tk2 t n ht).ints
    have i2 := (tk2 t' m ht').ints
    rw [← i1, ← i2, ← eu, ← ev]
    exact huv
end
end TK

set_option linter.all false
set_option maxRecDepth 100000
/-! the order of rows, equality of rows -/
namespace MR
open PySem PySem.Spec PyProof.Rows L2 TK
theorem lex_of_code {B : Int} : ∀ {r q : List Int}, r.length = q.length → TS.Bd B r → TS.Bd B q → TS.code B r ≤ TS.code B q → r ≠ q → HT.lexLt r q = true
  | [], [], _, _, _, _, ne => absurd rfl ne
  | [], _ :: _, hl, _, _, _, _ => by simp at hl
  | _ :: _, [], hl, _, _, _, _ => by simp at hl
  | d :: r, e :: q, hl, h1, h2, hc, ne => by
    have hl' : r.length = q.length := by simpa using hl
    rw [HT.lexLt_cons]
    by_cases hde : d = e
    · subst hde
      rw [if_pos rfl]
      refine lex_of_code hl' h1.tail h2.tail ?_ fun z => ne (by rw [z])
      have := TS.code_same (B := B) (d := d) hl'.symm
      omega
    · rw [if_neg hde]
      refine decide_eq_true ?_
      rcases Int.lt_trichotomy d e with y | y | y
      · exact y
      · exact absurd y hde
      · have := TS.code_lt (B := B) hl'.symm h2.tail h1.tail y
        omega
theorem eqvAll_ints : ∀ (a b : List Int), PyData.eqvAll (a.map PyData.int) (b.map PyData.int) = decide (a = b)
  | [], [] => by simp [PyData.eqvAll]
  | [], _ :: _ => by simp [PyData.eqvAll]
  | _ :: _, [] => by simp [PyData.eqvAll]
  | x :: a, y :: b => by
    rw [List.map_cons, List.map_cons, PyData.eqvAll, eqvAll_ints a b, PyData.eqv]
    by_cases h : x = y
    · subst h
      by_cases h2 : a = b
      · subst h2; simp
      · simp [h2]
    · simp [h]
theorem row_eqv (a b : List Int) : PyData.eqv (rowD a) (rowD b) = decide (a = b) := by
  unfold rowD
  rw [PyData.eqv, eqvAll_ints]
theorem any_eqv (rows : List (List Int)) (r : List Int) : ((rows.map rowD).any fun z => PyData.eqv z (rowD r)) = decide (r ∈ rows) := by
  induction rows with
  | nil => rfl
  | cons q rows ih =>
    rw [List.map_cons, List.any_cons, ih, row_eqv]
    by_cases h : q = r
    · subst h; simp
    · have h' : ¬ r = q := fun z => h z.symm
      simp [h, h']
theorem row_lay (r : List Int) : (rowD r).canLay0 = true := by
  have : ∀ ns : List Int, PyData.canLayAll0 (ns.map PyData.int) = true := fun ns => by
    induction ns with
    | nil => simp [PyData.canLayAll0]
    | cons n ns ih => simp only [List.map_cons, PyData.canLayAll0, ih, PyData.canLay0, Bool.and_self]
  unfold rowD
  rw [PyData.canLay0]
  exact this r
theorem ints_depth : ∀ ns : List Int, PyData.depthAll (ns.map PyData.int) ≤ 1
  | [] => by simp [PyData.depthAll]
  | n :: ns => by
    have := ints_depth ns
    simp only [List.map_cons, PyData.depthAll, PyData.depth]
    omega
theorem row_depth (r : List Int) : (rowD r).depth ≤ 2 := by
  have := ints_depth r
  unfold rowD
  simp only [PyData.depth]
  omega
theorem row_shaped (r : List Int) : SeqAt.shaped (rowD r) = true := by
  have h := row_depth r
  show ((rowD r).canLay0 && decide ((rowD r).depth ≤ 64)) = true
  rw [Bool.and_eq_true]
  exact ⟨row_lay r, decide_eq_true (by omega)⟩
theorem rows_lay : ∀ rows : List (List Int), PyData.canLayAll0 (rows.map rowD) = true
  | [] => by simp [PyData.canLayAll0]
  | r :: rows => by simp [PyData.canLayAll0, row_lay r, rows_lay rows]
theorem rows_depth : ∀ rows : List (List Int), PyData.depthAll (rows.map rowD) ≤ 2
  | [] => by simp [PyData.depthAll]
  | r :: rows => by
    have h1 := rows_depth rows
    have h2 := row_depth r
    simp only [List.map_cons, PyData.depthAll]
    omega
theorem rows_shaped (rows : List (List Int)) : SeqAt.shaped (.list (rows.map rowD)) = true := by
  have h1 := rows_depth rows
  have h2 : PyData.depth (.list (rows.map rowD)) ≤ 64 := by
    simp only [PyData.depth]
    omega
  show (PyData.canLay0 (.list (rows.map rowD)) && decide (PyData.depth (.list (rows.map rowD)) ≤ 64)) = true
  rw [Bool.and_eq_true]
  exact ⟨by simp only [PyData.canLay0]; exact rows_lay rows, decide_eq_true h2⟩
end MR
namespace TK
open PySem PySem.Spec PyProof.Rows L2 MR
variable {K : PySem.W.Frag} {H : Hp}
theorem dpAll_of : ∀ {vs : List V} {ds : List PyData}, DTs K H vs ds → DpAll K H vs ds
  | [], [], _ => .nil
  | [], _ :: _, h => by have := h.1; simp at this
  | _ :: _, [], h => by have := h.1; simp at this
  | v :: vs, d :: ds, h => by
    obtain ⟨w, ws, e, h1, h2⟩ := h.cons_inv
    cases e
    exact .cons h1.dp (dpAll_of h2)
theorem dp_rows {p : Addr} {vs : List V} {rows : List (List Int)} (h : H p = some (.lst vs)) (d : DTs K H vs (rows.map rowD)) : Dp K H (.ref p) (.list (rows.map rowD)) := .lst (.inl (.inl h)) (dpAll_of d)
def unI : V → Int
  | .int n => n
  | _ => 0
/-- the ints of a row, read off the heap -/
def rowOf (H : Hp) : V → List Int
  | .ref a => match H a with
    | some (.tup xs) => xs.map unI
    | _ => []
  | _ => []
theorem unI_ints (ns : List Int) : (ns.map V.int).map unI = ns := by
  rw [List.map_map]
  induction ns with
  | nil => rfl
  | cons n ns ih => rw [List.map_cons, ih]; rfl
theorem rowOf_eq {v : V} {r : List Int} (h : DT K H v (rowD r)) : rowOf H v = r := by
  obtain ⟨a, rfl, e⟩ := h.row_invS
  show (match H a with | some (.tup xs) => xs.map unI | _ => []) = r
  rw [e]
  exact unI_ints r
theorem rows_read {xs : List V} {rows : List (List Int)} (h : DTs K H xs (rows.map rowD)) : rows = xs.map (rowOf H) := by
  induction rows generalizing xs with
  | nil => rw [h.nil_inv]; rfl
  | cons r rows ih =>
    obtain ⟨w, ws, rfl, h1, h2⟩ := h.cons_inv
    rw [List.map_cons, ← ih h2, rowOf_eq h1]
theorem rows_each {xs : List V} {rows : List (List Int)} (h : DTs K H xs (rows.map rowD)) : ∀ x ∈ xs, DT K H x (rowD (rowOf H x)) ∧ rowOf H x ∈ rows := by
  induction rows generalizing xs with
  | nil => rw [h.nil_inv]; intro x hx; simp at hx
  | cons r rows ih =>
    obtain ⟨w, ws, rfl, h1, h2⟩ := h.cons_inv
    intro x hx
    rcases List.mem_cons.mp hx with e | hx
    · subst e
      rw [rowOf_eq h1]
      exact ⟨h1, List.mem_cons_self⟩
    · exact ⟨(ih h2 x hx).1, List.mem_cons_of_mem _ (ih h2 x hx).2⟩
theorem rows_of {ys : List V} (h : ∀ y ∈ ys, DT K H y (rowD (rowOf H y))) : DTs K H ys ((ys.map (rowOf H)).map rowD) := by
  induction ys with
  | nil => exact .nil
  | cons y ys ih => exact .cons (h y List.mem_cons_self) (ih fun z hz => h z (List.mem_cons_of_mem _ hz))
/-- sorted rows -/
theorem sorted_rows {B : Int} {d : Nat} {xs ys : List V} {rows : List (List Int)} (hx : DTs K H xs (rows.map rowD)) (hp : ys.Perm xs) (nd : rows.Nodup) (ok : ∀ r ∈ rows, r.length = d ∧ TS.Bd B r)
    (hw : ys.Pairwise fun x y => ∀ n m : List Int, (∃ t, x = .ref t ∧ H t = some (.tup (n.map V.int))) → (∃ t, y = .ref t ∧ H t = some (.tup (m.map V.int))) → TS.code B n ≤ TS.code B m) :
    ∃ qs : List (List Int), DTs K H ys (qs.map rowD) ∧ qs.Perm rows ∧ qs.Pairwise fun r q => HT.lexLt r q = true := by
  have hr := rows_read hx
  have he : ∀ y ∈ ys, DT K H y (rowD (rowOf H y)) ∧ rowOf H y ∈ rows := fun y hy => rows_each hx y (hp.mem_iff.mp hy)
  have pm : (ys.map (rowOf H)).Perm rows := by
    rw [hr]
    exact hp.map _
  refine ⟨ys.map (rowOf H), rows_of fun y hy => (he y hy).1, pm, ?_⟩
  have ndy : (ys.map (rowOf H)).Nodup := pm.nodup_iff.mpr nd
  rw [List.Nodup, List.pairwise_map] at ndy
  rw [List.pairwise_map]
  refine List.Pairwise.imp_of_mem ?_ (hw.and ndy)
  rintro x y hx' hy' ⟨c, ne⟩
  obtain ⟨a, ea, ha⟩ := (he x hx').1.row_invS
  obtain ⟨b, eb, hb⟩ := (he y hy').1.row_invS
  obtain ⟨l1, b1⟩ := ok _ (he x hx').2
  obtain ⟨l2, b2⟩ := ok _ (he y hy').2
  exact lex_of_code (by rw [l1, l2]) b1 b2 (c _ _ ⟨a, ea, ha⟩ ⟨b, eb, hb⟩) ne
end TK
namespace MR
theorem lex_irr : ∀ r : List Int, HT.lexLt r r = false
  | [] => rfl
  | x :: r => by rw [HT.lexLt_cons, if_pos rfl, lex_irr r]
theorem lex_asymm : ∀ {r q : List Int}, HT.lexLt r q = true → HT.lexLt q r = false
  | [], [], h => rfl
  | [], _ :: _, _ => rfl
  | _ :: _, [], h => by cases h
  | x :: r, y :: q, h => by
    rw [HT.lexLt_cons] at h ⊢
    by_cases e : x = y
    · subst e
      rw [if_pos rfl] at h ⊢
      exact lex_asymm h
    · rw [if_neg e] at h
      rw [if_neg fun z => e z.symm]
      have := of_decide_eq_true h
      exact decide_eq_false (by omega)
/-- two ascending lists of the same rows are the same -/
theorem asc_unique : ∀ {l m : List (List Int)}, l.Pairwise (fun r q => HT.lexLt r q = true) → m.Pairwise (fun r q => HT.lexLt r q = true) → (∀ x, x ∈ l ↔ x ∈ m) → l = m
  | [], [], _, _, _ => rfl
  | [], y :: m, _, _, h => by
    have := (h y).mpr List.mem_cons_self
    cases this
  | x :: l, [], _, _, h => by
    have := (h x).mp List.mem_cons_self
    cases this
  | x :: l, y :: m, hl, hm, h => by
    obtain ⟨l1, l2⟩ := List.pairwise_cons.mp hl
    obtain ⟨m1, m2⟩ := List.pairwise_cons.mp hm
    have e : x = y := by
      rcases List.mem_cons.mp ((h x).mp List.mem_cons_self) with e | e
      · exact e
      · rcases List.mem_cons.mp ((h y).mpr List.mem_cons_self) with e2 | e2
        · exact e2.symm
        · have a := l1 y e2
          have b := lex_asymm (m1 x e)
          rw [a] at b
          cases b
    subst e
    have nl : x ∉ l := fun z => by
      have := l1 x z
      rw [lex_irr] at this
      cases this
    have nm : x ∉ m := fun z => by
      have := m1 x z
      rw [lex_irr] at this
      cases this
    refine congrArg (x :: ·) (asc_unique l2 m2 fun z => ⟨fun hz => ?_, fun hz => ?_⟩)
    · rcases List.mem_cons.mp ((h z).mp (List.mem_cons_of_mem _ hz)) with e | e
      · subst e
        exact absurd hz nl
      · exact e
    · rcases List.mem_cons.mp ((h z).mpr (List.mem_cons_of_mem _ hz)) with e | e
      · subst e
        exact absurd hz nm
      · exact e
end MR

set_option Elab.async false
set_option linter.all false
set_option maxRecDepth 100000
set_option maxHeartbeats 4000000
/-! x in s, s a set of tuples of ints; set(t), t a tuple of such -/
namespace TK
open PySem PySem.Spec PyProof.Rows L2
/-- the c-th probe for the hash h -/
abbrev wk (t : SetTable) (h : Int) (c : Nat) : SetTable.Probe := nth t.mask (runAt t.mask (SetTable.bits h % (t.mask + 1)) (SetTable.bits h)) c
theorem wk_add (t : SetTable) (h : Int) (c q : Nat) : nth t.mask (wk t h c) q = wk t h (c + q) := (nth_add t.mask c _ q).symm
theorem wk_clean (t : SetTable) (h : Int) (c : Nat) : (wk t h c).dummy = none := by
  have all : ∀ (n : Nat) (p : SetTable.Probe), p.dummy = none → (nth t.mask p n).dummy = none := by
    intro n
    induction n with
    | zero => exact fun p e => e
    | succ n ih => exact fun p e => ih (adv t.mask p) (by unfold adv; split <;> exact e)
  exact all c _ rfl
section
variable {P : Program} {w : World} {A : Around} {E : Value → Shared → Prop} {s : Shared} {a : Addr} {L : List (Addr × List Int)} {es : Array (Int × Value)} {ep : Nat} {t : SetTable}
theorem ask_from (R : SetTR P w s.heap a L es ep t) {x : Addr} {k : List Int} (hx : IsT P w s.heap k x) (hu : A.units < cLine) {M : Nat} (hM : M < 10 * SetTable.turns t.mask)
    (free : (wk t (thash P w k) M).j ∉ t.place.toList) (full : ∀ c, c < M → (wk t (thash P w k) c).j ∈ t.place.toList) {Q : SetFound → Shared → Prop}
    (yes : k ∈ L.map (·.2) → ∀ i, Q (.there (some i)) s) (no : k ∉ L.map (·.2) → ∀ j, Q (.free j false) s) (f : Nat) :
    ∀ (c : Nat) (stand : Option SetTable.Probe), stand.getD (t.probeStart (thash P w k)) = wk t (thash P w k) c → c ≤ M → M - c < f →
      (∀ (i : Nat) p, L[i]? = some p → p.2 = k → ∃ c', c ≤ c' ∧ c' < M ∧ t.place.toList[i]? = some (wk t (thash P w k) c').j) →
      wpAny (model P w) A (setSearchFrom a (.ref x) (thash P w k) false f stand) Q E s := by
  have sz : t.place.toList.length = L.length := by
    have h2 := R.tab.sz
    rw [List.length_map] at h2
    rw [Array.length_toList]
    exact h2
  obtain ⟨o, ho, hex, hd⟩ := R.ob
  have fits := R.fits
  have hash_of : ∀ {i : Nat} {p : Addr × List Int}, L[i]? = some p → ((es[i]?.map (·.1)).getD 0 : Int) = thash P w p.2 := fun hp => by
    rw [R.entry hp]
    rfl
  induction f with
  | zero => exact fun c _ _ _ hf => absurd hf (Nat.not_lt_zero _)
  | succ f ih =>
    intro c stand hst hc hf left
    rw [setSearchFrom_succ]
    refine wpAny_bind (wpAny_setState_of ho hd fits ?_)
    dsimp only
    refine wp_if_neg R.gw ?_
    try refine wpAny_bind (wpAny_pure ?_)
    have at_ : ∀ q, (nth t.mask (wk t (thash P w k) c) q).j = (wk t (thash P w k) (c + q)).j := fun q => congrArg SetTable.Probe.j (wk_add t _ c q)
    rcases go_spec t R.tab.ris R.tab.dm (fun i => (es[i]?.map (·.1)).getD 0) (thash P w k) (10 * SetTable.turns t.mask) (M - c) (wk t (thash P w k) c) (wk_clean t _ c) (by omega)
      (fun q hq => by rw [at_]; exact full (c + q) (by omega)) (by rw [at_, show c + (M - c) = M by omega]; exact free) with ⟨q, i, hq, hi, hh, before, e⟩ | ⟨before, e⟩
    · have met : t.probe (fun i => (es[i]?.map (·.1)).getD 0) (thash P w k) (stand.getD (t.probeStart (thash P w k))) = some (.candidate (wk t (thash P w k) (c + q)).j i (wk t (thash P w k) (c + (q + 1)))) := by
        rw [hst, ← at_, ← wk_add t _ c (q + 1)]
        exact e
      rw [met]
      dsimp only
      rw [at_] at hi
      have hil : i < L.length := by
        rw [← sz]
        exact (List.getElem?_eq_some_iff.mp hi).1
      obtain ⟨p, hp⟩ : ∃ p, L[i]? = some p := ⟨_, List.getElem?_eq_getElem hil⟩
      have mem : p ∈ L := List.mem_of_getElem? hp
      have live := slot_live R.tab.ris hi
      have after : wpAny (model P w) A (searchRest a (.ref x) (thash P w k) false f es t (wk t (thash P w k) (c + q)).j i (wk t (thash P w k) (c + (q + 1)))) Q E s := by
        unfold searchRest
        rw [R.entry hp]
        dsimp only
        refine wpAny_bind (wpAny_holding (wpAny_eqBool_tuple hu (R.tup p mem) hx (wpAny_bind (wpAny_setState_of ho hd fits ?_))))
        dsimp only
        refine wp_if_neg (by simp) ?_
        try refine wpAny_bind (wpAny_pure ?_)
        rw [sameMem]
        dsimp only
        simp only [if_true, live, R.entry hp]
        refine wpAny_bind (wpAny_isSame_ref_self (wpAny_bind (wpAny_pure ?_)))
        simp only [if_true]
        rcases Classical.em (p.2 = k) with same | other
        · exact wp_if_pos (by simp [same]) (wpAny_pure (yes (List.mem_map.mpr ⟨p, mem, same⟩) i))
        · refine wp_if_neg (by simp [other]) (ih (c + (q + 1)) _ rfl (by omega) (by omega) fun i0 p0 h0 hk0 => ?_)
          obtain ⟨c', b1, b2, b3⟩ := left i0 p0 h0 hk0
          refine ⟨c', ?_, b2, b3⟩
          rcases Nat.lt_trichotomy c' (c + q) with l | l | l
          · refine absurd ((hash_of h0).trans (congrArg (thash P w) hk0)) (before (c' - c) i0 (by omega) ?_)
            rw [at_, show c + (c' - c) = c' by omega]
            exact b3
          · rw [l] at b3
            have two := (slot_live R.tab.ris b3).symm.trans live
            injection two with two
            rw [two, hp] at h0
            exact absurd ((congrArg Prod.snd (Option.some.inj h0)).trans hk0) other
          · omega
      rcases Classical.em (t.led = true) with l | l
      · refine wp_if_neg (by simp [l]) ?_
        try refine wpAny_bind (wpAny_pure ?_)
        exact after
      · refine wp_if_pos (by simp [l]) (wpAny_bind (seen_tup hx (fun y hy => ?_) (wp_if_neg (by decide) ?_)))
        · obtain ⟨e0, h0, ee⟩ := List.mem_map.mp hy
          have h1 : e0 ∈ es.toList := by
            have z : e0 ∈ es ∧ e0.1 = thash P w k := by simpa using h0
            simpa using z.1
          rw [R.rows] at h1
          obtain ⟨p2, m2, e2⟩ := List.mem_map.mp h1
          exact ⟨p2.2, p2.1, by rw [← ee, ← e2], R.tup p2 m2⟩
        · try refine wpAny_bind (wpAny_pure ?_)
          exact after
    · have met : t.probe (fun i => (es[i]?.map (·.1)).getD 0) (thash P w k) (stand.getD (t.probeStart (thash P w k))) = some (.empty (wk t (thash P w k) M).j none) := by
        have e2 : (wk t (thash P w k) M).j = (nth t.mask (wk t (thash P w k) c) (M - c)).j := by
          rw [at_, show c + (M - c) = M by omega]
        rw [hst, e2]
        exact e
      rw [met]
      dsimp only
      refine wpAny_pure (no (fun hm => ?_) _)
      obtain ⟨p0, m0, hk0⟩ := List.mem_map.mp hm
      obtain ⟨i0, hi0, e0⟩ := List.getElem_of_mem m0
      have h00 : L[i0]? = some p0 := by rw [List.getElem?_eq_getElem hi0, e0]
      obtain ⟨c', b1, b2, b3⟩ := left i0 p0 h00 hk0
      refine before (c' - c) i0 (by omega) ?_ ((hash_of h00).trans (congrArg (thash P w) hk0))
      rw [at_, show c + (c' - c) = c' by omega]
      exact b3
theorem find_tup (R : SetTR P w s.heap a L es ep t) {x : Addr} {k : List Int} (hx : IsT P w s.heap k x) (hu : A.units < cLine) {Q : Option Nat → Shared → Prop}
    (h : ∀ r : Option Nat, r.isSome = decide (k ∈ L.map (·.2)) → Q r s) : wpAny (model P w) A (setFind a (.ref x) (thash P w k)) Q E s := by
  obtain ⟨o, ho, hex, hd⟩ := R.ob
  have room := R.room
  obtain ⟨M, hM, free, full⟩ := R.tab.first (by rw [List.length_map]; omega) (thash P w k)
  have big : M < 100000 := by
    have : 10 * SetTable.turns t.mask ≤ 1420 := by
      unfold SetTable.turns
      rcases R.tab.mok with e | e | e <;> omega
    omega
  unfold setFind setFindIn
  refine wpAny_bind (wpAny_setState_of ho hd R.fits ?_)
  dsimp only
  refine wp_if_neg (by simp [byScan, Value.scannable]) ?_
  try refine wpAny_bind (wpAny_pure ?_)
  unfold setSearch
  refine wpAny_bind (ask_from R hx hu hM free full (fun hm i => ?_) (fun hm j => ?_) 100000 0 none rfl (Nat.zero_le _) (by omega) fun i p hp hk => ?_)
  · exact wpAny_pure (h _ (by simp [hm]))
  · exact wpAny_pure (h _ (by simp [hm]))
  · have hi : (L.map fun p => thash P w p.2)[i]? = some (thash P w k) := by
      rw [List.getElem?_map, hp, ← hk]
      rfl
    have hil : i < t.place.toList.length := by
      have h1 : i < L.length := (List.getElem?_eq_some_iff.mp hp).1
      have h2 := R.tab.sz
      rw [List.length_map] at h2
      rw [Array.length_toList]
      omega
    have hj := List.getElem?_eq_getElem hil
    obtain ⟨c, hc, e⟩ := R.tab.before free hi hj
    exact ⟨c, Nat.zero_le _, hc, by rw [hj, ← e]⟩
theorem in_tup (R : SetTR P w s.heap a L es ep t) {x : Addr} {k : List Int} (hx : IsT P w s.heap k x) (hu : A.units + 8 < cLine) {Q : Value → Shared → Prop}
    (h : ∀ tk, Q (.bool (decide (k ∈ L.map (·.2)))) { s with toks := tk }) : wpAny (model P w) A (compareOp .In (.ref x) (.ref a)) Q E s := by
  obtain ⟨o, ho, hex, hd⟩ := R.ob
  have ty : s.TypeIs (.ref a) "set" := ⟨o, ho, hex.1⟩
  show wpAny _ _ (do return .bool (← contains (.ref a) (.ref x))) Q E s
  refine wpAny_bind ?_
  unfold contains
  try with_reducible refine wpAny_holding ?_
  refine wpAny_bind (wpAny_specialOf ty F.slot_set_contains.lookup ?_)
  show wpAny _ _ (if (some (Value.builtin "set.__contains__") == some Value.none) = true then _ else _) _ E s
  rw [if_neg (by rw [beq_builtin_none]; exact Bool.false_ne_true)]
  refine wpAny_bind (wpAny_callSpecialUnlessNone?_slot (name := Str.ofString "__contains__") ty F.slot_set_contains (wpAny_call_entry F.slot_set_contains ty entry_set_contains ?_ (F.args_set_contains_2 _ _)))
  unfold Builtin.«frozenset.__contains__» Builtin.Frozenset.oneOther
  simp only [List.isEmpty_nil, bind_assoc]
  unfold Builtin.Frozenset.addrOf Builtin.Frozenset.withSetAsKey setContains
  refine wpAny_bind (wpAny_pure ?_)
  try dsimp only
  refine wpAny_bind (wpAny_pure ?_)
  try dsimp only
  refine wpAny_bind (wpAny_tryCatch (wpAny_holding (wpAny_bind (wpAny_pyHash_tuple ?_ hx (wpAny_bind (find_tup (s := { s with toks := s.toks + (k.length + 1) }) (R.keep (fun _ e => e) R.tup) hx ?_ fun r hr => wpAny_pure ?_))))))
  · show A.units + 1 < cLine
    omega
  · show A.units + 1 < cLine
    omega
  · show wpAny _ _ (ret (Value.bool r.isSome)) _ _ _
    rw [hr]
    exact wpAny_pure ⟨_, rfl, wpAny_truthy_bool (wpAny_pure (h _))⟩
end
section
variable {X : Cx}
/-- t in s, s the set of the tuples L -/
def rInSetT (K : PySem.W.Frag) (P : Program) (w : World) : R2 := fun x y H Q => ∃ (b a : Addr) (k : List Int) (L : List (Addr × List Int)), x = .ref b ∧ y = .ref a ∧ SqT K H b (k.map V.int) ∧ H a = some (SetTO P w a L) ∧ (∀ p ∈ L, SqT K H p.1 (p.2.map V.int)) ∧ Q (.bl (decide (k ∈ L.map (·.2)))) H
theorem op_inSetT (K : PySem.W.Frag) (P : Program) (w : World) (hu : X.A.units + 8 < cLine) (hK : X.K = K := by rfl) (hP : X.prog = P := by rfl) (hw : X.w = w := by rfl) : OpR X (compareOp .In) (rInSetT K P w) := by
  subst hK hP hw
  intro pins s σ H x y v u Q I rx ry h
  obtain ⟨b, a, k, L, rfl, rfl, hb, ha, hL, q⟩ := h
  cases rx
  cases ry
  have R0 : SetT0 X.prog X.w s.heap a L := (I.hok a _ ha).1
  obtain ⟨es, ep, t, R⟩ := R0.full fun p hp => I.isT (hL p hp)
  exact in_tup R (I.isT hb) hu fun tk => ⟨.bl _, H, I.tok tk, rfl, q⟩
end
end TK

set_option Elab.async false
set_option linter.all false
set_option maxRecDepth 100000
set_option maxHeartbeats 4000000
/-! set(t), t a tuple of tuples of ints -/
namespace TK
open PySem PySem.Spec PyProof.Rows L2
/-- a set that was just made -/
abbrev bareSet (w : World) : Obj := { cls := .type "set", dict := none, data := .set #[] 0 (.fresh 0 0 (!w.params.followText "set-order")) }
section
variable {P : Program} {w : World} {A : Around} {E : Value → Shared → Prop} {s : Shared}
theorem set_of_tuple {l : Addr} {items : Array Value} (ks : List (Addr × List Int)) {Q : Value → Shared → Prop} (hh : A.handled = none) (hl : s.heap.IsTuple l items) (hit : items.toList = ks.map fun p => Value.ref p.1)
    (hk : ∀ p ∈ ks, IsT P w s.heap p.2 p.1) (few : ks.length < 64) (hu : A.units + 3 < cLine)
    (h : ∀ (h' : Heap) (tk : Nat) L es ep t, SetTR P w h' s.heap.objs.size L es ep t → Got ks ks.length L → (∀ b o, s.heap.get? b = some o → h'.get? b = some o) → Q (.ref s.heap.objs.size) { s with heap := h', toks := tk }) :
    wpAny (model P w) A (call (.type "set") [.ref l]) Q E s := by
  have many : items.size = ks.length := by
    have q := congrArg List.length hit
    rw [Array.length_toList, List.length_map] at q
    exact q
  obtain ⟨c, tl, hmro⟩ := F.called_set.mro
  have hmade := F.called_set.made
  have hsub := F.called_set.sub
  refine wpAny_call (codeAny_of_tree ?_)
  show wpAny _ _ (callAny (.type "set") _) _ _ _
  refine wpAny_pure ⟨Code.quiet_builtin _ (by decide +kernel), codeAny_builtin F.entry_type_call ?_⟩
  rw [Around.under_plain (weight_type_call_type "set" [.ref l] []) rfl]
  have h1 := F.called_set.notType
  have h2 := F.called_set.canCreate
  have hct := F.typeCall_set_1 (.ref l)
  repeat (any_goals (first | assumption | wp_step))
  refine codeAny_mono (code_set_led1 (.ref l) (E := E) (Q₁ := fun obj s₁ => obj = .ref s.heap.objs.size ∧ s₁ = { s with heap := s.heap.push (bareSet w) }) ⟨rfl, rfl⟩) fun r s₁ hr => ?_
  cases r with
  | error e => exact hr
  | ok fl =>
    cases fl with
    | ret obj =>
      obtain ⟨rfl, rfl⟩ := hr
      have hS : (s.heap.push (bareSet w)).get? s.heap.objs.size = some (bareSet w) := Heap.get?_push_size _ rfl
      have hT : Shared.TypeIs { s with heap := s.heap.push (bareSet w) } (.ref s.heap.objs.size) "set" := ⟨_, hS, rfl⟩
      have hli := F.called_set.init.lookup
      have hbi := F.called_set.init.bind (.ref s.heap.objs.size)
      repeat (any_goals (first | assumption | wp_step))
      refine codeAny_mono (codeAny_call_builtin (R := wants (fun r s₂ => r = .none ∧ ∃ h' tk L es ep t, s₂ = { s with heap := h', toks := tk } ∧ SetTR P w h' s.heap.objs.size L es ep t ∧ Got ks ks.length L ∧ (∀ b o, s.heap.get? b = some o → h'.get? b = some o)) E)
        F.called_set.init.plain F.entry_set_init (check_set_init_1 hT ?_)) fun r₂ s₂ hr₂ => ?_
      · obtain ⟨ol, hol, hcl, nl, hdl⟩ := hl
        obtain ⟨ocls, odict, odata, oslots⟩ := ol
        simp only at hcl hdl
        subst hcl; subst hdl
        have hol' : (s.heap.push (bareSet w)).get? l = some { cls := .type "tuple", dict := odict, data := .seq items nl, slots := oslots } := Heap.get?_push_of_some _ hol
        have hsls := F.sub_tuple_set
        have hslf := F.sub_tuple_frozenset
        have hne : (Value.type "tuple" == Value.type "dict") = false := by decide
        have hl1 : (s.heap.push (bareSet w)).IsTuple l items := ⟨_, hol', rfl, nl, rfl⟩
        unfold Builtin.«set.__init__» noKeywords Builtin.Frozenset.updateFrom
        generalize hPI : pyIter = PI
        wp_walk
        subst hPI
        refine wpAny_pyIter_tuple hl1 (wpAny_bind (wpAny_runValue ?_))
        have lt : l < s.heap.objs.size := Heap.lt_size hol
        have hh3 : A.in1.in1.in1.handled = none := by simp [hh]
        have z1 : (s.heap.push (bareSet w)).objs.size = s.heap.objs.size + 1 := Heap.size_push ..
        have apart : l ≠ (s.heap.push (bareSet w)).objs.size := by
          rw [Heap.size_push]
          exact Nat.ne_of_lt (Nat.lt_succ_of_lt lt)
        have away : s.heap.objs.size ∉ [(s.heap.push (bareSet w)).objs.size, l] := by
          simp only [List.mem_cons, List.not_mem_nil, or_false, not_or]
          rw [Heap.size_push]
          exact ⟨Nat.ne_of_lt (Nat.lt_succ_self _), Nat.ne_of_gt lt⟩
        have val : ∀ (i : Nat) (v : Value), items[i]? = some v → ∃ p, ks[i]? = some p ∧ v = .ref p.1 := fun i v hv => by
          have q : items.toList[i]? = some v := by rw [Array.getElem?_toList]; exact hv
          rw [hit, List.getElem?_map] at q
          obtain ⟨p, hp, e⟩ := Option.map_eq_some_iff.mp q
          exact ⟨p, hp, e.symm⟩
        have none_of : ∀ b, s.heap.objs.size ≤ b → s.heap.get? b = none := fun b hb => by
          cases q : s.heap.get? b with
          | none => rfl
          | some o => exact absurd (Nat.lt_of_lt_of_le (Heap.lt_size q) hb) (Nat.lt_irrefl _)
        refine set_update_tups ((Walks.tuple hh3 _ l apart items).toS) s.heap.objs.size away ks many few val s.heap hk (none_of _ (Nat.le_refl _)) (fun b hb => none_of b (by
            rw [List.mem_singleton.mp hb, Heap.size_push]
            exact Nat.le_succ _)) hu (items.size - 0) 0 _ (by omega) (Nat.zero_le _)
          ⟨⟨_, Heap.get?_push_size _ rfl, rfl, rfl⟩, (hl1.push _)⟩ (fun b o e => Heap.get?_push_of_some _ (Heap.get?_push_of_some _ e)) ?start ?stop
        case start =>
          exact ⟨[], #[], 0, _, setTR_fresh (Heap.get?_push_of_some _ hS), Got.zero ks⟩
        case stop =>
          intro s' L es ep t hm hS' g' hkp
          obtain ⟨h', g2, d', tk', os'⟩ := s'
          have eg : g2 = s.gens := hm.gens
          have ed : d' = s.drawn := hm.drawn
          have eo : os' = s.os := hm.os
          subst eg; subst ed; subst eo
          rw [many] at g'
          exact wpAny_pure (wpAny_pure ⟨rfl, h', tk', L, es, ep, t, rfl, hS', g', hkp⟩)
      · cases r₂ with
        | error e => exact hr₂
        | ok fl₂ =>
          cases fl₂ with
          | ret r =>
            obtain ⟨rfl, h', tk, L, es, ep, t, rfl, hS', g', hk'⟩ := hr₂
            repeat (any_goals (first | assumption | wp_step))
            exact h _ _ _ _ _ _ hS' g' hk'
          | _ => exact hr₂.elim
    | _ => exact hr.elim
end
section
variable {X : Cx}
/-- set(t), t a tuple of tuples of ints -/
def rSetOfTT (K : PySem.W.Frag) (P : Program) (w : World) : List V → Hp → VK → Prop := fun xs H Q => ∃ (l : Addr) (ks : List (Addr × List Int)), xs = [V.ref l] ∧ SqT K H l (ks.map fun p => V.ref p.1) ∧ (∀ p ∈ ks, SqT K H p.1 (p.2.map V.int)) ∧ ks.length < 64 ∧
  ∀ a L, H a = none → (∀ p ∈ L, p ∈ ks) → (∀ p ∈ ks, p.2 ∈ L.map (·.2)) → Q (.ref a) (upd H a (SetTO P w a L))
theorem cr_setOfTT (K : PySem.W.Frag) (P : Program) (w : World) (hc : X.calm = true) (hu : X.A.units + 64 < cLine) (hK : X.K = K := by rfl) (hP : X.prog = P := by rfl) (hw : X.w = w := by rfl) : CallR X (.type "set") (rSetOfTT K P w) := by
  subst hK hP hw
  intro pins s σ H xs us Q I r h
  obtain ⟨l, ks, rfl, hl, hk, hf, q⟩ := h
  rw [Vals.ref1 r]
  obtain ⟨its, rv, pl, hz⟩ := I.tuple hl
  have hn : H s.heap.objs.size = none := I.hok.fresh (Nat.le_refl _)
  refine set_of_tuple (P := X.prog) (w := X.w) ks (I.ok.hd hc) pl (by simpa using refs_of_vals rv) (fun p hp => I.isT (hk p hp)) hf (by omega) fun h' tk L es ep t R g k => ?_
  exact ⟨.ref s.heap.objs.size, upd H s.heap.objs.size (SetTO X.prog X.w s.heap.objs.size L), I.laid (t' := tk) k (Nat.le_refl _) (setTO_new R.t0), rfl, q _ L hn (fun p hp => List.mem_of_mem_take (g.sub p hp)) fun p hp => g.all p (by rw [List.take_length]; exact hp)⟩
end
end TK

set_option Elab.async false
set_option linter.all false
set_option maxRecDepth 100000
set_option maxHeartbeats 4000000
namespace K82
open PySem PySem.Spec PyProof.Rows L2 TK MR
variable {P : Program} {w : World} {K : PySem.W.Frag} {mg : Str → Option Value} {base : Heap}
theorem op_notInDK (K : PySem.W.Frag) {X : Cx} (hu : X.A.units + 65 < cLine) (hK : X.K = K := by rfl) : OpR X (compareOp .NotIn) (rNotInD K) := hK ▸ op_notInD hu
theorem cr_sortTK (K : PySem.W.Frag) {X : Cx} {d : Nat} {B : Int} (hd : 1 ≤ d) (hK : X.K = K := by rfl) : CallR X (.builtin "sorted") (rSortU K d B) := hK ▸ cr_sortT hd
theorem LR.gx {S : List Addr} {H H' : Hp} {p : Addr} {rows : List (List Int)} (g : Gx S H H') (hS : LS S H) (n : p ∉ S) (h : LR K H p rows) : LR K H' p rows := let ⟨vs, a, b⟩ := h; ⟨vs, g.at n a (fun _ z => by cases z), b.gx g hS⟩
theorem LR.gr {H H' : Hp} {p : Addr} {rows : List (List Int)} (g : Gr H H') (h : LR K H p rows) : LR K H' p rows := h.gx g .nil (by simp)
theorem LR.wr {H : Hp} {p q : Addr} {xs : List V} {o : HO} {rows : List (List Int)} (e : H q = some (.lst xs)) (n : p ≠ q) (h : LR K H p rows) : LR K (upd H q o) p rows := let ⟨vs, a, b⟩ := h; ⟨vs, by rw [upd_ne n]; exact a, b.wr e⟩
/-- the script stands somewhere -/
def Lv (K : PySem.W.Frag) (H : Hp) (c : Addr) : Prop := H c ≠ none ∨ ∃ ns : List Int, SqL K (fun _ => none) c (ns.map V.int)
theorem RowSt.wr {H : Hp} {r c p : Addr} {o : HO} (h : RowSt K H r c) (n : r ≠ p) (nc : c ≠ p ∨ ∃ ns : List Int, SqL K (fun _ => none) c (ns.map V.int)) : RowSt K (upd H p o) r c := by
  obtain ⟨ns, i, st, d, h1, h2, h3, h4⟩ := h
  rcases nc with nc | ⟨ms, k⟩
  · exact ⟨ns, i, st, d, by rw [upd_ne n]; exact h1, seqL_ne h2 nc, h3, h4⟩
  · exact ⟨ms, i, st, d, by rw [upd_ne n]; exact h1, seqL_frag k, .inr k, h4⟩
theorem Lv.gx {H H' : Hp} {r c : Addr} (g : Gx [r] H H') (hR : RowSt K H' r c) (h : Lv K H c) : Lv K H' c := by
  rcases h with h | h
  · by_cases e : c = r
    · subst e
      obtain ⟨xs, e⟩ := hR.lst
      exact .inl (by rw [e]; intro z; cases z)
    · obtain ⟨o, e1⟩ := Option.ne_none_iff_exists'.mp h
      exact .inl (g c o (fun z => e (List.mem_singleton.mp z)) e1).some
  · exact .inr h
theorem live_ne {H : Hp} {c p : Addr} (h : Lv K H c) (n : H p = none) : c ≠ p ∨ ∃ ns : List Int, SqL K (fun _ => none) c (ns.map V.int) := h.imp_left fun h z => h (by rw [z]; exact n)
/-! _law_some_rows -/
def sp_law_some_rows (K : PySem.W.Frag) : Sp := fun vs H Q _ => ∃ (r c : Addr) (sz ar most : Nat), vs = [.ref r, .int sz, .int ar, .int most] ∧ RowSt K H r c ∧ Lv K H c ∧ (1 ≤ sz ∧ sz ≤ 4) ∧ (1 ≤ ar ∧ ar ≤ 4) ∧ (1 ≤ most ∧ most ≤ 9) ∧
  ∀ (v : V) (rows : List (List Int)) H', Gx [r] H H' → RowSt K H' r c → DT K H' v (.tuple (rows.map rowD)) → rows ≠ [] → rows.length ≤ most → RelOk sz ar rows → Q v H'
end K82

set_option linter.all false
set_option maxRecDepth 100000
/-! rows that an operation closes; a dict of rows -/
namespace MR
open PySem PySem.Spec PyProof.Rows L2 TK
theorem nodup_le : ∀ {l S : List (List Int)}, l.Nodup → (∀ x ∈ l, x ∈ S) → l.length ≤ S.length
  | [], _, _, _ => Nat.zero_le _
  | x :: l, S, nd, h => by
    obtain ⟨n1, n2⟩ := List.nodup_cons.mp nd
    have hx := h x List.mem_cons_self
    have : l.length ≤ (S.erase x).length := nodup_le n2 fun y hy => by
      have hy' := h y (List.mem_cons_of_mem _ hy)
      exact (List.mem_erase_of_ne (by rintro rfl; exact n1 hy)).mpr hy'
    rw [List.length_erase_of_mem hx] at this
    have p : 0 < S.length := List.length_pos_of_mem hx
    rw [List.length_cons]
    omega
/-- some rows within S, which the operation closes -/
structure Clo (sz k : Nat) (tab : List Int) (ar : Nat) (rows S : List (List Int)) : Prop where
  few : S.length ≤ 8
  sub : ∀ r ∈ rows, r ∈ S
  shut : ∀ rs : List (List Int), rs.length = k → (∀ r ∈ rs, r ∈ S) → carried sz tab rs ar ∈ S
theorem all_same {rs : List (List Int)} {r : List Int} (h : ∀ q ∈ rs, q = r) : rs = List.replicate rs.length r := by
  induction rs with
  | nil => rfl
  | cons q rs ih =>
    have e : q = r := h q List.mem_cons_self
    subst e
    rw [List.length_cons, List.replicate_succ, ← ih fun p hp => h p (List.mem_cons_of_mem _ hp)]
theorem clo_one {sz k ar : Nat} {tab : List Int} (O : OpOk sz k tab) {r : List Int} (hl : r.length = ar) (hv : ∀ x ∈ r, 0 ≤ x ∧ x < (sz : Int)) : ∃ S, Clo sz k tab ar [r] S := by
  rcases O.own with own | zero
  · refine ⟨[r], by show 1 ≤ 8; omega, fun q hq => hq, fun rs hk hs => ?_⟩
    have e := all_same (rs := rs) (r := r) fun q hq => List.mem_singleton.mp (hs q hq)
    rw [hk] at e
    refine List.mem_singleton.mpr ?_
    rw [e]
    unfold carried
    apply List.ext_getElem
    · rw [List.length_map, List.length_range, hl]
    · intro i h1 h2
      have hi : i < r.length := h2
      rw [List.getElem_map, List.getElem_range, List.map_replicate]
      have g : r.getD i 0 = r[i] := by rw [List.getD_eq_getElem?_getD, List.getElem?_eq_getElem hi]; rfl
      obtain ⟨b1, b2⟩ := hv r[i] (List.getElem_mem hi)
      obtain ⟨v, ev⟩ := Int.eq_ofNat_of_zero_le b1
      rw [g, ev]
      rw [ev] at b2
      exact own v (by omega)
  · refine ⟨[r, List.replicate ar 0], by show 2 ≤ 8; omega, fun q hq => by rw [List.mem_singleton.mp hq]; exact List.mem_cons_self, fun rs _ _ => ?_⟩
    have e : carried sz tab rs ar = List.replicate ar 0 := by
      unfold carried
      apply List.ext_getElem
      · rw [List.length_map, List.length_range, List.length_replicate]
      · intro i h1 h2
        rw [List.getElem_map, List.getElem_replicate, List.getD_eq_getElem?_getD]
        cases h : tab[(idxI sz (rs.map fun r => r.getD ((List.range ar)[i]'(by rw [List.length_map] at h1; exact h1)) 0)).toNat]? with
        | none => rfl
        | some x => exact zero x (List.mem_of_getElem? h)
    rw [e]
    exact List.mem_cons_of_mem _ List.mem_cons_self
/-- the dict whose keys are these rows, each True -/
def kd (rows : List (List Int)) : List (List Key × V) := rows.map fun r => (r.map Sum.inl, V.bl true)
theorem inl_inj {a b : List Int} : (a.map Sum.inl : List Key) = b.map Sum.inl ↔ a = b := by
  constructor
  · intro h
    have e := congrArg (List.map kV) h
    rw [keys_ints, keys_ints] at e
    have e2 := congrArg (List.map unI) e
    rw [unI_ints, unI_ints] at e2
    exact e2
  · intro h
    rw [h]
theorem kd_any (rows : List (List Int)) (r : List Int) : ((kd rows).any fun kv => decide (kv.1 = r.map Sum.inl)) = decide (r ∈ rows) := by
  induction rows with
  | nil => rfl
  | cons q rows ih =>
    show (decide ((q.map Sum.inl : List Key) = r.map Sum.inl) || (kd rows).any fun kv => decide (kv.1 = r.map Sum.inl)) = _
    rw [ih]
    have e : decide ((q.map Sum.inl : List Key) = r.map Sum.inl) = decide (q = r) := decide_eq_decide.mpr inl_inj
    rw [e]
    by_cases h : q = r
    · subst h; simp
    · have h' : ¬ r = q := fun z => h z.symm
      simp [h, h']
theorem kd_has (rows : List (List Int)) (r : List Int) : (valV (kd rows) (r.map Sum.inl)).isSome = decide (r ∈ rows) := by
  rw [← valV_any, kd_any]
theorem kd_old {rows : List (List Int)} {r : List Int} (h : r ∈ rows) : putK (kd rows) (r.map Sum.inl) (V.bl true) = kd rows := by
  unfold putK
  rw [kd_any, if_pos (decide_eq_true h)]
  have : ∀ l : List (List Int), (kd l).map (fun kv => if kv.1 = (r.map Sum.inl : List Key) then (kv.1, V.bl true) else kv) = kd l := fun l => by
    induction l with
    | nil => rfl
    | cons q l ih =>
      show (if (q.map Sum.inl : List Key) = r.map Sum.inl then _ else _) :: (kd l).map _ = _
      rw [ih]
      have e : (if (q.map Sum.inl : List Key) = r.map Sum.inl then ((q.map Sum.inl : List Key), V.bl true) else ((q.map Sum.inl : List Key), V.bl true)) = ((q.map Sum.inl : List Key), V.bl true) := ite_self _
      rw [e]
      rfl
  exact this rows
theorem kd_new {rows : List (List Int)} {r : List Int} (h : r ∉ rows) : putK (kd rows) (r.map Sum.inl) (V.bl true) = kd (rows ++ [r]) := by
  unfold putK
  rw [kd_any, if_neg (by simpa using h)]
  show kd rows ++ [_] = _
  unfold kd
  rw [List.map_append]
  rfl
theorem kd_len (rows : List (List Int)) : (kd rows).length = rows.length := by
  unfold kd
  rw [List.length_map]
end MR

set_option Elab.async false
set_option linter.all false
set_option maxRecDepth 100000
set_option maxHeartbeats 4000000
namespace K82
open PySem PySem.Spec PyProof.Rows L2 TK MR
variable {P : Program} {w : World} {K : PySem.W.Frag} {mg : Str → Option Value} {base : Heap}
/-- tuples stand, so data stand -/
theorem DT.keep {H H1 : Hp} (k : ∀ a xs, H a = some (.tup xs) → H1 a = some (.tup xs)) {v : V} {d : PyData} (h : DT K H v d) : DT K H1 v d := by
  induction h with
  | non => exact .non
  | bl b => exact .bl b
  | int i => exact .int i
  | str x => exact .str x
  | tup h1 h2 _ ih => exact .tup (k _ _ h1) h2 ih
theorem DTs.keep {H H1 : Hp} (k : ∀ a xs, H a = some (.tup xs) → H1 a = some (.tup xs)) {vs : List V} {ds : List PyData} (h : DTs K H vs ds) : DTs K H1 vs ds := ⟨h.1, fun i v d e e' => DT.keep k (h.2 i v d e e')⟩
/-- all but p stands -/
def But (p : Addr) (H H1 : Hp) : Prop := ∀ b, b ≠ p → H1 b = H b
theorem But.tups {p : Addr} {H H1 : Hp} (h : But p H H1) {o : HO} (e : H p = some o) (n : ∀ xs, o ≠ .tup xs) : ∀ a xs, H a = some (.tup xs) → H1 a = some (.tup xs) := fun a xs ea => by
  rw [h a fun z => by
    rw [z, e] at ea
    exact n xs (Option.some.inj ea)]
  exact ea
theorem But.upd {p : Addr} {H H1 : Hp} {o : HO} (h : But p H H1) : But p H (upd H1 p o) := fun b hb => by rw [upd_ne hb, h b hb]
theorem But.refl {p : Addr} {H : Hp} : But p H H := fun _ _ => rfl
theorem grB {H H1 H2 : Hp} {p : Addr} (g : Gr H H1) (n : H p = none) (h : But p H1 H2) : Gr H H2 := grBut g n h
theorem Gx.but {H H1 H2 : Hp} {p : Addr} (g : Gr H H1) (n : H p = none) (h : Gx [p] H1 H2) : Gr H H2 := fun b o hb e => by
  have hbp : b ≠ p := ne_of_none e n
  exact (g b o hb e).trans fun u e' => h b u (fun z => hbp (List.mem_singleton.mp z)) e'
theorem keys_DTs {H : Hp} {keys : List (List Int)} {bs : List Addr} (h : IsKeys H (kd keys) bs) : DTs K H (bs.map V.ref) (keys.map rowD) := by
  unfold IsKeys at h
  induction keys generalizing bs with
  | nil =>
    cases h
    exact .nil
  | cons r keys ih =>
    cases h with
    | cons h t =>
      refine .cons (.row ?_) (ih t)
      have e : (r.map Sum.inl : List Key).map kV = r.map V.int := keys_ints r
      rw [← e]
      exact h
/-- a row of so many values below sz -/
def Good (sz ar : Nat) (r : List Int) : Prop := r.length = ar ∧ ∀ x ∈ r, 0 ≤ x ∧ x < (sz : Int)
theorem Good.bd {sz ar : Nat} {r : List Int} (h : Good sz ar r) (s4 : sz ≤ 4) : r.length = ar ∧ TS.Bd 4 r := ⟨h.1, fun m hm => by have := h.2 m hm; omega⟩
/-- (arity, tuple(sorted(known))) -/
theorem closed_end {D : Ends} {σ : L2.St} {H' : Hp} {d : Addr} {sz ar : Nat} {keys : List (List Int)} (h2 : σ[2]? = some (some (.int ar))) (h4 : σ[4]? = some (some (.ref d))) (hd : H' d = some (.dT (kd keys))) (nd : keys.Nodup) (hl : keys.length ≤ 8) (ok : ∀ r ∈ keys, Good sz ar r)
    (s4 : sz ≤ 4) (a1 : 1 ≤ ar) (a4 : ar ≤ 4) (q : ∀ v rs H2, Gr H' H2 → DT K H2 v (relD ar rs) → RelOk sz ar rs → rs.Perm keys → D.rt v H2) :
    tRet (tTup (tCons (tVar 2) (tCons (tCB (rTupleOf K) (tCons (tCB (rSortedDT ar 4) (tCons (tVar 4) tNil)) tNil)) tNil))) D σ H' := by
  refine ⟨.int ar, h2, .ref d, h4, d, kd keys, rfl, hd, by rw [kd_len]; omega, fun p hp => ?_, fun bs ys p2 hk pm pw np2 => ?_⟩
  · obtain ⟨r, hr, rfl⟩ := List.mem_map.mp hp
    exact ⟨r, rfl, (ok r hr).bd s4⟩
  · obtain ⟨qs, qd, qp, qw⟩ := sorted_rows (B := 4) (d := ar) (keys_DTs (K := K) hk) pm nd (fun r hr => (ok r hr).bd s4) pw
    refine ⟨p2, ys, rfl, .inl ⟨.inl (.inl upd_same), fun l nl => ⟨by show 2 ≤ sizeLine; decide, fun t nt => ?_⟩⟩⟩
    have g2 : Gr H' (upd (upd H' p2 (.lst ys)) l (.tup ys)) := (Gx.new np2).trans (Gx.new nl)
    refine q _ qs _ (g2.trans (Gx.new nt)) (rel_laid (.mk upd_same (qd.gr g2)) nt) ?_ qp
    exact ⟨by omega, by omega, fun z hz => by have := (ok z (qp.mem_iff.mp hz)).1; omega, fun z hz x hx => by have := (ok z (qp.mem_iff.mp hz)).2 x hx; omega, qw, by rw [qp.length_eq]; omega⟩
theorem asc_nodup {l : List (List Int)} (h : l.Pairwise fun r q => HT.lexLt r q = true) : l.Nodup := h.imp fun {a b} h z => by
  rw [z, lex_irr] at h
  cases h
theorem RelOk.good {sz ar : Nat} {rows : List (List Int)} (h : RelOk sz ar rows) : ∀ r ∈ rows, Good sz ar r := fun r hr => ⟨by have := h.len r hr; omega, fun x hx => by have := h.val r hr x hx; omega⟩
theorem any_nil (rows : List (List Int)) : PyData.eqv (.list (rows.map rowD)) (.list []) = decide (rows = []) := by
  cases rows with
  | nil => simp [PyData.eqv, PyData.eqvAll]
  | cons r rows => simp [PyData.eqv, PyData.eqvAll]
/-- known[told] = True -/
theorem put_row {H : Hp} {d b : Addr} {keys : List (List Int)} {r : List Int} (hd : H d = some (.dT (kd keys))) (hb : H b = some (.tup (r.map V.int))) (hl : keys.length ≤ 900) : DPut H d (.ref b) (.bl true) (upd H d (.dT (putK (kd keys) (r.map Sum.inl) (.bl true)))) :=
  DPut.t hd (by rw [keys_ints]; exact hb) (by rw [kd_len]; exact small1000 (by omega))
theorem get_row {H : Hp} {d b : Addr} {keys : List (List Int)} {r : List Int} (hd : H d = some (.dT (kd keys))) (hb : H b = some (.tup (r.map V.int))) : DGet H d (.ref b) (valV (kd keys) (r.map Sum.inl)) :=
  DGet.t hd (by rw [keys_ints]; exact hb)
theorem rows_in {qs : List (List Int)} : ∀ {es : List PyData}, (∀ e ∈ es, e ∈ qs.map rowD) → ∃ rs : List (List Int), es = rs.map rowD ∧ ∀ r ∈ rs, r ∈ qs
  | [], _ => ⟨[], rfl, fun r hr => by simp at hr⟩
  | e :: es, h => by
    obtain ⟨r, hr, e1⟩ := List.mem_map.mp (h e List.mem_cons_self)
    obtain ⟨rs, e2, h2⟩ := rows_in fun e he => h e (List.mem_cons_of_mem _ he)
    exact ⟨r :: rs, by rw [List.map_cons, e1, ← e2], fun q hq => by
      rcases List.mem_cons.mp hq with z | z
      · rw [z]; exact hr
      · exact h2 q z⟩
/-! _law_closed -/
def sp_law_closed (K : PySem.W.Frag) : Sp := fun vs H Q _ => ∃ (sz ar k : Nat) (v u : V) (tab : List Int) (rows : List (List Int)), vs = [.int sz, v, .int ar, u] ∧ (1 ≤ sz ∧ sz ≤ 4) ∧ (1 ≤ ar ∧ ar ≤ 4) ∧ DT K H v (opD k tab) ∧ OpOk sz k tab ∧ DT K H u (.tuple (rows.map rowD)) ∧ rows ≠ [] ∧ rows.length ≤ 8 ∧ RelOk sz ar rows ∧
  (∀ H', Gr H H' → (¬ ∃ S, Clo sz k tab ar rows S) → Q .non H') ∧ ∀ z rs H', Gr H H' → DT K H' z (relD ar rs) → RelOk sz ar rs → rs.length ≤ 8 → rs ≠ [] → Q z H'
end K82

set_option Elab.async false
set_option linter.all false
set_option maxRecDepth 100000
set_option maxHeartbeats 4000000
namespace K82
open PySem PySem.Spec PyProof.Rows L2 TK MR
variable {P : Program} {w : World} {K : PySem.W.Frag} {mg : Str → Option Value} {base : Heap}
theorem cut_first {x : V} {xs : List V} : cutV (x :: xs) none (some 1) = [x] := by
  unfold cutV
  rw [show HT.sIx (x :: xs).length (x :: xs).length (some 1) = min 1 (x :: xs).length from HT.sIx_nat (x :: xs).length _ 1, HT.sIx_none]
  rw [show min 1 (x :: xs).length = 1 by rw [List.length_cons]; omega]
  rfl
theorem not_whole {n : Nat} (h : 2 ≤ n) : ¬ (HT.sIx n 0 none = 0 ∧ HT.sIx n n (some 1) = n) := by
  rw [show HT.sIx n n (some 1) = min 1 n from HT.sIx_nat n n 1]
  omega
theorem DT.op_gx {S : List Addr} {H H' : Hp} (g : Gx S H H') (hS : LS S H) {v : V} {k : Int} {tab : List Int} (h : DT K H v (opD k tab)) : DT K H' v (opD k tab) := h.gx g hS
/-! _law_kept -/
def sp_law_kept (K : PySem.W.Frag) : Sp := fun vs H Q _ => ∃ (r c : Addr) (sz ar k : Nat) (v : V) (tab : List Int), vs = [.ref r, .int sz, v, .int ar] ∧ RowSt K H r c ∧ Lv K H c ∧ (1 ≤ sz ∧ sz ≤ 4) ∧ (1 ≤ ar ∧ ar ≤ 4) ∧ DT K H v (opD k tab) ∧ OpOk sz k tab ∧
  ∀ z (rs : List (List Int)) H', Gx [r] H H' → RowSt K H' r c → DT K H' z (relD ar rs) → rs ≠ [] → rs.length ≤ 9 → RelOk sz ar rs → Q z H'
end K82

set_option Elab.async false
set_option linter.all false
set_option maxRecDepth 100000
set_option maxHeartbeats 4000000
namespace K82
open PySem PySem.Spec PyProof.Rows L2 TK MR
variable {P : Program} {w : World} {K : PySem.W.Frag} {mg : Str → Option Value} {base : Heap}
/-! _law_relation -/
def sp_law_relation (K : PySem.W.Frag) : Sp := fun vs H Q _ => ∃ (r c : Addr) (sz ar most : Nat), vs = [.ref r, .int sz, .int ar, .int most] ∧ RowSt K H r c ∧ Lv K H c ∧ (1 ≤ sz ∧ sz ≤ 4) ∧ (1 ≤ ar ∧ ar ≤ 4) ∧ (1 ≤ most ∧ most ≤ 9) ∧
  ∀ z (rs : List (List Int)) H', Gx [r] H H' → RowSt K H' r c → DT K H' z (relD ar rs) → rs ≠ [] → rs.length ≤ 9 → RelOk sz ar rs → Q z H'
end K82

set_option Elab.async false
set_option linter.all false
set_option maxRecDepth 100000
set_option maxHeartbeats 4000000
namespace K82
open PySem PySem.Spec PyProof.Rows L2 TK MR
variable {P : Program} {w : World} {K : PySem.W.Frag} {mg : Str → Option Value} {base : Heap}
/-- ints, and tuples of such, so deep -/
def IT : Nat → PyData → Prop
  | _ + 1, .int _ => True
  | n + 1, .tuple ds => ds.length ≤ 1000 ∧ ∀ e ∈ ds, IT n e
  | _, _ => False
theorem IT.cases {n : Nat} {d : PyData} (h : IT (n + 1) d) : (∃ i, d = .int i) ∨ ∃ ds, d = .tuple ds ∧ ds.length ≤ 1000 ∧ ∀ e ∈ ds, IT n e := by
  cases d with
  | int i => exact .inl ⟨i, rfl⟩
  | tuple ds => exact .inr ⟨ds, rfl, h⟩
  | _ => exact h.elim
theorem IT.none {d : PyData} (h : IT 0 d) : False := by cases d <;> exact h
theorem isiTL {H : Hp} {t : Addr} {x : V} {T : Value} {b : Bool} {Q : VK} (hx : TyX K H x T) (ht : H t = some (.tup [.ty "tuple", .ty "list"])) (hk : PySem.W.kitAny K T [.type "tuple", .type "list"] = some b) (q : Q (.bl b) H) : rIsiT K [x, .ref t] H Q :=
  ⟨x, t, _, T, _, b, rfl, ht, .cons (.ty _) (.cons (.ty _) .nil), hx, hk, q⟩
theorem anyT : PySem.W.kitAny K (.type "tuple") [.type "tuple", .type "list"] = some true := kitAny_cons (b := true) (kit_ty (by decide +kernel)) (fun z => by cases z) fun _ => rfl
theorem anyI : PySem.W.kitAny K (.type "int") [.type "tuple", .type "list"] = some false := kitAny_cons (b := false) (kit_ty (by decide +kernel)) (fun _ => kitAny_cons (b := false) (kit_ty (by decide +kernel)) (fun _ => kitAny_nil) fun z => by cases z) fun z => by cases z
theorem tyI {H : Hp} (n : Int) : TyX K H (.int n) (.type "int") := .base (.int n)
/-! _law_alike -/
def sp_law_alike (K : PySem.W.Frag) (n : Nat) : Sp := fun vs H Q _ => ∃ (v u : V) (d : PyData), vs = [v, u] ∧ DT K H v d ∧ DT K H u d ∧ IT n d ∧ ∀ H', Gr H H' → Q (.bl true) H'
theorem ok_law_alike (T : Txt K mg base) : ∀ n, FnOk P w K mg base CX0 (n + 1) T.law_alike.f T.law_alike.fd p_law_alike (sp_law_alike K n)
  | 0 => T.law_alike.F.ok sc_law_alike (fun vs H Q E h => by obtain ⟨_, _, _, _, _, _, h, _⟩ := h; exact h.none.elim) (fun A outer s H vs Q E hr h => by obtain ⟨_, _, _, _, _, _, h, _⟩ := h; exact h.none.elim)
  | n + 1 => by
    refine T.law_alike.F.ok sc_law_alike (fun vs H Q E h => ?_) (fun A outer s H vs Q E hr h => ?_)
    · obtain ⟨_, _, _, rfl, _⟩ := h
      rfl
    · obtain ⟨v, u, d, rfl, hv, hu, hd, q⟩ := h
      refine ⟨_, pss_cons (ps_if (pt_val (pe_callB call_isiT (by rfl) T.b_isinstance boot_isinstance (pa_cons (pv 1) (pa_cons (pe_tup (pa_cons (pe_bltn (v := .ty "tuple") (by rfl) T.b_tuple boot_tuple rfl) (pa_cons (pe_bltn (v := .ty "list") (by rfl) T.b_list boot_list rfl) pa_nil))) pa_nil))))
          (pss_cons (ps_if (PW.pt (pw_or (pt_not (pt_val (pe_callB call_isiT (by rfl) T.b_isinstance boot_isinstance (pa_cons (pv 0) (pa_cons (pe_tup (pa_cons (pe_bltn (v := .ty "tuple") (by rfl) T.b_tuple boot_tuple rfl) (pa_cons (pe_bltn (v := .ty "list") (by rfl) T.b_list boot_list rfl) pa_nil))) pa_nil)))))
            (pw_or1 (pt_cmpR op_ne (pe_callB call_isi (by rfl) T.b_isinstance boot_isinstance (pa_cons (pv 0) (pa_cons (pe_bltn (v := .ty "list") (by rfl) T.b_list boot_list rfl) pa_nil))) (pe_callB call_isi (by rfl) T.b_isinstance boot_isinstance (pa_cons (pv 1) (pa_cons (pe_bltn (v := .ty "list") (by rfl) T.b_list boot_list rfl) pa_nil))) (nomark _))))) (pss_one ps_never) pss_nil)
          (pss_cons (ps_if (pt_cmpR op_ne (pe_callB call_len_seq (by rfl) T.b_len PySem.boot_len (pa_cons (pv 0) pa_nil)) (pe_callB call_len_seq (by rfl) T.b_len PySem.boot_len (pa_cons (pv 1) pa_nil)) (nomark _)) (pss_one ps_never) pss_nil)
          (pss_one (ps_ret (pe_cmpR (op_eqD hr.units)
            (pe_lc (own := [("k", 2)]) (g := gName 2) rfl sc_law_alike.nd (pi_range1 (by rfl) T.b_range (pa_cons (pe_callB call_len_seq (by rfl) T.b_len PySem.boot_len (pa_cons (pv 1) pa_nil)) pa_nil))
              (blkOk_by (N := n_law_alike) (sc := defScope s_law_alike) (by decide +kernel)) (fun _ _ _ _ _ => pg_name (i := 2) sc_law_alike.nd rfl (Or.inl rfl))
              (fun _ _ _ _ _ => pts_one (pt_not (pt_val (pe_call (ok_law_alike T n) hr (by rfl) T.law_alike.g T.law_alike.F.kp T.law_alike.b .nil pass0 (pa_cons (pe_ix (ix_tupK K) (pv 0) (pv 2) (fun _ _ => rfl)) (pa_cons (pe_ix (ix_tupK K) (pv 1) (pv 2) (fun _ _ => rfl)) pa_nil))))))
              (fun _ _ _ _ _ => pv 2))
            (pe_lst pa_nil) (nomark _)))))) pss_nil)
        (pss_cons (ps_if (PW.pt (pw_or (pt_cmpR op_isN (pv 1) pe_non (nomark _)) (pw_or1 (pt_val (pe_callB call_isi (by rfl) T.b_isinstance boot_isinstance (pa_cons (pv 1) (pa_cons (pe_bltn (v := .ty "str") (by rfl) T.b_str boot_str rfl) pa_nil))))))) (pss_one ps_never) pss_nil)
        (pss_one (ps_ret (pe_and (pe_callB call_isi (by rfl) T.b_isinstance boot_isinstance (pa_cons (pv 0) (pa_cons (pe_bltn (v := .ty "int") (by rfl) T.b_int boot_int rfl) pa_nil)))
          (pe_and (pe_cmpR op_eq (pe_callB call_isi (by rfl) T.b_isinstance boot_isinstance (pa_cons (pv 0) (pa_cons (pe_bltn (v := .ty "bool") (by rfl) T.b_bool boot_bool rfl) pa_nil))) (pe_callB call_isi (by rfl) T.b_isinstance boot_isinstance (pa_cons (pv 1) (pa_cons (pe_bltn (v := .ty "bool") (by rfl) T.b_bool boot_bool rfl) pa_nil))) (nomark _))
            (pe_one (pe_cmpR op_eq (pv 0) (pv 1) (nomark _)))))))), ?_⟩
      rcases hd.cases with ⟨i, rfl⟩ | ⟨ds, rfl, hdl, hds⟩
      · -- an int
        cases hv.int_inv
        cases hu.int_inv
        refine ⟨.int i, rfl, by show 2 ≤ sizeLine; decide, fun t nt => ?_⟩
        have g1 : Gr H (upd H t (.tup [.ty "tuple", .ty "list"])) := Gx.new nt
        refine ⟨.int i, t, _, .type "int", _, false, rfl, upd_same, .cons (.ty _) (.cons (.ty _) .nil), tyI i, anyI, false, rfl, iteF ?_⟩
        refine ⟨.int i, rfl, rfl, _, rfl, ?_⟩
        rw [show decide (V.int i = V.non) = false by simp]
        refine iteF ⟨.int i, rfl, .int i, .ty "str", _, _, false, rfl, .ty _, tyI i, kit_ty (by decide +kernel), false, rfl, iteF ?_⟩
        refine ⟨.int i, rfl, .int i, .ty "int", _, _, true, rfl, .ty _, tyI i, kit_ty (by decide +kernel), true, rfl, iteT ?_⟩
        refine ⟨.int i, rfl, .int i, .ty "bool", _, _, false, rfl, .ty _, tyI i, kit_ty (by decide +kernel), .int i, rfl, .int i, .ty "bool", _, _, false, rfl, .ty _, tyI i, kit_ty (by decide +kernel), rfl, _, rfl, ?_⟩
        rw [decide_eq_true rfl]
        refine iteT ⟨.int i, rfl, .int i, rfl, rfl, ?_⟩
        rw [decide_eq_true rfl]
        exact q _ g1
      · -- a tuple
        obtain ⟨a, xs, rfl, hS, hD⟩ := hv.tup_inv
        obtain ⟨b, ys, rfl, hS2, hD2⟩ := hu.tup_inv
        refine ⟨.ref b, rfl, by show 2 ≤ sizeLine; decide, fun t nt => ?_⟩
        have g1 : Gr H (upd H t (.tup [.ty "tuple", .ty "list"])) := Gx.new nt
        refine ⟨.ref b, t, _, .type "tuple", _, true, rfl, upd_same, .cons (.ty _) (.cons (.ty _) .nil), tyT (g1.seqT hS2), anyT, true, rfl, iteT ?_⟩
        generalize upd H t (.tup [.ty "tuple", .ty "list"]) = H1 at *
        refine ⟨.ref a, rfl, by show 2 ≤ sizeLine; decide, fun t2 nt2 => ?_⟩
        have g2 : Gr H1 (upd H1 t2 (.tup [.ty "tuple", .ty "list"])) := Gx.new nt2
        refine ⟨.ref a, t2, _, .type "tuple", _, true, rfl, upd_same, .cons (.ty _) (.cons (.ty _) .nil), tyT ((g1.trans g2).seqT hS), anyT, true, rfl, ?_⟩
        have g02 := g1.trans g2
        generalize upd H1 t2 (.tup [.ty "tuple", .ty "list"]) = H2 at *
        refine iteF ?_
        have k1 := g02.seqT hS
        have k2 := g02.seqT hS2
        refine ⟨.ref a, rfl, .ref a, .ty "list", _, _, false, rfl, .ty _, tyT k1, kit_ty (by decide +kernel), .ref b, rfl, .ref b, .ty "list", _, _, false, rfl, .ty _, tyT k2, kit_ty (by decide +kernel), rfl, _, rfl, ?_⟩
        rw [decide_eq_true rfl]
        refine iteF ?_
        have lx : xs.length = ds.length := hD.1
        have ly : ys.length = ds.length := hD2.1
        refine ⟨.ref a, rfl, a, xs, rfl, .inr k1, .ref b, rfl, b, ys, rfl, .inr k2, rfl, _, rfl, ?_⟩
        rw [decide_eq_true (by rw [lx, ly])]
        refine iteF ?_
        -- each place
        refine ⟨.ref b, rfl, b, ys, rfl, .inr k2, ys.length, rfl, by omega, ?_, fun D nD => ?_⟩
        · omega
        refine lc_range (n := ((ys.length : Nat) : Int).toNat) (fun i H' => Gr H2 H' ∧ H' D = some (.lst [])) ⟨Gx.new nD, upd_same⟩ (fun i H' hi p => ?_) (fun H' p => ?_)
        · obtain ⟨g3, hD3⟩ := p
          have iy : i < ys.length := by omega
          have ix : i < xs.length := by omega
          have idd : i < ds.length := by omega
          have g03 := g02.trans g3
          have ezi : (0 : Int) + (i : Int) = (i : Int) := Int.zero_add _
          refine ⟨rfl, .ref a, rfl, .int (0 + (i : Int)), rfl, a, xs, _, xs[i], rfl, rfl, g03.seqT hS, by rw [ezi]; exact atI_nat (List.getElem?_eq_getElem ix), ?_⟩
          refine ⟨.ref b, rfl, .int (0 + (i : Int)), rfl, b, ys, _, ys[i], rfl, rfl, g03.seqT hS2, by rw [ezi]; exact atI_nat (List.getElem?_eq_getElem iy), ?_⟩
          refine ⟨xs[i], ys[i], ds[i], rfl, (hD.2 i _ _ (List.getElem?_eq_getElem ix) (List.getElem?_eq_getElem idd)).gr g03, (hD2.2 i _ _ (List.getElem?_eq_getElem iy) (List.getElem?_eq_getElem idd)).gr g03, hds _ (List.getElem_mem idd), fun H4 g4 => ⟨true, rfl, iteF ⟨g3.trans g4, g4.lst hD3⟩⟩⟩
        · obtain ⟨g3, hD3⟩ := p
          refine ⟨Nat.zero_le _, fun l nl => ?_⟩
          have gl : Gr H' (upd H' l (.lst [])) := Gx.new nl
          refine ⟨.list [], .list [], .lst (.inl (.inl (gl.lst hD3))) .nil, .lst (.inl (.inl upd_same)) .nil, by decide, by decide, ?_⟩
          exact q _ ((g02.trans g3).trans gl)
theorem it_row {r : List Int} (h : r.length ≤ 1000) : IT 2 (rowD r) := ⟨by rw [List.length_map]; exact h, fun e he => by
  obtain ⟨i, _, rfl⟩ := List.mem_map.mp he
  exact trivial⟩
theorem it_rel {ar : Int} {rows : List (List Int)} (h : rows.length ≤ 1000) (hl : ∀ r ∈ rows, r.length ≤ 1000) : IT 4 (relD ar rows) := ⟨by show 2 ≤ 1000; omega, fun e he => by
  rcases List.mem_cons.mp he with rfl | he
  · exact trivial
  · rw [List.mem_singleton.mp he]
    exact ⟨by rw [List.length_map]; exact h, fun e he => by
      obtain ⟨r, hr, rfl⟩ := List.mem_map.mp he
      exact it_row (hl r hr)⟩⟩

end K82

set_option Elab.async false
set_option linter.all false
set_option maxRecDepth 100000
set_option maxHeartbeats 4000000
namespace K82
open PySem PySem.Spec PyProof.Rows L2 TK MR
variable {P : Program} {w : World} {K : PySem.W.Frag} {mg : Str → Option Value} {base : Heap}
theorem fn_or {CX : CXT} {k : Nat} {f : Addr} {fd : FuncData} {ps : List Str} {sp sp' : Sp} (F : FnOk P w K mg base CX k f fd ps sp) (G : FnOk P w K mg base CX k f fd ps sp') : FnOk P w K mg base CX k f fd ps (fun vs H Q E => sp vs H Q E ∨ sp' vs H Q E) :=
  ⟨fun vs H Q E h => h.elim (F.len vs H Q E) (G.len vs H Q E), fun A outer s H args us vs Q E hr e b r h => h.elim (F.run A outer s H args us vs Q E hr e b r) (G.run A outer s H args us vs Q E hr e b r)⟩
/-! _law_alike of None and of truth values -/
def sp_alike_non : Sp := fun vs H Q _ => vs = [.non, .non] ∧ ∀ H', Gr H H' → Q (.bl true) H'
theorem ok_alike_non (T : Txt K mg base) : FnOk P w K mg base CX0 1 T.law_alike.f T.law_alike.fd p_law_alike sp_alike_non := by
  refine T.law_alike.F.ok sc_law_alike (fun vs H Q E h => ?_) (fun A outer s H vs Q E hr h => ?_)
  · obtain ⟨rfl, _⟩ := h
    rfl
  · obtain ⟨rfl, q⟩ := h
    refine ⟨_, pss_cons (ps_if (pt_val (pe_callB call_isiT (by rfl) T.b_isinstance boot_isinstance (pa_cons (pv 1) (pa_cons (pe_tup (pa_cons (pe_bltn (v := .ty "tuple") (by rfl) T.b_tuple boot_tuple rfl) (pa_cons (pe_bltn (v := .ty "list") (by rfl) T.b_list boot_list rfl) pa_nil))) pa_nil)))) (pss_cons ps_never (pss_cons ps_never (pss_one ps_never))) pss_nil)
        (pss_cons (ps_if (PW.pt (pw_or (pt_cmpR op_isN (pv 1) pe_non (nomark _)) (pw_or1 (pt_val (pe_callB call_isi (by rfl) T.b_isinstance boot_isinstance (pa_cons (pv 1) (pa_cons (pe_bltn (v := .ty "str") (by rfl) T.b_str boot_str rfl) pa_nil)))))))
          (pss_one (ps_ret (pe_and (pe_cmpR op_eq (pv 0) (pv 1) (nomark _)) (pe_one (pe_cmpR op_eq (pe_callB call_isi (by rfl) T.b_isinstance boot_isinstance (pa_cons (pv 0) (pa_cons (pe_bltn (v := .ty "str") (by rfl) T.b_str boot_str rfl) pa_nil))) (pe_callB call_isi (by rfl) T.b_isinstance boot_isinstance (pa_cons (pv 1) (pa_cons (pe_bltn (v := .ty "str") (by rfl) T.b_str boot_str rfl) pa_nil))) (nomark _)))))) pss_nil)
        (pss_one ps_never)), ?_⟩
    have tyN : ∀ {H : Hp}, TyX K H .non (.type "NoneType") := .base .non
    have anyN : PySem.W.kitAny K (.type "NoneType") [.type "tuple", .type "list"] = some false := kitAny_cons (b := false) (kit_ty (by decide +kernel)) (fun _ => kitAny_cons (b := false) (kit_ty (by decide +kernel)) (fun _ => kitAny_nil) fun z => by cases z) fun z => by cases z
    refine ⟨.non, rfl, by show 2 ≤ sizeLine; decide, fun t nt => ?_⟩
    have g1 : Gr H (upd H t (.tup [.ty "tuple", .ty "list"])) := Gx.new nt
    refine ⟨.non, t, _, .type "NoneType", _, false, rfl, upd_same, .cons (.ty _) (.cons (.ty _) .nil), tyN, anyN, false, rfl, iteF ?_⟩
    refine ⟨.non, rfl, rfl, _, rfl, ?_⟩
    rw [show decide (V.non = V.non) = true by simp]
    refine iteT ⟨.non, rfl, .non, rfl, rfl, _, rfl, ?_⟩
    rw [show decide (V.non = V.non) = true by simp]
    refine iteT ⟨.non, rfl, .non, .ty "str", _, _, false, rfl, .ty _, tyN, kit_ty (by decide +kernel), .non, rfl, .non, .ty "str", _, _, false, rfl, .ty _, tyN, kit_ty (by decide +kernel), rfl, ?_⟩
    rw [show decide (V.bl false = V.bl false) = true by simp]
    exact q _ g1
def sp_alike_bl : Sp := fun vs H Q _ => ∃ b, vs = [.bl b, .bl b] ∧ ∀ H', Gr H H' → Q (.bl true) H'
theorem ok_alike_bl (T : Txt K mg base) : FnOk P w K mg base CX0 1 T.law_alike.f T.law_alike.fd p_law_alike sp_alike_bl := by
  refine T.law_alike.F.ok sc_law_alike (fun vs H Q E h => ?_) (fun A outer s H vs Q E hr h => ?_)
  · obtain ⟨_, rfl, _⟩ := h
    rfl
  · obtain ⟨b, rfl, q⟩ := h
    refine ⟨_, pss_cons (ps_if (pt_val (pe_callB call_isiT (by rfl) T.b_isinstance boot_isinstance (pa_cons (pv 1) (pa_cons (pe_tup (pa_cons (pe_bltn (v := .ty "tuple") (by rfl) T.b_tuple boot_tuple rfl) (pa_cons (pe_bltn (v := .ty "list") (by rfl) T.b_list boot_list rfl) pa_nil))) pa_nil)))) (pss_cons ps_never (pss_cons ps_never (pss_one ps_never))) pss_nil)
        (pss_cons (ps_if (PW.pt (pw_or (pt_cmpR op_isN (pv 1) pe_non (nomark _)) (pw_or1 (pt_val (pe_callB call_isi (by rfl) T.b_isinstance boot_isinstance (pa_cons (pv 1) (pa_cons (pe_bltn (v := .ty "str") (by rfl) T.b_str boot_str rfl) pa_nil))))))) (pss_one ps_never) pss_nil)
        (pss_one (ps_ret (pe_and (pe_callB call_isi (by rfl) T.b_isinstance boot_isinstance (pa_cons (pv 0) (pa_cons (pe_bltn (v := .ty "int") (by rfl) T.b_int boot_int rfl) pa_nil)))
          (pe_and (pe_cmpR op_eq (pe_callB call_isi (by rfl) T.b_isinstance boot_isinstance (pa_cons (pv 0) (pa_cons (pe_bltn (v := .ty "bool") (by rfl) T.b_bool boot_bool rfl) pa_nil))) (pe_callB call_isi (by rfl) T.b_isinstance boot_isinstance (pa_cons (pv 1) (pa_cons (pe_bltn (v := .ty "bool") (by rfl) T.b_bool boot_bool rfl) pa_nil))) (nomark _))
            (pe_one (pe_cmpR op_eq (pv 0) (pv 1) (nomark _)))))))), ?_⟩
    have tyB : ∀ {H : Hp}, TyX K H (.bl b) (.type "bool") := .base (.bl b)
    have anyB : PySem.W.kitAny K (.type "bool") [.type "tuple", .type "list"] = some false := kitAny_cons (b := false) (kit_ty (by decide +kernel)) (fun _ => kitAny_cons (b := false) (kit_ty (by decide +kernel)) (fun _ => kitAny_nil) fun z => by cases z) fun z => by cases z
    refine ⟨.bl b, rfl, by show 2 ≤ sizeLine; decide, fun t nt => ?_⟩
    have g1 : Gr H (upd H t (.tup [.ty "tuple", .ty "list"])) := Gx.new nt
    refine ⟨.bl b, t, _, .type "bool", _, false, rfl, upd_same, .cons (.ty _) (.cons (.ty _) .nil), tyB, anyB, false, rfl, iteF ?_⟩
    refine ⟨.bl b, rfl, rfl, _, rfl, ?_⟩
    rw [show decide (V.bl b = V.non) = false by simp]
    refine iteF ⟨.bl b, rfl, .bl b, .ty "str", _, _, false, rfl, .ty _, tyB, kit_ty (by decide +kernel), false, rfl, iteF ?_⟩
    refine ⟨.bl b, rfl, .bl b, .ty "int", _, _, true, rfl, .ty _, tyB, kit_ty (by decide +kernel), true, rfl, iteT ?_⟩
    refine ⟨.bl b, rfl, .bl b, .ty "bool", _, _, true, rfl, .ty _, tyB, kit_ty (by decide +kernel), .bl b, rfl, .bl b, .ty "bool", _, _, true, rfl, .ty _, tyB, kit_ty (by decide +kernel), rfl, _, rfl, ?_⟩
    rw [decide_eq_true rfl]
    refine iteT ⟨.bl b, rfl, .bl b, rfl, rfl, ?_⟩
    rw [decide_eq_true rfl]
    exact q _ g1

end K82

set_option Elab.async false
set_option linter.all false
set_option maxRecDepth 100000
set_option maxHeartbeats 4000000
namespace K82
open PySem PySem.Spec PyProof.Rows L2 TK MR
variable {P : Program} {w : World} {K : PySem.W.Frag} {mg : Str → Option Value} {base : Heap}
/-! power_of -/
def sp_power_of : Sp := fun vs H Q _ => ∃ b e : Nat, vs = [.int b, .int e] ∧ b ≤ 4 ∧ e ≤ 8 ∧ Q (.int ((b ^ e : Nat) : Int)) H
theorem ok_power_of (T : Txt K mg base) : FnOk P w K mg base CX0 1 T.power_of.f T.power_of.fd p_power_of sp_power_of := by
  refine T.power_of.F.ok sc_power_of (fun vs H Q E h => ?_) (fun A outer s H vs Q E hr h => ?_)
  · obtain ⟨_, _, rfl, _⟩ := h
    rfl
  · obtain ⟨b, e, rfl, hb, he, q⟩ := h
    refine ⟨_, pss_cons (ps_set (i := 2) sc_power_of.nd rfl (.inl rfl) pe_int)
      (pss_cons (ps_for PassesOwn.never rfl (pi_range1 (by rfl) T.b_range (pa_cons (pv 1) pa_nil)) (pg_name (i := 3) sc_power_of.nd rfl (.inl rfl))
        (pss_one (ps_set (i := 2) sc_power_of.nd rfl (.inl rfl) (pe_op op_mul (pv 2) (pv 0)))))
      (pss_one (ps_ret (pv 2)))), ?_⟩
    refine ⟨.int e, rfl, e, rfl, by omega, by omega, ?_⟩
    refine for_range (n := (e : Int).toNat) (fun i σ H' => H' = H ∧ ∃ y3, σ = [some (.int b), some (.int e), some (.int ((b ^ i : Nat) : Int)), y3]) ⟨rfl, none, rfl⟩ (fun i σ H' hi p => ?_) (fun σ H' p => ?_)
    · obtain ⟨rfl, y3, rfl⟩ := p
      have h1 : b ^ i ≤ 4 ^ 8 := Nat.le_trans (Nat.pow_le_pow_left hb i) (Nat.pow_le_pow_right (by omega) (by omega))
      have h2 : (4 : Nat) ^ 8 = 65536 := by decide
      refine ⟨_, rfl, .int b, rfl, _, b, rfl, rfl, .inl ⟨by omega, by omega⟩, rfl, some (.int (0 + (i : Int))), ?_⟩
      show _ = [_, _, some (V.int ((b ^ (i + 1) : Nat) : Int)), _]
      rw [Nat.pow_succ, Int.natCast_mul]
      rfl
    · obtain ⟨rfl, y3, rfl⟩ := p
      have ee : (e : Int).toNat = e := by omega
      rw [ee]
      exact ⟨_, rfl, q⟩
/-- a table of so many arguments -/
structure TabOk4 (sz k : Nat) (tab : List Int) : Prop where
  k1 : 1 ≤ k
  k4 : k ≤ 4
  len : tab.length = sz ^ k
  val : ∀ x ∈ tab, 0 ≤ x ∧ x < (sz : Int)
theorem pow256 {sz k : Nat} (hs : sz ≤ 4) (hk : k ≤ 4) : sz ^ k ≤ 256 := Nat.le_trans (Nat.pow_le_pow_left hs k) (Nat.le_trans (Nat.pow_le_pow_right (by omega) hk) (by decide))
/-! is_operation_arity -/
def sp_is_operation_arity : Sp := fun vs H Q _ => ∃ sz k : Nat, vs = [.int sz, .int k] ∧ sz ≤ 4 ∧ (1 ≤ k ∧ k ≤ 4) ∧ Q (.bl true) H
theorem op_invS {H : Hp} {v : V} {k : Int} {tab : List Int} (h : DT K H v (opD k tab)) : ∃ a b, v = .ref a ∧ H a = some (.tup [.int k, .ref b]) ∧ H b = some (.tup (tab.map V.int)) := by
  obtain ⟨a, xs, e, h1, h2⟩ := h.tup_invS
  obtain ⟨v1, r1, rfl, h3, h4⟩ := h2.cons_inv
  obtain ⟨v2, r2, rfl, h5, h6⟩ := h4.cons_inv
  have := h6.nil_inv
  subst this
  obtain ⟨b, rfl, hb⟩ := h5.row_invS
  rw [h3.int_inv] at h1
  exact ⟨a, b, e, h1, hb⟩
/-! is_operation -/
def sp_is_operation (T : Txt K mg base) : Sp := fun vs H Q _ => ∃ (sz k : Nat) (v : V) (tab : List Int), vs = [.int sz, v] ∧ sz ≤ 4 ∧ DT K H v (opD k tab) ∧ TabOk4 sz k tab ∧ TT T.tabs H ∧ ∀ H', Gr H H' → Q (.bl true) H'
/-! check_operation -/
def sp_check_operation (T : Txt K mg base) : Sp := fun vs H Q _ => ∃ (sz k : Nat) (v : V) (tab : List Int), vs = [.int sz, v] ∧ sz ≤ 4 ∧ DT K H v (opD k tab) ∧ TabOk4 sz k tab ∧ TT T.tabs H ∧ ∀ H', Gr H H' → Q .non H'
/-! check_operation_arity -/
def sp_check_operation_arity : Sp := fun vs H Q _ => ∃ sz k : Nat, vs = [.int sz, .int k] ∧ sz ≤ 4 ∧ (1 ≤ k ∧ k ≤ 4) ∧ Q .non H
/-! position -/
def sp_position (K : PySem.W.Frag) : Sp := fun vs H Q _ => ∃ (sz : Nat) (v : V) (as : List Int), vs = [.int sz, v] ∧ sz ≤ 4 ∧ DT K H v (rowD as) ∧ (∀ x ∈ as, 0 ≤ x ∧ x < (sz : Int)) ∧ as.length ≤ 4 ∧ Q (.int (idxI sz as)) H
theorem ok_position (T : Txt K mg base) : FnOk P w K mg base CX0 1 T.position.f T.position.fd p_position (sp_position K) := by
  refine T.position.F.ok sc_position (fun vs H Q E h => ?_) (fun A outer s H vs Q E hr h => ?_)
  · obtain ⟨_, _, _, rfl, _⟩ := h
    rfl
  · obtain ⟨sz, v, as, rfl, hsz, hv, has, hl, q⟩ := h
    obtain ⟨l, rfl, hS⟩ := hv.row_inv
    refine ⟨_, pss_cons (ps_set (i := 2) sc_position.nd rfl (.inl rfl) pe_int)
      (pss_cons (ps_for PassesOwn.never rfl (pi_tup (pv 1)) (pg_name (i := 3) sc_position.nd rfl (.inl rfl))
        (pss_one (ps_set (i := 2) sc_position.nd rfl (.inl rfl) (pe_op op_add (pe_op op_mul (pv 2) (pv 0)) (pv 3)))))
      (pss_one (ps_ret (pv 2)))), ?_⟩
    refine ⟨.ref l, rfl, l, rfl, ⟨_, hS⟩, ?_⟩
    refine for_tup (K := K) (xs := as.map V.int) (fun i σ H' => H' = H ∧ ∃ y3, σ = [some (.int sz), some (.ref l), some (.int (idxI sz (as.take i))), y3]) ⟨rfl, none, rfl⟩ (fun i σ H' _ p => by rw [p.1]; exact hS) (fun i x σ H' ex p => ?_) (fun σ H' p => ?_)
    · obtain ⟨rfl, y3, rfl⟩ := p
      rw [List.getElem?_map] at ex
      obtain ⟨n, en, rfl⟩ := Option.map_eq_some_iff.mp ex
      have hb := idxI_bd (sz := sz) (as.take i) fun x hx => has x (List.mem_of_mem_take hx)
      have hp : (sz : Int) ^ (as.take i).length ≤ 256 := by
        have h1 : sz ^ (as.take i).length ≤ 256 := pow256 hsz (by rw [List.length_take]; omega)
        rw [← Int.natCast_pow]
        omega
      refine ⟨_, rfl, .int sz, rfl, _, sz, rfl, rfl, .inl ⟨by omega, by omega⟩, .int n, rfl, _, n, rfl, rfl, rfl, some (.int n), ?_⟩
      rw [List.take_add_one, en]
      show _ = [_, _, some (V.int (idxI sz (as.take i ++ [n]))), _]
      rw [idxI_app]
      rfl
    · obtain ⟨rfl, y3, rfl⟩ := p
      have e : as.take (as.map V.int).length = as := List.take_of_length_le (by rw [List.length_map]; exact Nat.le_refl _)
      rw [e]
      exact ⟨_, rfl, q⟩
/-! apply -/
def sp_apply (T : Txt K mg base) : Sp := fun vs H Q _ => ∃ (sz k : Nat) (v u : V) (tab as : List Int), vs = [.int sz, v, u] ∧ (1 ≤ sz ∧ sz ≤ 4) ∧ DT K H v (opD k tab) ∧ TabOk4 sz k tab ∧ DT K H u (rowD as) ∧ as.length = k ∧ (∀ x ∈ as, 0 ≤ x ∧ x < (sz : Int)) ∧ TT T.tabs H ∧ ∀ H', Gr H H' → Q (.int (tab.getD (idxI sz as).toNat 0)) H'
end K82

set_option Elab.async false
set_option linter.all false
set_option maxRecDepth 100000
set_option maxHeartbeats 4000000
namespace K82
open PySem PySem.Spec PyProof.Rows L2 TK MR
variable {P : Program} {w : World} {K : PySem.W.Frag} {mg : Str → Option Value} {base : Heap}
/-- rows with their addresses -/
theorem rows_at {H : Hp} {xs : List V} {rows : List (List Int)} (h : DTs K H xs (rows.map rowD)) : ∃ ks : List (Addr × List Int), xs = ks.map (fun p => V.ref p.1) ∧ ks.map (·.2) = rows ∧ ∀ p ∈ ks, H p.1 = some (.tup (p.2.map V.int)) := by
  induction rows generalizing xs with
  | nil => exact ⟨[], h.nil_inv, rfl, fun p hp => by simp at hp⟩
  | cons r rows ih =>
    obtain ⟨w1, ws, rfl, h1, h2⟩ := h.cons_inv
    obtain ⟨a, rfl, ha⟩ := h1.row_invS
    obtain ⟨ks, e1, e2, e3⟩ := ih h2
    refine ⟨(a, r) :: ks, by rw [e1]; rfl, by rw [← e2]; rfl, fun p hp => ?_⟩
    rcases List.mem_cons.mp hp with rfl | hp
    · exact ha
    · exact e3 p hp
/-- the rows that are in both -/
def both (r1 r2 : List (List Int)) : List (List Int) := r1.filter fun r => decide (r ∈ r2)
/-! meet -/
def sp_meet (T : Txt K mg base) : Sp := fun vs H Q _ => ∃ (sz : Int) (v u : V) (ar : Int) (r1 r2 : List (List Int)), vs = [.int sz, v, u] ∧ (1 ≤ sz ∧ sz ≤ 4) ∧ DT K H v (relD ar r1) ∧ DT K H u (relD ar r2) ∧ TT T.tabs H ∧ RelOk sz ar r1 ∧ RelOk sz ar r2 ∧ r2.length < 64 ∧
  ∀ z H', Gr H H' → DT K H' z (relD ar (both r1 r2)) → Q z H'
end K82

set_option Elab.async false
set_option linter.all false
namespace MR
theorem ext_get {sz : Nat} (hs : 0 < sz) : ∀ (rows : List (List Int)) (i : Nat), (ext sz rows)[i]? = (rows[i / sz]?).map fun r => r ++ [((i % sz : Nat) : Int)]
  | [], i => by simp [ext]
  | r :: rows, i => by
    have e : ext sz (r :: rows) = ((List.range sz).map fun (v : Nat) => r ++ [(v : Int)]) ++ ext sz rows := by
      unfold ext
      rw [List.flatMap_cons]
    rw [e]
    by_cases h : i < sz
    · rw [List.getElem?_append_left (by rw [List.length_map, List.length_range]; exact h), Nat.div_eq_of_lt h, Nat.mod_eq_of_lt h, List.getElem?_map, List.getElem?_range h]
      rfl
    · rw [List.getElem?_append_right (by rw [List.length_map, List.length_range]; omega), List.length_map, List.length_range, ext_get hs rows (i - sz)]
      have e1 : i = (i - sz) + sz := by omega
      have e2 : i / sz = (i - sz) / sz + 1 := by
        conv => lhs; rw [e1]
        exact Nat.add_div_right _ hs
      have e3 : i % sz = (i - sz) % sz := by
        conv => lhs; rw [e1]
        exact Nat.add_mod_right _ _
      rw [e2, e3]
      rfl
theorem idx_row {sz : Nat} (hs : 0 < sz) : ∀ {n i : Nat} {r : List Int}, (allRows sz n)[i]? = some r → idxI sz r = (i : Int)
  | 0, i, r, h => by
    cases i with
    | zero =>
      have : r = [] := by simpa [allRows] using h.symm
      subst this
      rfl
    | succ i => simp [allRows] at h
  | n + 1, i, r, h => by
    have h' : ((allRows sz n)[i / sz]?).map (fun r => r ++ [((i % sz : Nat) : Int)]) = some r := by
      rw [← ext_get hs]
      exact h
    obtain ⟨q, hq, rfl⟩ := Option.map_eq_some_iff.mp h'
    rw [idxI_app, idx_row hs hq]
    have := Nat.div_add_mod i sz
    have e : (i : Int) = ((sz * (i / sz) + i % sz : Nat) : Int) := by rw [this]
    rw [e, Int.natCast_add, Int.natCast_mul, Int.mul_comm]
end MR

set_option Elab.async false
set_option linter.all false
namespace MR
/-! the rests of a table, argument by argument -/
def partAt (sz : Nat) (r : List Int) (v : Nat) : List Int := (r.drop (v * (r.length / sz))).take (r.length / sz)
def partsOf (sz : Nat) (r : List Int) : List (List Int) := (List.range sz).map (partAt sz r)
def addK (ks : List (List Int)) (r : List Int) : List (List Int) := if r ∈ ks then ks else ks ++ [r]
def keysOf (PP : List (List (List Int))) : List (List Int) := PP.flatten.foldl addK []
def idxIn (ks : List (List Int)) (r : List Int) : Int := ((ks.idxOf r : Nat) : Int)
def stepL (sz : Nat) (R : List (List Int)) : List (List Int) := R.map fun r => (partsOf sz r).map fun p => idxIn (keysOf (R.map (partsOf sz))) p
def lastL (sz : Nat) (R : List (List Int)) : List (List Int) := R.map fun r => (partsOf sz r).map fun p => p.getD 0 0
def stepsFrom (sz : Nat) : Nat → List (List Int) → List (List (List Int))
  | 0, _ => []
  | 1, R => [lastL sz R]
  | m + 2, R => stepL sz R :: stepsFrom sz (m + 1) (keysOf (R.map (partsOf sz)))
theorem mem_addK {ks : List (List Int)} {r x : List Int} : x ∈ addK ks r ↔ x ∈ ks ∨ x = r := by
  unfold addK
  by_cases h : r ∈ ks
  · rw [if_pos h]
    exact ⟨.inl, fun z => z.elim id fun e => e ▸ h⟩
  · rw [if_neg h, List.mem_append, List.mem_singleton]
theorem nodup_addK {ks : List (List Int)} {r : List Int} (h : ks.Nodup) : (addK ks r).Nodup := by
  unfold addK
  by_cases q : r ∈ ks
  · rw [if_pos q]
    exact h
  · rw [if_neg q, List.nodup_append]
    refine ⟨h, by simp, fun a ha b hb => ?_⟩
    rw [List.mem_singleton.mp hb]
    rintro rfl
    exact q ha
theorem len_addK {ks : List (List Int)} {r : List Int} : (addK ks r).length ≤ ks.length + 1 := by
  unfold addK
  by_cases q : r ∈ ks
  · rw [if_pos q]
    omega
  · rw [if_neg q, List.length_append]
    exact Nat.le_refl _
theorem mem_foldK : ∀ {l ks : List (List Int)} {x : List Int}, x ∈ l.foldl addK ks ↔ x ∈ ks ∨ x ∈ l
  | [], ks, x => by simp
  | r :: l, ks, x => by
    rw [List.foldl_cons, mem_foldK, mem_addK, List.mem_cons, or_assoc]
theorem nodup_foldK : ∀ {l ks : List (List Int)}, ks.Nodup → (l.foldl addK ks).Nodup
  | [], _, h => h
  | r :: l, ks, h => by
    rw [List.foldl_cons]
    exact nodup_foldK (nodup_addK h)
theorem len_foldK : ∀ {l ks : List (List Int)}, (l.foldl addK ks).length ≤ ks.length + l.length
  | [], ks => by simp
  | r :: l, ks => by
    rw [List.foldl_cons, List.length_cons]
    have := len_foldK (l := l) (ks := addK ks r)
    have := len_addK (ks := ks) (r := r)
    omega
theorem mem_keysOf {PP : List (List (List Int))} {x : List Int} : x ∈ keysOf PP ↔ ∃ P ∈ PP, x ∈ P := by
  unfold keysOf
  rw [mem_foldK, List.mem_flatten]
  simp
theorem nodup_keysOf (PP : List (List (List Int))) : (keysOf PP).Nodup := nodup_foldK List.nodup_nil
theorem partsOf_len (sz : Nat) (r : List Int) : (partsOf sz r).length = sz := by
  unfold partsOf
  rw [List.length_map, List.length_range]
theorem keysOf_len {sz : Nat} {R : List (List Int)} : (keysOf (R.map (partsOf sz))).length ≤ R.length * sz := by
  unfold keysOf
  have h := len_foldK (l := (R.map (partsOf sz)).flatten) (ks := [])
  have e : ((R.map (partsOf sz)).flatten).length = R.length * sz := by
    induction R with
    | nil => simp
    | cons r R ih =>
      rw [List.map_cons, List.flatten_cons, List.length_append, ih len_foldK, partsOf_len, List.length_cons, Nat.add_mul, Nat.one_mul]
      omega
  rw [e] at h
  simpa using h
theorem div_pow {sz m : Nat} (hs : 1 ≤ sz) {n : Nat} (h : n = sz ^ (m + 1)) : n / sz = sz ^ m := by
  rw [h, Nat.pow_succ]
  exact Nat.mul_div_cancel _ (by omega)
theorem partAt_len {sz m v : Nat} (hs : 1 ≤ sz) {r : List Int} (h : r.length = sz ^ (m + 1)) (hv : v < sz) : (partAt sz r v).length = sz ^ m := by
  unfold partAt
  rw [div_pow hs h, List.length_take, List.length_drop, h, Nat.pow_succ]
  have : (v + 1) * sz ^ m ≤ sz ^ m * sz := by rw [Nat.mul_comm (sz ^ m)]; exact Nat.mul_le_mul_right _ hv
  rw [Nat.add_mul, Nat.one_mul] at this
  omega
theorem partAt_get {sz m v i : Nat} (hs : 1 ≤ sz) {r : List Int} (h : r.length = sz ^ (m + 1)) (hi : i < sz ^ m) : (partAt sz r v).getD i 0 = r.getD (v * sz ^ m + i) 0 := by
  unfold partAt
  rw [div_pow hs h, List.getD_eq_getElem?_getD, List.getD_eq_getElem?_getD, List.getElem?_take, if_pos hi, List.getElem?_drop]
theorem mem_partsOf {sz : Nat} {r p : List Int} : p ∈ partsOf sz r ↔ ∃ v, v < sz ∧ p = partAt sz r v := by
  unfold partsOf
  rw [List.mem_map]
  exact ⟨fun ⟨v, hv, e⟩ => ⟨v, List.mem_range.mp hv, e.symm⟩, fun ⟨v, hv, e⟩ => ⟨v, List.mem_range.mpr hv, e.symm⟩⟩
theorem keys_len {sz m : Nat} (hs : 1 ≤ sz) {R : List (List Int)} (h : ∀ r ∈ R, r.length = sz ^ (m + 1)) : ∀ p ∈ keysOf (R.map (partsOf sz)), p.length = sz ^ m := fun p hp => by
  obtain ⟨P, hP, hp⟩ := mem_keysOf.mp hp
  obtain ⟨r, hr, rfl⟩ := List.mem_map.mp hP
  obtain ⟨v, hv, rfl⟩ := mem_partsOf.mp hp
  exact partAt_len hs (h r hr) hv
theorem idxIn_get {ks : List (List Int)} {r : List Int} (h : r ∈ ks) : (idxIn ks r).toNat < ks.length ∧ ks.getD (idxIn ks r).toNat [] = r ∧ 0 ≤ idxIn ks r := by
  unfold idxIn
  have hl := List.idxOf_lt_length_iff.mpr h
  refine ⟨by rw [Int.toNat_natCast]; exact hl, ?_, by omega⟩
  rw [Int.toNat_natCast, List.getD_eq_getElem?_getD, List.getElem?_eq_getElem hl, List.getElem_idxOf hl]
  rfl
/-! walking down the steps -/
def at3 (L : List (List Int)) (n v : Int) : Int := (L.getD n.toNat []).getD v.toNat 0
def walkS : List (List (List Int)) → Int → List Int → Int
  | L :: S, n, v :: vs => walkS S (at3 L n v) vs
  | _, n, _ => n
theorem idxI_cons (sz : Nat) (v : Int) (vs : List Int) : idxI sz (v :: vs) = v * (sz : Int) ^ vs.length + idxI sz vs := by
  have key : ∀ (vs : List Int) (c : Int), vs.foldl (fun (a x : Int) => a * (sz : Int) + x) c = c * (sz : Int) ^ vs.length + vs.foldl (fun (a x : Int) => a * (sz : Int) + x) 0 := by
    intro vs
    induction vs with
    | nil => intro c; simp
    | cons w vs ih =>
      intro c
      rw [List.foldl_cons, List.foldl_cons, ih (c * sz + w), ih (0 * sz + w), List.length_cons, Int.pow_succ, Int.add_mul, Int.zero_mul, Int.zero_add, Int.mul_assoc, Int.mul_comm (sz : Int) ((sz : Int) ^ vs.length)]
      omega
  unfold idxI
  rw [List.foldl_cons, key vs (0 * sz + v), Int.zero_mul, Int.zero_add]
theorem getD_map {α β : Type} {f : α → β} {l : List α} {i : Nat} {d : β} (e : α) (h : i < l.length) : (l.map f).getD i d = f (l.getD i e) := by
  rw [List.getD_eq_getElem?_getD, List.getD_eq_getElem?_getD, List.getElem?_map, List.getElem?_eq_getElem h]
  rfl
theorem partsOf_get {sz : Nat} {r : List Int} {v : Nat} (h : v < sz) : (partsOf sz r).getD v [] = partAt sz r v := by
  unfold partsOf
  rw [getD_map 0 (by rw [List.length_range]; exact h), List.getD_eq_getElem?_getD, List.getElem?_range h]
  rfl
theorem walk_steps {sz : Nat} (hs : 1 ≤ sz) : ∀ {m : Nat} {R : List (List Int)} {n : Int} {args : List Int}, (∀ r ∈ R, r.length = sz ^ (m + 1)) → n.toNat < R.length → args.length = m + 1 → (∀ x ∈ args, 0 ≤ x ∧ x < (sz : Int)) →
    walkS (stepsFrom sz (m + 1) R) n args = (R.getD n.toNat []).getD (idxI sz args).toNat 0
  | 0, R, n, [v], hR, hn, _, ha => by
    have hv := ha v List.mem_cons_self
    have hvn : v.toNat < sz := by omega
    have hr : (R.getD n.toNat []).length = sz ^ (0 + 1) := by
      rw [List.getD_eq_getElem?_getD, List.getElem?_eq_getElem hn]
      exact hR _ (List.getElem_mem hn)
    show at3 (lastL sz R) n v = _
    unfold at3 lastL
    rw [getD_map [] hn, getD_map [] (by rw [partsOf_len]; exact hvn), partsOf_get hvn, partAt_get hs hr (by simp)]
    have e : idxI sz [v] = v := by
      unfold idxI
      simp
    rw [e]
    simp
  | m + 1, R, n, v :: vs, hR, hn, hl, ha => by
    have hv := ha v List.mem_cons_self
    have hvn : v.toNat < sz := by omega
    have hvs : ∀ x ∈ vs, 0 ≤ x ∧ x < (sz : Int) := fun x hx => ha x (List.mem_cons_of_mem _ hx)
    have hl' : vs.length = m + 1 := by simpa using hl
    have hrm : R.getD n.toNat [] ∈ R := by
      rw [List.getD_eq_getElem?_getD, List.getElem?_eq_getElem hn]
      exact List.getElem_mem hn
    have hr := hR _ hrm
    show walkS (stepsFrom sz (m + 1) (keysOf (R.map (partsOf sz)))) (at3 (stepL sz R) n v) vs = _
    have e1 : at3 (stepL sz R) n v = idxIn (keysOf (R.map (partsOf sz))) (partAt sz (R.getD n.toNat []) v.toNat) := by
      unfold at3 stepL
      rw [getD_map [] hn, getD_map [] (by rw [partsOf_len]; exact hvn), partsOf_get hvn]
    have hm : partAt sz (R.getD n.toNat []) v.toNat ∈ keysOf (R.map (partsOf sz)) := mem_keysOf.mpr ⟨_, List.mem_map.mpr ⟨_, hrm, rfl⟩, mem_partsOf.mpr ⟨_, hvn, rfl⟩⟩
    obtain ⟨i1, i2, i3⟩ := idxIn_get hm
    have hb := idxI_nat hvs
    have h0 := (idxI_bd vs hvs).1
    rw [e1, walk_steps hs (keys_len hs hR) i1 hl' hvs, i2, partAt_get hs hr (by rw [← hl']; exact hb), idxI_cons, hl']
    congr 1
    have e2 : v = (v.toNat : Int) := by omega
    have e3 : idxI sz vs = ((idxI sz vs).toNat : Int) := by omega
    rw [e3, e2, ← Int.natCast_pow, ← Int.natCast_mul, ← Int.natCast_add, Int.toNat_natCast, Int.toNat_natCast, Int.toNat_natCast]
/-- the steps' numbers stand within the next step -/
def okS (sz : Nat) : List (List (List Int)) → Nat → Prop
  | [], _ => True
  | L :: S, w => L.length = w ∧ (∀ row ∈ L, row.length = sz) ∧ ∃ w' : Nat, (∀ row ∈ L, ∀ x ∈ row, S ≠ [] → 0 ≤ x ∧ x < (w' : Int)) ∧ okS sz S w'
theorem okS_steps {sz : Nat} : ∀ {m : Nat} (R : List (List Int)), okS sz (stepsFrom sz (m + 1) R) R.length
  | 0, R => by
    refine ⟨by unfold lastL; rw [List.length_map], fun row h => ?_, 0, fun row _ x _ q => absurd rfl q, trivial⟩
    obtain ⟨r, _, rfl⟩ := List.mem_map.mp h
    rw [List.length_map, partsOf_len]
  | m + 1, R => by
    refine ⟨by unfold stepL; rw [List.length_map], fun row h => ?_, (keysOf (R.map (partsOf sz))).length, fun row h x hx _ => ?_, okS_steps _⟩
    · obtain ⟨r, _, rfl⟩ := List.mem_map.mp h
      rw [List.length_map, partsOf_len]
    · obtain ⟨r, hr, rfl⟩ := List.mem_map.mp h
      obtain ⟨p, hp, rfl⟩ := List.mem_map.mp hx
      obtain ⟨i1, _, i3⟩ := idxIn_get (mem_keysOf.mpr ⟨_, List.mem_map.mpr ⟨r, hr, rfl⟩, hp⟩)
      omega
theorem stepsFrom_len {sz : Nat} : ∀ {m : Nat} {R : List (List Int)}, (stepsFrom sz (m + 1) R).length = m + 1
  | 0, R => rfl
  | m + 1, R => by
    show (stepsFrom sz (m + 1) _).length + 1 = _
    rw [stepsFrom_len]
/-! the search for the least tuple of rows that is carried out -/
def stepSt (L : List (List Int)) (st r : List Int) : List Int := List.zipWith (at3 L) st r
def srch (rows : List (List Int)) : List (List (List Int)) → List Int → Option (List (List Int))
  | [], st => if st ∈ rows then none else some []
  | L :: S, st => rows.findSome? fun r => (srch rows S (stepSt L st r)).map (r :: ·)
def finalSt : List (List (List Int)) → List Int → List (List Int) → List Int
  | L :: S, st, r :: t => finalSt S (stepSt L st r) t
  | _, st, _ => st
def tuples (rows : List (List Int)) : Nat → List (List (List Int))
  | 0 => [[]]
  | n + 1 => rows.flatMap fun r => (tuples rows n).map (r :: ·)
theorem srch_find (rows : List (List Int)) : ∀ (S : List (List (List Int))) (st : List Int), srch rows S st = (tuples rows S.length).find? fun t => decide (finalSt S st t ∉ rows)
  | [], st => by
    show (if st ∈ rows then none else some []) = [[]].find? _
    by_cases h : st ∈ rows
    · rw [if_pos h, List.find?_cons_of_neg (by simp [finalSt, h])]
      rfl
    · rw [if_neg h, List.find?_cons_of_pos (by simp [finalSt, h])]
  | L :: S, st => by
    show (rows.findSome? fun r => (srch rows S (stepSt L st r)).map (r :: ·)) = (rows.flatMap fun r => (tuples rows S.length).map (r :: ·)).find? _
    rw [List.find?_flatMap]
    congr 1
    funext r
    rw [List.find?_map, srch_find rows S (stepSt L st r)]
    rfl
theorem stepSt_range {L : List (List Int)} {ar : Nat} {f : Nat → Int} {r : List Int} (h : r.length = ar) : stepSt L ((List.range ar).map f) r = (List.range ar).map fun a => at3 L (f a) (r.getD a 0) := by
  unfold stepSt
  refine List.ext_getElem? fun i => ?_
  rw [List.getElem?_zipWith, List.getElem?_map, List.getElem?_map]
  by_cases hi : i < ar
  · have hr : i < r.length := by omega
    have e : r.getD i 0 = r[i] := by
      rw [List.getD_eq_getElem?_getD, List.getElem?_eq_getElem hr]
      rfl
    rw [List.getElem?_range hi, List.getElem?_eq_getElem hr]
    show some (at3 L (f i) r[i]) = some (at3 L (f i) (r.getD i 0))
    rw [e]
  · rw [List.getElem?_eq_none (by rw [List.length_range]; omega)]
    rfl
theorem finalSt_range {ar : Nat} : ∀ {S : List (List (List Int))} {f : Nat → Int} {t : List (List Int)}, (∀ r ∈ t, r.length = ar) → t.length = S.length → finalSt S ((List.range ar).map f) t = (List.range ar).map fun a => walkS S (f a) (t.map fun r => r.getD a 0)
  | [], f, [], _, _ => rfl
  | L :: S, f, r :: t, h, hl => by
    show finalSt S (stepSt L _ r) t = _
    rw [stepSt_range (h r List.mem_cons_self), finalSt_range (fun q hq => h q (List.mem_cons_of_mem _ hq)) (by simpa using hl)]
    rfl
theorem mem_tuples {rows : List (List Int)} : ∀ {n : Nat} {t : List (List Int)}, t ∈ tuples rows n → t.length = n ∧ ∀ r ∈ t, r ∈ rows
  | 0, t, h => by
    have : t = [] := by simpa [tuples] using h
    subst this
    exact ⟨rfl, fun r hr => by simp at hr⟩
  | n + 1, t, h => by
    obtain ⟨r, hr, h⟩ := List.mem_flatMap.mp h
    obtain ⟨t', ht, rfl⟩ := List.mem_map.mp h
    obtain ⟨h1, h2⟩ := mem_tuples ht
    exact ⟨by rw [List.length_cons, h1], fun q hq => (List.mem_cons.mp hq).elim (fun e => e ▸ hr) (h2 q)⟩
theorem find_congr {α : Type} {p q : α → Bool} : ∀ {l : List α}, (∀ x ∈ l, p x = q x) → l.find? p = l.find? q
  | [], _ => rfl
  | x :: l, h => by
    rw [List.find?_cons, List.find?_cons, h x List.mem_cons_self, find_congr fun y hy => h y (List.mem_cons_of_mem _ hy)]
/-- the least tuple of rows that is carried out, None if there is none -/
def breakOf (sz : Nat) (tab : List Int) (k ar : Nat) (rows : List (List Int)) : Option (List (List Int)) := (tuples rows k).find? fun t => decide (carried sz tab t ar ∉ rows)
theorem srch_break {sz k ar : Nat} {tab : List Int} {rows : List (List Int)} (hs : 1 ≤ sz) (hk : 1 ≤ k) (ht : tab.length = sz ^ k) (hr : ∀ r ∈ rows, r.length = ar ∧ ∀ x ∈ r, 0 ≤ x ∧ x < (sz : Int)) :
    srch rows (stepsFrom sz k [tab]) ((List.range ar).map fun _ => 0) = breakOf sz tab k ar rows := by
  obtain ⟨m, rfl⟩ : ∃ m, k = m + 1 := ⟨k - 1, by omega⟩
  rw [srch_find, stepsFrom_len]
  unfold breakOf
  refine find_congr fun t h => ?_
  obtain ⟨h1, h2⟩ := mem_tuples h
  rw [finalSt_range (fun r q => (hr r (h2 r q)).1) (by rw [h1, stepsFrom_len])]
  unfold carried
  · have e : ((List.range ar).map fun a => walkS (stepsFrom sz (m + 1) [tab]) 0 (t.map fun r => r.getD a 0)) = (List.range ar).map fun a => tab.getD (idxI sz (t.map fun r => r.getD a 0)).toNat 0 := by
      refine List.map_congr_left fun a ha => ?_
      have ha := List.mem_range.mp ha
      rw [walk_steps hs (fun r q => by rw [List.mem_singleton.mp q, ht]) (by simp) (by rw [List.length_map, h1]) fun x hx => ?_]
      · rfl
      · obtain ⟨r, hr', rfl⟩ := List.mem_map.mp hx
        obtain ⟨e1, e2⟩ := hr r (h2 r hr')
        rw [List.getD_eq_getElem?_getD, List.getElem?_eq_getElem (show a < r.length by omega)]
        exact e2 _ (List.getElem_mem _)
    exact congrArg (fun z => decide (z ∉ rows)) e
/-! tuples by appending -/
def extT (rows : List (List Int)) (A : List (List (List Int))) : List (List (List Int)) := A.flatMap fun t => rows.map fun x => t ++ [x]
def tuplesR (rows : List (List Int)) : Nat → List (List (List Int))
  | 0 => [[]]
  | n + 1 => extT rows (tuplesR rows n)
theorem extT_cons {rows : List (List Int)} {r : List Int} {A : List (List (List Int))} : extT rows (A.map (r :: ·)) = (extT rows A).map (r :: ·) := by
  unfold extT
  rw [List.flatMap_map, List.map_flatMap]
  congr 1
  funext t
  rw [List.map_map]
  rfl
theorem extT_flat {rows : List (List Int)} {β : Type} {l : List β} {f : β → List (List (List Int))} : extT rows (l.flatMap f) = l.flatMap fun b => extT rows (f b) := by
  unfold extT
  rw [List.flatMap_assoc]
theorem tuples_ext (rows : List (List Int)) : ∀ n, tuples rows (n + 1) = extT rows (tuples rows n)
  | 0 => by
    show (rows.flatMap fun r => [[]].map (r :: ·)) = [[]].flatMap fun t => rows.map fun x => t ++ [x]
    simp [List.flatMap]
    induction rows with
    | nil => rfl
    | cons r rows ih => simp [ih]
  | n + 1 => by
    show (rows.flatMap fun r => (tuples rows (n + 1)).map (r :: ·)) = extT rows (rows.flatMap fun r => (tuples rows n).map (r :: ·))
    rw [extT_flat]
    congr 1
    funext r
    rw [tuples_ext rows n, extT_cons]
theorem tuplesR_eq (rows : List (List Int)) : ∀ n, tuplesR rows n = tuples rows n
  | 0 => rfl
  | n + 1 => by
    show extT rows (tuplesR rows n) = _
    rw [tuplesR_eq rows n, tuples_ext]
theorem tuples_len (rows : List (List Int)) : ∀ n, (tuples rows n).length = rows.length ^ n
  | 0 => rfl
  | n + 1 => by
    show (rows.flatMap fun r => (tuples rows n).map (r :: ·)).length = _
    rw [List.length_flatMap]
    have : (rows.map fun r => ((tuples rows n).map (r :: ·)).length) = rows.map fun _ => rows.length ^ n := by
      refine List.map_congr_left fun r _ => ?_
      rw [List.length_map, tuples_len rows n]
    rw [this, Nat.pow_succ, Nat.mul_comm]
    generalize rows.length ^ n = c
    clear this
    induction rows with
    | nil => simp
    | cons r rows ih => rw [List.map_cons, List.sum_cons, ih, List.length_cons, Nat.add_mul]; omega
/-! as many rows as there are -/
theorem len_le_of_sub : ∀ {l m : List (List Int)}, l.Nodup → (∀ x ∈ l, x ∈ m) → l.length ≤ m.length
  | [], _, _, _ => Nat.zero_le _
  | a :: l, m, nd, h => by
    obtain ⟨h1, h2⟩ := List.nodup_cons.mp nd
    have ha := h a List.mem_cons_self
    have := len_le_of_sub (m := m.erase a) h2 fun x hx => (List.mem_erase_of_ne (fun (e : x = a) => h1 (by rw [← e]; exact hx))).mpr (h x (List.mem_cons_of_mem _ hx))
    rw [List.length_erase_of_mem ha] at this
    have : 0 < m.length := List.length_pos_of_mem ha
    rw [List.length_cons]
    omega
theorem all_of_len {l m : List (List Int)} (nd : l.Nodup) (h : ∀ x ∈ l, x ∈ m) (hl : m.length ≤ l.length) : ∀ x ∈ m, x ∈ l := fun x hx => by
  by_cases q : x ∈ l
  · exact q
  · have := len_le_of_sub (l := x :: l) (m := m) (List.nodup_cons.mpr ⟨q, nd⟩) fun y hy => (List.mem_cons.mp hy).elim (fun e => e ▸ hx) (h y)
    rw [List.length_cons] at this
    omega
theorem mem_allRows {sz : Nat} : ∀ {n : Nat} {r : List Int}, r.length = n → (∀ x ∈ r, 0 ≤ x ∧ x < (sz : Int)) → r ∈ allRows sz n
  | 0, r, h, _ => by
    have : r = [] := List.length_eq_zero_iff.mp h
    subst this
    exact List.mem_singleton.mpr rfl
  | n + 1, r, h, hx => by
    have hne : r ≠ [] := fun z => by simp [z] at h
    have e := List.dropLast_concat_getLast hne
    have hl := hx _ (List.getLast_mem hne)
    rw [← e]
    exact mem_ext.mpr ⟨r.dropLast, mem_allRows (by rw [List.length_dropLast, h]; rfl) fun x q => hx x ((List.dropLast_sublist r).subset q), (r.getLast hne).toNat, by omega, by congr 2; omega⟩
theorem full_no_break {sz k ar : Nat} {tab : List Int} {rows : List (List Int)} (hs : 1 ≤ sz) (hv : ∀ x ∈ tab, 0 ≤ x ∧ x < (sz : Int)) (nd : rows.Nodup) (hr : ∀ r ∈ rows, r.length = ar ∧ ∀ x ∈ r, 0 ≤ x ∧ x < (sz : Int)) (hl : rows.length = sz ^ ar) : breakOf sz tab k ar rows = none := by
  unfold breakOf
  refine List.find?_eq_none.mpr fun t _ q => ?_
  have q : carried sz tab t ar ∉ rows := of_decide_eq_true q
  exact q (all_of_len nd (fun x hx => mem_allRows (hr x hx).1 (hr x hx).2) (by rw [allRows_len, hl]; exact Nat.le_refl _) _ (mem_allRows (carried_len sz tab t ar) (carried_ok hv hs)))
end MR

set_option Elab.async false
set_option linter.all false
namespace MR
/-- what the operation makes of rows is a row -/
def Shut (sz k : Nat) (tab : List Int) (ar : Nat) (rs : List (List Int)) : Prop := ∀ t : List (List Int), t.length = k → (∀ r ∈ t, r ∈ rs) → carried sz tab t ar ∈ rs
def Over (sz k : Nat) (tab : List Int) (ar : Nat) (rows S : List (List Int)) : Prop := (∀ r ∈ rows, r ∈ S) ∧ Shut sz k tab ar S
/-- the closure of rows -/
structure Least (sz k : Nat) (tab : List Int) (ar : Nat) (rows rs : List (List Int)) : Prop where
  sub : ∀ r ∈ rows, r ∈ rs
  shut : Shut sz k tab ar rs
  least : ∀ S, Over sz k tab ar rows S → ∀ r ∈ rs, r ∈ S
theorem Shut.perm {sz k : Nat} {tab : List Int} {ar : Nat} {rs keys : List (List Int)} (p : rs.Perm keys) (h : Shut sz k tab ar keys) : Shut sz k tab ar rs := fun t tl tr => p.mem_iff.mpr (h t tl fun r hr => p.mem_iff.mp (tr r hr))
theorem Least.of {sz k : Nat} {tab : List Int} {ar : Nat} {rows rs keys : List (List Int)} (p : rs.Perm keys) (h : Shut sz k tab ar keys) (s : ∀ r ∈ rows, r ∈ keys) (l : ∀ S, Over sz k tab ar rows S → ∀ r ∈ keys, r ∈ S) : Least sz k tab ar rows rs :=
  ⟨fun r hr => p.mem_iff.mpr (s r hr), h.perm p, fun S o r hr => l S o r (p.mem_iff.mp hr)⟩
theorem tuples_mem {rows : List (List Int)} : ∀ {n : Nat} {t : List (List Int)}, t.length = n → (∀ r ∈ t, r ∈ rows) → t ∈ tuples rows n
  | 0, t, h, _ => by
    rw [List.length_eq_zero_iff.mp h]
    simp [tuples]
  | n + 1, [], h, _ => by simp at h
  | n + 1, r :: t, h, q => by
    simp only [tuples, List.mem_flatMap, List.mem_map]
    exact ⟨r, q r List.mem_cons_self, t, tuples_mem (by simpa using h) (fun x hx => q x (List.mem_cons_of_mem _ hx)), rfl⟩
theorem shut_no_break {sz k ar : Nat} {tab : List Int} {rows : List (List Int)} (h : Shut sz k tab ar rows) : breakOf sz tab k ar rows = none := by
  unfold breakOf
  refine List.find?_eq_none.mpr fun t ht z => ?_
  obtain ⟨tl, tr⟩ := mem_tuples ht
  exact (of_decide_eq_true z) (h t tl tr)
end MR

set_option Elab.async false
set_option linter.all false
namespace MR
theorem carried_getD {sz ar a : Nat} {tab : List Int} {t : List (List Int)} (h : a < ar) : (carried sz tab t ar).getD a 0 = tab.getD (idxI sz (t.map fun r => r.getD a 0)).toNat 0 := by
  unfold carried
  rw [List.getD_eq_getElem?_getD, List.getElem?_map, List.getElem?_range h]
  rfl
theorem shut_both {sz k ar : Nat} {tab : List Int} {r1 r2 : List (List Int)} (h1 : Shut sz k tab ar r1) (h2 : Shut sz k tab ar r2) : Shut sz k tab ar (r1.filter fun r => decide (r ∈ r2)) := fun t tl tr => by
  refine List.mem_filter.mpr ⟨h1 t tl fun r hr => (List.mem_filter.mp (tr r hr)).1, ?_⟩
  exact decide_eq_true (h2 t tl fun r hr => of_decide_eq_true (List.mem_filter.mp (tr r hr)).2)
theorem shut_glue {sz k ar a b : Nat} {tab : List Int} {rows : List (List Int)} (h : Shut sz k tab ar rows) (ha : a < ar) (hb : b < ar) : Shut sz k tab ar (glue rows a b) := fun t tl tr => by
  refine List.mem_filter.mpr ⟨h t tl fun r hr => (List.mem_filter.mp (tr r hr)).1, decide_eq_true ?_⟩
  rw [carried_getD ha, carried_getD hb]
  have e : (t.map fun r => r.getD a 0) = t.map fun r => r.getD b 0 := List.map_congr_left fun r hr => of_decide_eq_true (List.mem_filter.mp (tr r hr)).2
  rw [e]
theorem choose_all {α β : Type} {f : α → β} {rows : List α} : ∀ {t : List β}, (∀ x ∈ t, x ∈ rows.map f) → ∃ t' : List α, t = t'.map f ∧ ∀ r ∈ t', r ∈ rows
  | [], _ => ⟨[], rfl, fun r hr => by simp at hr⟩
  | x :: t, h => by
    obtain ⟨r, hr, e⟩ := List.mem_map.mp (h x List.mem_cons_self)
    obtain ⟨t', e', h'⟩ := choose_all fun y hy => h y (List.mem_cons_of_mem _ hy)
    exact ⟨r :: t', by rw [List.map_cons, e, ← e'], fun q hq => (List.mem_cons.mp hq).elim (fun z => z ▸ hr) (h' q)⟩
theorem shut_pick {sz k ar : Nat} {tab : List Int} {rows qs : List (List Int)} {ps : List Nat} (h : Shut sz k tab ar rows) (hp : ∀ p ∈ ps, p < ar) (hq : ∀ x, x ∈ qs ↔ x ∈ rows.map fun r => ps.map fun p => r.getD p 0) : Shut sz k tab ps.length qs := fun t tl tr => by
  obtain ⟨t', rfl, h'⟩ := choose_all fun x hx => (hq x).mp (tr x hx)
  rw [List.length_map] at tl
  refine (hq _).mpr (List.mem_map.mpr ⟨carried sz tab t' ar, h t' tl h', ?_⟩)
  have e2 : carried sz tab (t'.map fun r => ps.map fun p => r.getD p 0) ps.length = (List.range ps.length).map fun i => tab.getD (idxI sz (t'.map fun r => r.getD (ps.getD i 0) 0)).toNat 0 := by
    unfold carried
    refine List.map_congr_left fun i hi => ?_
    have hi := List.mem_range.mp hi
    rw [List.map_map]
    have e : ((fun r : List Int => r.getD i 0) ∘ fun r : List Int => ps.map fun p => r.getD p 0) = fun r : List Int => r.getD (ps.getD i 0) 0 := by
      funext r
      show (ps.map fun p => r.getD p 0).getD i 0 = _
      rw [List.getD_eq_getElem?_getD, List.getElem?_map, List.getElem?_eq_getElem hi, List.getD_eq_getElem?_getD (l := ps), List.getElem?_eq_getElem hi]
      rfl
    rw [e]
  rw [e2]
  refine List.ext_getElem (by rw [List.length_map, List.length_map, List.length_range]) fun i h1 h2 => ?_
  rw [List.length_map] at h1
  rw [List.getElem_map, List.getElem_map, List.getElem_range, carried_getD (hp _ (List.getElem_mem h1)), List.getD_eq_getElem?_getD (l := ps), List.getElem?_eq_getElem h1]
  rfl
theorem shut_prod {sz k ar br : Nat} {tab : List Int} {r1 r2 : List (List Int)} (h1 : Shut sz k tab ar r1) (h2 : Shut sz k tab br r2) (l1 : ∀ r ∈ r1, r.length = ar) (l2 : ∀ r ∈ r2, r.length = br) : Shut sz k tab (ar + br) (prod r1 r2) := fun t tl tr => by
  have parts : ∀ r ∈ t, r.take ar ∈ r1 ∧ r.drop ar ∈ r2 := fun r hr => by
    obtain ⟨a, ha, z⟩ := List.mem_flatMap.mp (tr r hr)
    obtain ⟨b, hb, rfl⟩ := List.mem_map.mp z
    rw [← l1 a ha, List.take_left, List.drop_left]
    exact ⟨ha, hb⟩
  have c1 := h1 (t.map fun r => r.take ar) (by rw [List.length_map]; exact tl) fun r hr => by
    obtain ⟨q, hq, rfl⟩ := List.mem_map.mp hr
    exact (parts q hq).1
  have c2 := h2 (t.map fun r => r.drop ar) (by rw [List.length_map]; exact tl) fun r hr => by
    obtain ⟨q, hq, rfl⟩ := List.mem_map.mp hr
    exact (parts q hq).2
  refine List.mem_flatMap.mpr ⟨_, c1, List.mem_map.mpr ⟨_, c2, ?_⟩⟩
  unfold carried
  rw [List.range_add, List.map_append]
  congr 1
  · refine List.map_congr_left fun a ha => ?_
    rw [List.map_map]
    have e : ((fun r : List Int => r.getD a 0) ∘ fun r : List Int => r.take ar) = fun r : List Int => r.getD a 0 := by
      funext r
      show (r.take ar).getD a 0 = _
      rw [List.getD_eq_getElem?_getD, List.getElem?_take, if_pos (List.mem_range.mp ha), List.getD_eq_getElem?_getD]
    rw [e]
  · rw [List.map_map]
    refine List.map_congr_left fun a ha => ?_
    rw [List.map_map]
    have e : ((fun r : List Int => r.getD a 0) ∘ fun r : List Int => r.drop ar) = fun r : List Int => r.getD (ar + a) 0 := by
      funext r
      show (r.drop ar).getD a 0 = _
      rw [List.getD_eq_getElem?_getD, List.getElem?_drop, List.getD_eq_getElem?_getD]
    rw [e]
    rfl
theorem shut_full {sz k ar : Nat} {tab : List Int} (hs : 1 ≤ sz) (hv : ∀ x ∈ tab, 0 ≤ x ∧ x < (sz : Int)) : Shut sz k tab ar (allRows sz ar) := fun t _ _ => mem_allRows (carried_len sz tab t ar) (carried_ok hv hs)
end MR

set_option Elab.async false
set_option linter.all false
namespace MR
open PySem PySem.Spec PyProof.Rows L2
abbrev Asc (l : List (List Int)) : Prop := l.Pairwise fun r q => HT.lexLt r q = true
theorem lex_same (x y : List Int) : ∀ r : List Int, HT.lexLt (r ++ x) (r ++ y) = HT.lexLt x y
  | [] => rfl
  | a :: r => by rw [List.cons_append, List.cons_append, HT.lexLt_cons, if_pos rfl, lex_same x y r]
theorem lex_app (x y : List Int) : ∀ {r q : List Int}, r.length = q.length → HT.lexLt r q = true → HT.lexLt (r ++ x) (q ++ y) = true
  | [], [], _, h => by
    rw [lex_irr] at h
    cases h
  | [], _ :: _, h, _ => by simp at h
  | _ :: _, [], h, _ => by simp at h
  | a :: r, b :: q, hl, h => by
    rw [HT.lexLt_cons] at h
    rw [List.cons_append, List.cons_append, HT.lexLt_cons]
    by_cases e : a = b
    · rw [if_pos e] at h ⊢
      exact lex_app x y (by simpa using hl) h
    · rw [if_neg e] at h ⊢
      exact h
theorem asc_flat {l : List (List Int)} {n : Nat} {f : List Int → List (List Int)} (hl : ∀ r ∈ l, r.length = n) (h : Asc l) (hf : ∀ r ∈ l, Asc (f r)) (hs : ∀ r ∈ l, ∀ x ∈ f r, ∃ y, x = r ++ y) : Asc (l.flatMap f) := by
  refine List.pairwise_flatMap.mpr ⟨hf, ?_⟩
  refine List.Pairwise.imp_of_mem (fun {a b} ha hb hab x hx y hy => ?_) h
  obtain ⟨x', rfl⟩ := hs a ha x hx
  obtain ⟨y', rfl⟩ := hs b hb y hy
  exact lex_app x' y' ((hl a ha).trans (hl b hb).symm) hab
theorem prod_asc {r1 r2 : List (List Int)} {n : Nat} (hl : ∀ r ∈ r1, r.length = n) (h1 : Asc r1) (h2 : Asc r2) : Asc (prod r1 r2) :=
  asc_flat hl h1 (fun r _ => List.pairwise_map.mpr (h2.imp fun {a b} h => by rw [lex_same]; exact h)) fun r _ x hx => by
    obtain ⟨y, _, rfl⟩ := List.mem_map.mp hx
    exact ⟨y, rfl⟩
theorem allRows_asc (sz : Nat) : ∀ n, Asc (allRows sz n)
  | 0 => List.pairwise_singleton _ _
  | n + 1 => asc_flat (n := n) (fun r hr => (allRows_ok hr).1) (allRows_asc sz n) (fun r _ => by
      refine List.pairwise_map.mpr ((List.pairwise_lt_range (n := sz)).imp fun {a b} h => ?_)
      rw [lex_same, HT.lexLt_cons, if_neg (by omega)]
      exact decide_eq_true (by omega)) fun r _ x hx => by
    obtain ⟨y, _, rfl⟩ := List.mem_map.mp hx
    exact ⟨_, rfl⟩
end MR

set_option Elab.async false
set_option linter.all false
/-! costs: what a row costs, the least of all rows -/
namespace MR
open PySem PySem.W PyProof.Rows PySem.SeqAt
abbrev CF := Nat × List Int
/-- a term: the function's index, the scope, the weight -/
abbrev TmC := Nat × List Nat × Int
def pk (ps : List Nat) (r : List Int) : List Int := ps.map fun p => r.getD p 0
def tcost (sz : Nat) (fs : List CF) (t : TmC) (vs : List Int) : Int := t.2.2 * (fs.getD t.1 (0, [])).2.getD (idxI sz (pk t.2.1 vs)).toNat 0
def tot (sz : Nat) (fs : List CF) (ts : List TmC) (vs : List Int) : Int := ts.foldl (fun a t => a + tcost sz fs t vs) 0
def mx : List Nat → Nat
  | [] => 0
  | x :: xs => xs.foldl max x
theorem foldl_add {α : Type} (f : α → Int) : ∀ (l : List α) (a : Int), l.foldl (fun a t => a + f t) a = a + l.foldl (fun a t => a + f t) 0
  | [], a => by simp
  | x :: l, a => by
    rw [List.foldl_cons, List.foldl_cons, foldl_add f l (a + f x), foldl_add f l (0 + f x)]
    omega
theorem tot_cons (sz : Nat) (fs : List CF) (t : TmC) (ts : List TmC) (vs : List Int) : tot sz fs (t :: ts) vs = tcost sz fs t vs + tot sz fs ts vs := by
  unfold tot
  rw [List.foldl_cons, foldl_add]
  omega
theorem tot_snoc (sz : Nat) (fs : List CF) (t : TmC) (ts : List TmC) (vs : List Int) : tot sz fs (ts ++ [t]) vs = tot sz fs ts vs + tcost sz fs t vs := by
  unfold tot
  rw [List.foldl_append]
  rfl
theorem le_fold : ∀ (l : List Nat) (a : Nat), a ≤ l.foldl max a ∧ ∀ x ∈ l, x ≤ l.foldl max a
  | [], a => ⟨Nat.le_refl _, fun x hx => by simp at hx⟩
  | y :: l, a => by
    obtain ⟨h1, h2⟩ := le_fold l (max a y)
    rw [List.foldl_cons]
    refine ⟨by omega, fun x hx => ?_⟩
    rcases List.mem_cons.mp hx with rfl | hx
    · omega
    · exact h2 x hx
theorem le_mx {l : List Nat} {x : Nat} (h : x ∈ l) : x ≤ mx l := by
  cases l with
  | nil => simp at h
  | cons y l =>
    obtain ⟨h1, h2⟩ := le_fold l y
    rcases List.mem_cons.mp h with rfl | h
    · exact h1
    · exact h2 x h
theorem fold_mem : ∀ (l : List Nat) (a : Nat), l.foldl max a = a ∨ l.foldl max a ∈ l
  | [], a => .inl rfl
  | y :: l, a => by
    rw [List.foldl_cons]
    rcases fold_mem l (max a y) with h | h
    · rw [h]
      by_cases hy : a ≤ y
      · exact .inr (by rw [Nat.max_eq_right hy]; exact List.mem_cons_self)
      · exact .inl (Nat.max_eq_left (by omega))
    · exact .inr (List.mem_cons_of_mem _ h)
theorem mx_mem {l : List Nat} (h : l ≠ []) : mx l ∈ l := by
  cases l with
  | nil => exact absurd rfl h
  | cons y l =>
    rcases fold_mem l y with e | e
    · show l.foldl max y ∈ y :: l
      rw [e]
      exact List.mem_cons_self
    · exact List.mem_cons_of_mem _ e
theorem pk_app {ps : List Nat} {vs : List Int} {x : Int} (h : ∀ p ∈ ps, p < vs.length) : pk ps (vs ++ [x]) = pk ps vs := by
  unfold pk
  refine List.map_congr_left fun p hp => ?_
  rw [List.getD_eq_getElem?_getD, List.getD_eq_getElem?_getD, List.getElem?_append_left (h p hp)]
/-- the terms whose greatest variable is below v; is v -/
def below (ts : List TmC) (v : Nat) : List TmC := ts.filter fun t => decide (mx t.2.1 < v)
def ended (ts : List TmC) (v : Nat) : List TmC := ts.filter fun t => decide (mx t.2.1 = v)
theorem tot_next {sz : Nat} {fs : List CF} {v : Nat} {vs : List Int} {x : Int} (hl : vs.length = v) : ∀ (ts : List TmC), tot sz fs (below ts (v + 1)) (vs ++ [x]) = tot sz fs (below ts v) vs + tot sz fs (ended ts v) (vs ++ [x])
  | [] => rfl
  | t :: ts => by
    have ih := tot_next (sz := sz) (fs := fs) (x := x) hl ts
    unfold below ended at ih ⊢
    have ex : mx t.2.1 < v → tcost sz fs t (vs ++ [x]) = tcost sz fs t vs := fun h1 => by
      unfold tcost
      rw [pk_app fun p hp => by have := le_mx hp; omega]
    by_cases h1 : mx t.2.1 < v
    · have d1 : decide (mx t.2.1 < v) = true := decide_eq_true h1
      have d2 : decide (mx t.2.1 < v + 1) = true := decide_eq_true (by omega)
      have d3 : decide (mx t.2.1 = v) = false := decide_eq_false (by omega)
      simp only [List.filter_cons, d1, d2, d3, if_true, Bool.false_eq_true, if_false]
      rw [tot_cons, tot_cons, ih, ex h1]
      omega
    · have d1 : decide (mx t.2.1 < v) = false := decide_eq_false h1
      by_cases h3 : mx t.2.1 = v
      · have d2 : decide (mx t.2.1 < v + 1) = true := decide_eq_true (by omega)
        have d3 : decide (mx t.2.1 = v) = true := decide_eq_true h3
        simp only [List.filter_cons, d1, d2, d3, if_true, Bool.false_eq_true, if_false]
        rw [tot_cons, tot_cons, ih]
        omega
      · have d2 : decide (mx t.2.1 < v + 1) = false := decide_eq_false (by omega)
        have d3 : decide (mx t.2.1 = v) = false := decide_eq_false h3
        simp only [List.filter_cons, d1, d2, d3, Bool.false_eq_true, if_false]
        rw [ih]
theorem below_all {ts : List TmC} {n : Nat} (h : ∀ t ∈ ts, mx t.2.1 < n) : below ts n = ts := List.filter_eq_self.mpr fun t ht => decide_eq_true (h t ht)
theorem below_none {ts : List TmC} : below ts 0 = [] := List.filter_eq_nil_iff.mpr fun t _ => by simp
/-! the least -/
def costD (c : Int) (vs : List Int) : PyData := .tuple [.int c, .tuple (vs.map PyData.int)]
/-- the first of the least -/
def best (f : List Int → Int) (a : List Int) (l : List (List Int)) : List Int := l.foldl (fun a y => if f y < f a then y else a) a
theorem lex_lt : ∀ {a b : List Int}, HT.lexLt a b = true → a < b
  | [], [], h => by simp [HT.lexLt] at h
  | [], y :: ys, _ => List.nil_lt_cons ..
  | x :: xs, [], h => by simp [HT.lexLt] at h
  | x :: xs, y :: ys, h => by
    rw [HT.lexLt_cons] at h
    by_cases e : x = y
    · subst e
      rw [if_pos rfl] at h
      exact List.cons_lt_cons_iff.mpr (.inr ⟨rfl, lex_lt h⟩)
    · rw [if_neg e] at h
      exact List.cons_lt_cons_iff.mpr (.inl (of_decide_eq_true h))
theorem alike_ints : ∀ (a b : List Int), alikeAll (a.map PyData.int) (b.map PyData.int) = true
  | [], b => by simp [alikeAll]
  | x :: a, [] => by simp [alikeAll]
  | x :: a, y :: b => by simp [alikeAll, alike, alike_ints a b]
theorem costD_lt {cy ca : Int} {y a : List Int} (h : HT.lexLt a y = true) : dataLt (costD cy y) (costD ca a) = decide (cy < ca) := by
  have hlt := lex_lt h
  have hn : ¬ y < a := fun z => List.lt_irrefl _ (List.lt_trans hlt z)
  unfold costD
  rw [dataLt_tuple, dataLt_cons (by simp [alike]), dataLt_int]
  by_cases e : cy = ca
  · subst e
    have e1 : PyData.eqv (.int cy) (.int cy) = true := by simp [PyData.eqv]
    rw [e1, if_pos rfl, dataLt_cons (by show alikeAll _ _ = true; exact alike_ints y a)]
    have e2 : PyProof.Rows.lexLt itemOrd (keyToksAll []) (keyToksAll []) = false := lex_irrefl _
    have e3 : dataLt (.tuple (y.map PyData.int)) (.tuple (a.map PyData.int)) = false := by
      rw [dataLt_tuple]
      show rowLt _ _ = false
      rw [dataLt_ints, decide_eq_false hn]
    rw [e2, e3, ite_self, decide_eq_false (Int.lt_irrefl _)]
  · have e1 : PyData.eqv (.int cy) (.int ca) = false := by simp [PyData.eqv, e]
    rw [e1, if_neg Bool.false_ne_true]
theorem minD_best (f : List Int → Int) : ∀ (l : List (List Int)) (a : List Int), Asc (a :: l) → minD (costD (f a) a) (l.map fun y => costD (f y) y) = costD (f (best f a l)) (best f a l)
  | [], a, _ => rfl
  | y :: l, a, h => by
    obtain ⟨h1, h2⟩ := List.pairwise_cons.mp h
    obtain ⟨h3, h4⟩ := List.pairwise_cons.mp h2
    unfold minD best
    rw [List.map_cons, List.foldl_cons, List.foldl_cons, costD_lt (h1 y List.mem_cons_self)]
    by_cases hc : f y < f a
    · rw [decide_eq_true hc, if_pos rfl, if_pos hc]
      exact minD_best f l y h2
    · rw [decide_eq_false hc, if_neg Bool.false_ne_true, if_neg hc]
      exact minD_best f l a (List.pairwise_cons.mpr ⟨fun z hz => h1 z (List.mem_cons_of_mem _ hz), h4⟩)
theorem alike_cost (c c' : Int) (a b : List Int) : alike (costD c a) (costD c' b) = true := by
  unfold costD
  show alikeAll _ _ = true
  simp only [alikeAll, alike, alike_ints a b, Bool.and_self]
theorem depth_cost (c : Int) (a : List Int) : (costD c a).depth ≤ 3 := by
  have : PyData.depthAll (a.map PyData.int) ≤ 1 := by
    induction a with
    | nil => simp [PyData.depthAll]
    | cons n ns ih =>
      simp only [List.map_cons, PyData.depthAll, PyData.depth]
      omega
  unfold costD
  simp only [PyData.depth, PyData.depthAll]
  omega
theorem cost_alike (f : List Int → Int) (l : List (List Int)) : AlikeAll (l.map fun y => costD (f y) y) ∧ PyData.depthAll (l.map fun y => costD (f y) y) ≤ 3 := by
  refine ⟨⟨fun x hx y hy => ?_, fun x hx => ?_⟩, ?_⟩
  · obtain ⟨a, _, rfl⟩ := List.mem_map.mp hx
    obtain ⟨b, _, rfl⟩ := List.mem_map.mp hy
    exact alike_cost ..
  · obtain ⟨a, _, rfl⟩ := List.mem_map.mp hx
    intro z
    cases z
  · induction l with
    | nil => simp [PyData.depthAll]
    | cons y l ih =>
      have := depth_cost (f y) y
      simp only [List.map_cons, PyData.depthAll]
      omega
theorem best_mem (f : List Int → Int) : ∀ (l : List (List Int)) (a : List Int), best f a l ∈ a :: l
  | [], a => List.mem_cons_self
  | y :: l, a => by
    unfold best
    rw [List.foldl_cons]
    have := best_mem f l (if f y < f a then y else a)
    unfold best at this
    rcases List.mem_cons.mp this with e | e
    · rw [e]
      split
      · exact List.mem_cons_of_mem _ List.mem_cons_self
      · exact List.mem_cons_self
    · exact List.mem_cons_of_mem _ (List.mem_cons_of_mem _ e)
end MR

set_option Elab.async false
set_option linter.all false
set_option maxRecDepth 100000
set_option maxHeartbeats 4000000
/-! min of a list of data: the item itself -/
namespace MN
open PySem PySem.Spec PyProof.Rows L2 TK
open PySem.W PySem.SeqAt
theorem dpAll_ofD {K : PySem.W.Frag} {H : Hp} : ∀ {vs : List V} {ds : List PyData}, DTs K H vs ds → DpAll K H vs ds
  | [], [], _ => .nil
  | v :: vs, d :: ds, h => by
    obtain ⟨w, ws, e, h1, h2⟩ := h.cons_inv
    cases e
    exact .cons h1.dp (dpAll_ofD h2)
  | [], d :: ds, h => by have := h.1; simp at this
  | v :: vs, [], h => by have := h.1; simp at this
section
variable {prog : Program} {w : World} {A : Around} {E : Value → Shared → Prop} {s : Shared}
theorem min_list_at {l : Addr} {vs : Array Value} {x : PyData} {xs : List PyData} {as : List Addr} {Q : Value → Shared → Prop} (hh : A.handled = none) (hl : s.heap.IsList l vs) (hr : ReadsAll s.heap vs.toList (x :: xs) as) (ha : AlikeAll (x :: xs)) (hu : A.units + 1 + PyData.depthAll (x :: xs) < cLine)
    (q : ∀ (i : Nat) v h' tk, vs[i]? = some v → i < (x :: xs).length → (x :: xs).getD i .none = minD x xs → (∀ b o, s.heap.get? b = some o → h'.get? b = some o) → Q v { s with heap := h', toks := tk }) :
    wpAny (model prog w) A (call (.builtin "min") [.ref l]) Q E s := by
  have len : vs.size = xs.length + 1 := readsAll_len hr
  refine call_min_walkH (iter_listW (A := A.in1) hh hl fun s₂ e W st hfp hw hk => ⟨_, _, _, _, _, _, _, s.heap, _, rfl, W, st, hfp, by omega, hw, hk, cmpIn_lt (A := A.in1) hr ha (by show A.units + 1 + _ < _; exact hu), fun v s' hP m => ?_⟩)
  obtain ⟨h', tk, rfl, kp⟩ := moved_old e rfl m
  have last : vs.size - 1 = xs.length := by omega
  obtain ⟨le, e2⟩ := argBest_fold dataLt PyData.none x xs xs.length (Nat.le_refl _)
  rw [List.take_length] at e2
  rw [last] at hP
  exact q _ v h' tk hP (by rw [List.length_cons]; omega) e2 kp
end
def rMinD (K : PySem.W.Frag) : List V → Hp → VK → Prop := fun vs H Q => ∃ (a : Addr) (us : List V) (d : PyData) (ds : List PyData), vs = [V.ref a] ∧ SqL K H a us ∧ DTs K H us (d :: ds) ∧ AlikeAll (d :: ds) ∧ PyData.depthAll (d :: ds) ≤ 6 ∧ ∀ v, DT K H v (minD d ds) → Q v H
theorem cr_minD (K : PySem.W.Frag) {X : Cx} (hc : X.calm = true) (hu : X.A.units + 8 < cLine) (hK : X.K = K := by rfl) : CallR X (.builtin "min") (rMinD K) := by
  subst hK
  intro pins s σ H vs us Q I r h
  obtain ⟨a, ws, d, ds, rfl, ha, hd, hal, hdep, q⟩ := h
  rw [Vals.ref1 r]
  obtain ⟨its, rv, pl, hz⟩ := I.list ha
  obtain ⟨as, hr⟩ := Dp.readsAll I _ _ _ (dpAll_ofD hd) rv
  refine min_list_at (I.ok.hd hc) pl.isList (by simpa using hr) hal (by omega) fun i v h' tk ev hi em kp => ?_
  have evi : its[i]? = some v := by simpa using ev
  obtain ⟨x, ex, rx⟩ : ∃ x, ws[i]? = some x ∧ RelV x v := by
    have hl := rv.length
    have hi2 : i < ws.length := by
      have := (List.getElem?_eq_some_iff.mp evi).1
      omega
    refine ⟨ws[i], List.getElem?_eq_getElem hi2, ?_⟩
    obtain ⟨u, hu', ru⟩ := rv.get (List.getElem?_eq_getElem hi2)
    rw [hu'] at evi
    cases evi
    exact ru
  refine ⟨x, H, I.kept kp, rx, q x ?_⟩
  rw [← em, List.getD_eq_getElem?_getD, List.getElem?_eq_getElem hi]
  exact hd.2 i x _ ex (List.getElem?_eq_getElem hi)
end MN

set_option Elab.async false
set_option linter.all false
set_option maxRecDepth 100000
set_option maxHeartbeats 4000000
namespace EN
open PySem PySem.Spec PyProof.Rows L2
open Sem (wp)
open AutoSeq1 (wpAny_loadPart')
theorem meets_enumerate_newT (l : Addr) (items : Array Value) (n : Nat) (dct : Option Addr) (sl : Array (Option Value)) :
    Meets (Builtin.«enumerate.__new__» ⟨[.type "enumerate", .ref l], []⟩) (fun _ R s => s.heap.get? l = some { cls := .type "tuple", dict := dct, data := .seq items n, slots := sl } ∧
      R (.ok (.ret (.ref (s.heap.push { cls := .type "tuple_iterator", data := .fields #[.ref l, .int 0 0] }).objs.size)))
        { s with heap := (s.heap.push { cls := .type "tuple_iterator", data := .fields #[.ref l, .int 0 0] }).push { cls := .type "enumerate", data := .fields #[.none, .bool false, .ref s.heap.objs.size, rawInt 0, .none, .none] } }) :=
  .of_wp fun prog w A R s h => by
    obtain ⟨hp, g, d, tk, os⟩ := s; obtain ⟨hl, h⟩ := h
    have hsub := sub_enumerate
    have hL : Heap.IsTuple (Shared.heap ⟨hp, g, d, tk, os⟩) l items := ⟨_, hl, rfl, n, rfl⟩
    wp_walk using wpAny_loadPart' hl
    refine wpAny_stack_any fun st => wpAny_pure ?_
    split
    · rename_i c _ _ _ _ _
      cases (c == Value.type "enumerate")
      · wp_walk using wpAny_loadPart' hl, wpAny_pyIter_tuple hL
        exact ⟨_, rfl, h⟩
      · wp_walk using wpAny_loadPart' hl, wpAny_pyIter_tuple hL
        exact ⟨_, rfl, h⟩
    · wp_walk using wpAny_loadPart' hl, wpAny_pyIter_tuple hL
      exact ⟨_, rfl, h⟩
section
variable {prog : Program} {w : World} {A : Around} {E : Value → Shared → Prop} {s : Shared}
theorem call_enumerate_tuple {l : Addr} {items : Array Value} {Q : Value → Shared → Prop} (hL : s.heap.IsTuple l items)
    (h : ∀ h', IsEnum h' (s.heap.objs.size + 1) s.heap.objs.size 0 .none → h'.IsTupleIter s.heap.objs.size l 0 → h'.objs.size = s.heap.objs.size + 2 →
      (∀ b o, s.heap.get? b = some o → h'.get? b = some o) → Q (.ref (s.heap.objs.size + 1)) { s with heap := h' }) :
    wpAny (model prog w) A (call (.type "enumerate") [.ref l]) Q E s := by
  obtain ⟨⟨c, dct, dt, sl⟩, hl, hc, n, hd⟩ := hL
  replace hc : c = .type "tuple" := hc
  replace hd : dt = .seq items n := hd
  subst hc hd
  refine callType_new F.called_enumerate (by decide) (F.typeCall_enumerate_1 _) (F.newCall_enumerate_1 _) (fun obj => F.args_object_init_2 obj _) F.entry_enumerate_new
    (meets_enumerate_newT l items n dct sl) ⟨hl, ?_⟩
  have hz : (s.heap.push { cls := .type "tuple_iterator", data := .fields #[.ref l, .int 0 0] }).objs.size = s.heap.objs.size + 1 := Heap.size_push ..
  show _ ∧ _
  rw [hz]
  have he : IsEnum ((s.heap.push { cls := .type "tuple_iterator", data := .fields #[.ref l, .int 0 0] }).push
      { cls := .type "enumerate", data := .fields #[.none, .bool false, .ref s.heap.objs.size, rawInt 0, .none, .none] }) (s.heap.objs.size + 1) s.heap.objs.size 0 .none := by
    have := Heap.get?_push_size (s.heap.push { cls := .type "tuple_iterator", data := .fields #[.ref l, .int 0 0] })
      (o := { cls := .type "enumerate", data := .fields #[.none, .bool false, .ref s.heap.objs.size, rawInt 0, .none, .none] }) rfl
    rw [hz] at this; exact this
  refine ⟨⟨_, he, rfl⟩, h _ he ⟨_, Heap.get?_push_of_some _ (Heap.get?_push_size _ rfl), rfl, rfl⟩ (by rw [Heap.size_push, hz]) fun b o x => Heap.get?_push_of_some _ (Heap.get?_push_of_some _ x)⟩
end
/-- the tuple at a, each item in a new pair with its number -/
def Itet (K : PySem.W.Frag) (a : Addr) : It :=
  ⟨fun i H => ∃ (xs : List V) (x : V), SqT K H a xs ∧ xs[i]? = some x, fun i H v H' => ∃ T x, v = .ref T ∧ H T = none ∧ H' = upd H T (.tup [.int (i : Nat), x]) ∧ ∀ xs, SqT K H a xs → xs[i]? = some x, fun i H => ∃ xs : List V, SqT K H a xs ∧ xs.length = i⟩
theorem turn_enumT {P : Program} {w : World} {K : PySem.W.Frag} {elts : List Expr} {kk : Nat} {tpos : Pos} (a e it : Addr) :
    Turn P w K (.Tuple elts kk tpos) (Itet K a) [e, it] e (fun i h => (∃ old, IsEnum h e it ((i : Nat) : Int) old) ∧ h.IsTupleIter it a i ∧ e ≠ it ∧ a ≠ it ∧ e ≠ a) where
  mem := by simp
  obj := fun i h st b hb => by
    obtain ⟨⟨old, he⟩, ⟨o, ho, hc, hd⟩, _⟩ := st
    have e' : b = e ∨ b = it := by simpa using hb
    rcases e' with z | z
    · rw [z]; exact ⟨_, he, fun v q => nomatch q⟩
    · rw [z]; exact ⟨o, ho, fun v q => by rw [hd] at q; cases q⟩
  keep := fun i h h' st k => let ⟨⟨old, he⟩, hi, hne⟩ := st; ⟨⟨old, k e (by simp) _ he⟩, hi.at fun o q => k it (by simp) o q, hne⟩
  item := by
    intro X hP hw hK hc i pins s σ H E I hf st hg
    subst hP hw hK
    obtain ⟨⟨old, he⟩, hit, hne, hai, hea⟩ := st
    obtain ⟨xs, x, hq, hx⟩ := hg
    obtain ⟨its, rv, p, hz⟩ := I.tuple hq
    have p' : s.heap.IsTuple a its.toArray := p
    obtain ⟨u, hu, ru⟩ := rv.get hx
    have hel : e < s.heap.objs.size := Heap.lt_size he
    have hil : it < s.heap.objs.size := by obtain ⟨_, q, _⟩ := hit; exact Heap.lt_size q
    have hlt : i < its.toArray.size := by
      have := (List.getElem?_eq_some_iff.mp hu).1
      simpa using this
    refine wpAny_pyNext_enum_itemD (Draws.tuple (prog := X.prog) (w := X.w) (A := X.A.in1) (show X.A.in1.handled = none from I.ok.hd hc) it a hai its.toArray) he ⟨hit, p'⟩ hlt hne (by simp [hne, hea]) fun y h' tk hP ho hst' hT hsz hk => ?_
    have ey : y = u := by
      have e1 : its.toArray[i]? = some u := by simpa using hu
      rw [e1] at hP
      exact (Option.some.inj hP).symm
    subst ey
    refine ⟨_, rfl, wpAny_letOwnedTupleGo_enum (s := { s with heap := h', toks := tk + 1 }) ho fun h'' he' sb => ?_⟩
    have hT2 : h''.get? s.heap.objs.size = some { cls := .type "tuple", data := .seq #[.int i tk, y] } := (sb.2 _ (Nat.ne_of_gt hel)).trans hT
    have new : ObjOk X.prog X.w (upd H s.heap.objs.size (.tup [.int (i : Nat), x])) h'' s.heap.objs.size (.tup [.int (i : Nat), x]) :=
      ⟨by show 2 ≤ sizeLine; decide, [.int i tk, y], .cons ⟨_, rfl⟩ (.cons ru .nil), ⟨_, hT2, rfl, _, rfl⟩⟩
    have I1 : Inv X pins σ (upd H s.heap.objs.size (.tup [.int (i : Nat), x])) { s with heap := h'', toks := tk + 1 } :=
      I.turnedNew (ch := [e, it]) (fun b ob hb q => (sb.2 b (fun z => hb (by simp [z]))).trans (hk b ob (fun z => hb (by simp [z])) (fun z => hb (by simp [z])) q)) hf (Nat.le_refl _) new
    refine ⟨.ref s.heap.objs.size, _, I1, rfl, ⟨_, x, rfl, I.hok.fresh (Nat.le_refl _), rfl, fun ys hy => by rw [I.tuple_inj hy hq]; exact hx⟩, ⟨⟨y, ?_⟩, hst'.1.at fun o q => (sb.2 it (Ne.symm hne)).trans q, hne, hai, hea⟩, fun b hb => ?_⟩
    · have e1 : ((i + 1 : Nat) : Int) = (i : Int) + 1 := by omega
      rw [e1]; exact he'
    · have hb' : b < s.heap.objs.size := by
        have e' : b = e ∨ b = it := by simpa using hb
        rcases e' with z | z
        · rw [z]; exact hel
        · rw [z]; exact hil
      rw [upd_ne (Nat.ne_of_lt hb')]
      exact (hf b hb).1
  done := by
    intro X hP hw hK hc i pins s σ H E I hf st hg
    subst hP hw hK
    obtain ⟨⟨old, he⟩, hit, hne, hai, hea⟩ := st
    obtain ⟨xs, hq, hx⟩ := hg
    obtain ⟨its, rv, p, hz⟩ := I.tuple hq
    have p' : s.heap.IsTuple a its.toArray := p
    obtain ⟨f0, f1, f2, f3, f4, f5⟩ := hf it (by simp)
    have hl := rv.length
    have hi : i = its.toArray.size := by simp; omega
    subst hi
    exact wpAny_pyNext_enum_endD (Draws.tuple (prog := X.prog) (w := X.w) (A := X.A.in1) (show X.A.in1.handled = none from I.ok.hd hc) it a hai its.toArray) he ⟨hit, p'⟩ fun h' eb => ⟨rfl, I.turned (t' := s.toks) (fun b o hb q => eb b o hb q) f0 f1 f3 f4 f5⟩
  self := fun A i s Q E st h => let ⟨⟨_, he⟩, _⟩ := st; wpAny_pyIter_enum he h
def iEnumT (K : PySem.W.Frag) (ta : TA) : TI := fun σ H R => ta σ H fun vs H1 => ∃ a xs, vs = [.ref a] ∧ SqT K H1 a xs ∧ R (Itet K a) H1
theorem pi_enumT (K : PySem.W.Frag) {X : Cx} {e : Expr} {ta : TA} {p pos tpos : Pos} {elts : List Expr} {kk : Nat} (hg : Gl X "enumerate") (hm : X.mg "enumerate" = none) (ha : PA X [e] ta) (hs : starEach [e] X.env = [(false, eval e X.env)] := by rfl) (hK : X.K = K := by rfl) :
    PI X (.Tuple elts kk tpos) (.Call (.Name "enumerate" p) [e] [] pos) (iEnumT K ta) := by
  subst hK
  refine ⟨fun pins s σ H R I h => ?_⟩
  refine Call_ (ld_blt I hg hm boot_enumerate (PyProof.Rows.callWith_type1 (thn (ha.run pos pins s σ H _ I h) fun us s1 ⟨vs, H1, I1, r1, q1⟩ => ?_) hs rfl))
  obtain ⟨a, xs, ex, hq, q⟩ := q1
  subst ex
  cases r1 with
  | cons r rr =>
    cases rr
    cases r
    obtain ⟨its, rv, p', hz⟩ := I1.tuple hq
    have p'' : s1.heap.IsTuple a its.toArray := p'
    have hal : a < s1.heap.objs.size := by obtain ⟨_, q, _⟩ := p''; exact Heap.lt_size q
    refine call_enumerate_tuple p'' fun h' he hit hsz hk => wpAny_pyIter_enum he ?_
    have I2 : Inv X pins σ H1 { s1 with heap := h' } := I1.kept (t' := s1.toks) hk
    refine ⟨s1.heap.objs.size + 1, [s1.heap.objs.size + 1, s1.heap.objs.size], _, _, H1, rfl, I2, turn_enumT a (s1.heap.objs.size + 1) s1.heap.objs.size, ⟨⟨.none, he⟩, hit, Nat.succ_ne_self _, Nat.ne_of_lt hal, Nat.ne_of_gt (Nat.lt_succ_of_lt hal)⟩, fun b hb => ?_, q⟩
    have e' : b = s1.heap.objs.size + 1 ∨ b = s1.heap.objs.size := by simpa using hb
    have hle : s1.heap.objs.size ≤ b := by
      rcases e' with z | z
      · rw [z]; exact Nat.le_add_right _ _
      · rw [z]; exact Nat.le_refl _
    exact I1.fpOk hle (I1.hok.fresh hle)
theorem walk_enumT {K : PySem.W.Frag} {a : Addr} {xs : List V} : Walk (Itet K a) xs.length (fun H => SqT K H a xs) (fun i H v H' => ∃ T x, v = .ref T ∧ H T = none ∧ H' = upd H T (.tup [.int (i : Nat), x]) ∧ xs[i]? = some x) :=
  ⟨fun i _ hi q => ⟨xs, xs[i], q, by simp [hi]⟩, fun _ q => ⟨xs, q, rfl⟩, fun i H v H' _ q y => by
    obtain ⟨T, x, e1, e2, e3, e4⟩ := y
    exact ⟨T, x, e1, e2, e3, e4 xs q⟩⟩
end EN

set_option Elab.async false
set_option linter.all false
set_option maxRecDepth 100000
set_option maxHeartbeats 4000000
namespace K82
open PySem PySem.Spec PyProof.Rows L2 TK MR
variable {P : Program} {w : World} {K : PySem.W.Frag} {mg : Str → Option Value} {base : Heap}
/-! costs, terms: the checks -/
abbrev fnsD (fs : List CF) : List PyData := fs.map fun f => opD f.1 f.2
abbrev costsD (sz : Nat) (fs : List CF) : PyData := .tuple [.int sz, .tuple (fnsD fs)]
abbrev nat2 (ps : List Nat) : List Int := ps.map fun (p : Nat) => (p : Int)
abbrev termD (t : TmC) : PyData := .tuple [.int t.1, rowD (nat2 t.2.1), .int t.2.2]
abbrev instD (n : Nat) (ts : List TmC) : PyData := .tuple [.int n, .tuple (ts.map termD)]
structure FnC (sz : Nat) (f : CF) : Prop where
  a1 : 1 ≤ f.1
  a2 : f.1 ≤ 2
  len : f.2.length = sz ^ f.1
  val : ∀ x ∈ f.2, 0 ≤ x ∧ x ≤ 1000
structure CostsOk (sz : Nat) (fs : List CF) : Prop where
  s1 : 1 ≤ sz
  s3 : sz ≤ 3
  few : fs.length ≤ 4
  ok : ∀ f ∈ fs, FnC sz f
structure TermOk (fs : List CF) (n : Nat) (t : TmC) : Prop where
  ix : t.1 < fs.length
  len : t.2.1.length = (fs.getD t.1 (0, [])).1
  sc : ∀ p ∈ t.2.1, p < n
  w1 : 1 ≤ t.2.2
  w2 : t.2.2 ≤ 2000000
structure TermsOk (fs : List CF) (n : Nat) (ts : List TmC) : Prop where
  n8 : n ≤ 8
  few : ts.length ≤ 40
  ok : ∀ t ∈ ts, TermOk fs n t
theorem pair_inv {H : Hp} {v : V} {a : Int} {ds : List PyData} (h : DT K H v (.tuple [.int a, .tuple ds])) : ∃ p q xs, v = .ref p ∧ H p = some (.tup [.int a, .ref q]) ∧ H q = some (.tup xs) ∧ DTs K H xs ds := by
  obtain ⟨a, xs, rfl, h1, h2⟩ := h.tup_invS
  obtain ⟨v1, r1, rfl, h3, h4⟩ := h2.cons_inv
  obtain ⟨v2, r2, rfl, h5, h6⟩ := h4.cons_inv
  obtain ⟨b, ys, rfl, h7, h8⟩ := h5.tup_invS
  rw [h3.int_inv, h6.nil_inv] at h1
  exact ⟨a, b, ys, rfl, h1, h7, h8⟩
theorem pr0 {H : Hp} {t : TE} {σ : L2.St} {v : V} {a : Int} {ds : List PyData} {Q : VK} (h : DT K H v (.tuple [.int a, .tuple ds])) (q : Q (.int a) H) : rIxT K v (.int 0) H Q := by
  obtain ⟨p, b, xs, rfl, h1, h2, h3⟩ := pair_inv h
  exact ⟨p, _, 0, .int a, rfl, rfl, .inl (.inl h1), atI_nat (j := 0) rfl, q⟩
theorem ixp0 {σ : L2.St} {H : Hp} {i : Nat} {v : V} {a : Int} {ds : List PyData} {Q : VK} (hσ : σ[i]? = some (some v)) (h : DT K H v (.tuple [.int a, .tuple ds])) (q : Q (.int a) H) : tOp (rIxT K) (tVar i) (tC (.int 0)) σ H Q := by
  obtain ⟨p, b, xs, rfl, h1, h2, h3⟩ := pair_inv h
  exact ⟨.ref p, hσ, p, _, 0, .int a, rfl, rfl, .inl (.inl h1), atI_nat (j := 0) rfl, q⟩
theorem ixp1 {σ : L2.St} {H : Hp} {i : Nat} {v : V} {a : Int} {ds : List PyData} {Q : VK} (hσ : σ[i]? = some (some v)) (h : DT K H v (.tuple [.int a, .tuple ds])) (q : ∀ b xs, H b = some (.tup xs) → DTs K H xs ds → Q (.ref b) H) : tOp (rIxT K) (tVar i) (tC (.int 1)) σ H Q := by
  obtain ⟨p, b, xs, rfl, h1, h2, h3⟩ := pair_inv h
  exact ⟨.ref p, hσ, p, _, 1, .ref b, rfl, rfl, .inl (.inl h1), atI_nat (j := 1) rfl, q b xs h2 h3⟩
/-! is_positive -/
def sp_is_positive : Sp := fun vs H Q _ => ∃ v : Int, vs = [.int v] ∧ 0 < v ∧ Q (.bl true) H
theorem ok_is_positive (T : Txt K mg base) : FnOk P w K mg base CX0 1 T.is_positive.f T.is_positive.fd p_is_positive sp_is_positive := by
  refine T.is_positive.F.ok sc_is_positive (fun vs H Q E h => ?_) (fun A outer s H vs Q E hr h => ?_)
  · obtain ⟨v, rfl, _⟩ := h
    rfl
  · obtain ⟨v, rfl, hv, q⟩ := h
    refine ⟨_, (pss_one (ps_ret (pe_and (pe_callB call_isi (by rfl) T.b_isinstance boot_isinstance (pa_cons (pv 0) (pa_cons (pe_bltn (v := .ty "int") (by rfl) T.b_int boot_int rfl) pa_nil)))
      (pe_and (pe_not (pe_callB call_isi (by rfl) T.b_isinstance boot_isinstance (pa_cons (pv 0) (pa_cons (pe_bltn (v := .ty "bool") (by rfl) T.b_bool boot_bool rfl) pa_nil))))
        (pe_one (pe_cmpR op_gt (pv 0) pe_int (nomark _))))))), ?_⟩
    refine ⟨.int v, rfl, .int v, .ty "int", _, _, true, rfl, .ty _, .base (.int v), kit_ty (by decide +kernel), true, rfl, iteT ?_⟩
    refine ⟨.int v, rfl, .int v, .ty "bool", _, _, false, rfl, .ty _, .base (.int v), kit_ty (by decide +kernel), false, rfl, true, rfl, iteT ?_⟩
    refine ⟨.int v, rfl, v, 0, rfl, rfl, ?_⟩
    show Q (.bl (decide (0 < v))) H
    rw [decide_eq_true hv]
    exact q
/-! _is_cost_function -/
def sp_is_cost_function (T : Txt K mg base) : Sp := fun vs H Q _ => ∃ (sz : Nat) (v : V) (f : CF), vs = [.int sz, v] ∧ DT K H v (opD f.1 f.2) ∧ (1 ≤ sz ∧ sz ≤ 3) ∧ FnC sz f ∧ TT T.tabs H ∧ ∀ H', Gr H H' → Q (.bl true) H'
theorem ok_is_cost_function (T : Txt K mg base) : FnOk P w K mg base CX0 4 T.is_cost_function.f T.is_cost_function.fd p_is_cost_function (sp_is_cost_function T) := by
  refine T.is_cost_function.F.ok sc_is_cost_function (fun vs H Q E h => ?_) (fun A outer s H vs Q E hr h => ?_)
  · obtain ⟨_, _, _, rfl, _⟩ := h
    rfl
  · obtain ⟨sz, v, f, rfl, hv, hs, F, hT, q⟩ := h
    obtain ⟨tp, hMP⟩ := T.c_MOST_PLACES
    obtain ⟨tc, hMC⟩ := T.c_MOST_COST
    refine ⟨_, (pss_cons (ps_if (PW.pt (pw_or (pt_not (pt_val (pe_call (ok_is_tuple T) (hr.mono (by decide)) (by rfl) T.is_tuple.g T.is_tuple.F.kp T.is_tuple.b .nil pass0 (pa_cons (pv 1) (pa_cons (pe_int) (pa_cons (pe_int) pa_nil)))))) (pw_or1 (pt_not (pt_val (pe_call (ok_is_integer T) (hr.mono (by decide)) (by rfl) T.is_integer.g T.is_integer.F.kp T.is_integer.b .nil pass0 (pa_cons (pe_ix (ix_tupK K) (pv 1) pe_int (fun _ _ => rfl)) (pa_cons (pe_int) (pa_cons (pe_glob (v := .int 2) rfl hMP ⟨_, rfl⟩) pa_nil))))))))) (pss_one (ps_never)) pss_nil) (pss_cons (ps_set (i := 2) sc_is_cost_function.nd rfl (by first | exact .inl rfl | exact .inr rfl) (pe_call (ok_power_of T) (hr.mono (by decide)) (by rfl) T.power_of.g T.power_of.F.kp T.power_of.b .nil pass0 (pa_cons (pv 0) (pa_cons (pe_ix (ix_tupK K) (pv 1) pe_int (fun _ _ => rfl)) pa_nil)))) (pss_one (ps_ret (pe_and (pe_call (ok_is_tuple T) (hr.mono (by decide)) (by rfl) T.is_tuple.g T.is_tuple.F.kp T.is_tuple.b .nil pass0 (pa_cons (pe_ix (ix_tupK K) (pv 1) pe_int (fun _ _ => rfl)) (pa_cons (pv 2) (pa_cons (pv 2) pa_nil))))
        (pe_one (GA.pe_all (k := 1) hr (by rfl) T.b_all T.is_cost_function.TB rfl (GA.gNames_by (N := n_is_cost_function) (M := ["size", "value", "rows", "cost"]) (sc := defScope s_is_cost_function) (by decide +kernel)) (pi_tup (pe_ix (ix_tupK K) (pv 1) pe_int (fun _ _ => rfl)))
          (fun A sz Hz C code fp pn hrA => pe_call (ok_is_integer T) hrA (by rfl) T.is_integer.g T.is_integer.F.kp T.is_integer.b .nil pass0 (pa_cons (pv 3) (pa_cons (pe_int) (pa_cons (pe_glob (v := .int 1000) rfl hMC ⟨_, rfl⟩) pa_nil))))))))))), ?_⟩
    have F1 := F.a1
    have F2 := F.a2
    refine ⟨v, rfl, v, _, 2, 2, rfl, hv, _, rfl, ?_⟩
    rw [show decide ((2 : Int) ≤ (([PyData.int (f.1 : Nat), rowD f.2].length : Nat) : Int) ∧ (([PyData.int (f.1 : Nat), rowD f.2].length : Nat) : Int) ≤ 2) = true from decide_eq_true (show (2 : Int) ≤ 2 ∧ (2 : Int) ≤ 2 by omega)]
    refine iteF (ixp0 rfl hv ⟨f.1, 1, 2, rfl, _, rfl, ?_⟩)
    rw [decide_eq_true (by omega)]
    refine iteF ?_
    refine ⟨.int sz, rfl, ixp0 rfl hv ⟨sz, f.1, rfl, by omega, by omega, ?_⟩⟩
    refine ixp1 rfl hv fun b xs hb hx => ⟨.int ((sz ^ f.1 : Nat) : Int), rfl, .int ((sz ^ f.1 : Nat) : Int), rfl, .ref b, f.2.map PyData.int, _, _, rfl, .mk hb hx, _, rfl, ?_⟩
    rw [List.length_map, F.len, decide_eq_true ⟨Int.le_refl _, Int.le_refl _⟩]
    refine iteT (ixp1 rfl hv fun b xs hb hx => ?_)
    have ex : xs = f.2.map V.int := hx.ints
    subst ex
    have hS : SqT K H b (f.2.map V.int) := .inl (.inl hb)
    refine ⟨b, rfl, ⟨_, hS⟩, hT _ (by simp), fun H2 ht => ⟨f.2.length, fun i H' => Gr H H', Gx.tabbed (hT _ (by simp)) ht, fun i H3 hi hw => ?_, fun H3 hw => ?_⟩⟩
    · have e : (f.2.map V.int)[i]? = some (.int f.2[i]) := by
        rw [List.getElem?_map, List.getElem?_eq_getElem hi]
        rfl
      refine ⟨⟨_, _, hw.seqT hS, e⟩, fun x H4 hy => ?_⟩
      obtain ⟨rfl, hx⟩ := hy
      have ex : x = .int f.2[i] := Option.some.inj ((hx _ (hw.seqT hS)).symm.trans e)
      subst ex
      refine ⟨_, rfl, f.2[i], 0, 1000, rfl, _, rfl, fun _ => hw, fun hf => ?_⟩
      have := F.val f.2[i] (List.getElem_mem hi)
      rw [decide_eq_true this] at hf
      cases hf
    · exact ⟨⟨_, hw.seqT hS, by rw [List.length_map]; exact Nat.le_refl _⟩, q H3 hw⟩
/-! check_costs -/
def sp_check_costs (T : Txt K mg base) : Sp := fun vs H Q _ => ∃ (sz : Nat) (v : V) (fs : List CF), vs = [v] ∧ DT K H v (costsD sz fs) ∧ CostsOk sz fs ∧ TT T.tabs H ∧ ∀ H', Gr H H' → Q .non H'
theorem ok_check_costs (T : Txt K mg base) : FnOk P w K mg base CX0 5 T.check_costs.f T.check_costs.fd p_check_costs (sp_check_costs T) := by
  refine T.check_costs.F.ok sc_check_costs (fun vs H Q E h => ?_) (fun A outer s H vs Q E hr h => ?_)
  · obtain ⟨_, _, _, rfl, _⟩ := h
    rfl
  · obtain ⟨sz, v, fs, rfl, hv, C, hT, q⟩ := h
    obtain ⟨tp, hMV⟩ := T.c_MOST_VALUES
    obtain ⟨tf, hMF⟩ := T.c_MOST_FUNCTIONS
    refine ⟨_, (pss_cons (ps_if (PW.pt (pw_or (pt_not (pt_val (pe_call (ok_is_tuple T) (hr.mono (by decide)) (by rfl) T.is_tuple.g T.is_tuple.F.kp T.is_tuple.b .nil pass0 (pa_cons (pv 0) (pa_cons (pe_int) (pa_cons (pe_int) pa_nil)))))) (pw_or1 (pt_not (pt_val (pe_call (ok_is_integer T) (hr.mono (by decide)) (by rfl) T.is_integer.g T.is_integer.F.kp T.is_integer.b .nil pass0 (pa_cons (pe_ix (ix_tupK K) (pv 0) pe_int (fun _ _ => rfl)) (pa_cons (pe_int) (pa_cons (pe_glob (v := .int 3) rfl hMV ⟨_, rfl⟩) pa_nil))))))))) (pss_one (ps_never)) pss_nil) (pss_cons (ps_asg (pv 0) (pg_tup (by rfl) (pgs_cons (pg_name (i := 1) sc_check_costs.nd rfl (by first | exact .inl rfl | exact .inr rfl)) (pgs_cons (pg_name (i := 2) sc_check_costs.nd rfl (by first | exact .inl rfl | exact .inr rfl)) pgs_nil)))) (pss_cons (ps_if (pt_not (pt_val (pe_call (ok_is_tuple T) (hr.mono (by decide)) (by rfl) T.is_tuple.g T.is_tuple.F.kp T.is_tuple.b .nil pass0 (pa_cons (pv 2) (pa_cons (pe_int) (pa_cons (pe_glob (v := .int 4) rfl hMF ⟨_, rfl⟩) pa_nil)))))) (pss_one (ps_never)) pss_nil) (pss_one (ps_for PassesOwn.never rfl (EN.pi_enumT K (by rfl) T.b_enumerate (pa_cons (pv 2) pa_nil)) (pg_tup (by rfl) (pgs_cons (pg_name (i := 3) sc_check_costs.nd rfl (by first | exact .inl rfl | exact .inr rfl)) (pgs_cons (pg_name (i := 4) sc_check_costs.nd rfl (by first | exact .inl rfl | exact .inr rfl)) pgs_nil)))
        (pss_one (ps_if (pt_not (pt_val (pe_call (ok_is_cost_function T) hr (by rfl) T.is_cost_function.g T.is_cost_function.F.kp T.is_cost_function.b .nil pass0 (pa_cons (pv 1) (pa_cons (pv 4) pa_nil))))) (pss_one (ps_never)) pss_nil))))))), ?_⟩
    have C1 := C.s1
    have C3 := C.s3
    refine ⟨v, rfl, v, _, 2, 2, rfl, hv, _, rfl, ?_⟩
    rw [show decide ((2 : Int) ≤ (([PyData.int sz, PyData.tuple (fnsD fs)].length : Nat) : Int) ∧ (([PyData.int sz, PyData.tuple (fnsD fs)].length : Nat) : Int) ≤ 2) = true from decide_eq_true (show (2 : Int) ≤ 2 ∧ (2 : Int) ≤ 2 by omega)]
    refine iteF (ixp0 rfl hv ⟨sz, 1, 3, rfl, _, rfl, ?_⟩)
    rw [decide_eq_true (by omega)]
    refine iteF ?_
    obtain ⟨a, b, xs, rfl, h1, h2, h3⟩ := pair_inv hv
    have xl : xs.length = fs.length := by rw [h3.1, List.length_map]
    refine ⟨.ref a, rfl, a, _, rfl, .inl (.inl h1), rfl, .int sz, [.ref b], rfl, .ref b, [], rfl, rfl, ?_⟩
    refine ⟨.ref b, rfl, .ref b, _, 0, 4, rfl, .mk h2 h3, _, rfl, ?_⟩
    rw [decide_eq_true (by
      have := C.few
      rw [List.length_map]
      omega)]
    refine iteF ⟨.ref b, rfl, b, xs, rfl, .inl (.inl h2), ?_⟩
    refine for_it EN.walk_enumT (fun i σ H' => ∃ y3 y4, σ = [some (.ref a), some (.int sz), some (.ref b), y3, y4] ∧ Gr H H') ⟨none, none, rfl, Gx.refl⟩ (fun i σ H' _ hp => by
      obtain ⟨_, _, _, g⟩ := hp
      exact .inl (.inl (Gx.tupS g .nil h2))) (fun i x σ Hx H' hi hp hy => ?_) (fun σ H' hp => ?_)
    · obtain ⟨t, y, rfl, nt, rfl, ey⟩ := hy
      obtain ⟨y3, y4, rfl, g⟩ := hp
      have gt : Gr Hx (upd Hx t (.tup [.int i, y])) := Gx.new nt
      have ht : (upd Hx t (.tup [.int i, y])) t = some (.tup [.int i, y]) := upd_same
      obtain ⟨d, ed, dr⟩ := h3.at' ey
      rw [List.getElem?_map] at ed
      obtain ⟨f, ef, rfl⟩ := Option.map_eq_some_iff.mp ed
      have okf := C.ok f (List.mem_of_getElem? ef)
      have g2 := g.trans gt
      generalize upd Hx t (.tup [.int i, y]) = H2 at *
      refine ⟨t, _, rfl, .inl (.inl ht), rfl, .int i, [y], rfl, y, [], rfl, rfl, ?_⟩
      exact ⟨.int sz, rfl, y, rfl, sz, y, f, rfl, dr.gr g2, ⟨C1, C3⟩, okf, g2.tt hT, fun H3 g3 => ⟨_, rfl, iteF ⟨_, _, rfl, g2.trans g3⟩⟩⟩
    · obtain ⟨y3, y4, rfl, g⟩ := hp
      exact q H' g
end K82

set_option Elab.async false
set_option linter.all false
set_option maxRecDepth 100000
set_option maxHeartbeats 4000000
/-! the loops of a comprehension, whatever the turn does: also two fors, one in the other -/
namespace TK
open PySem PySem.Spec PyProof.Rows L2
theorem lc_listB {K : PySem.W.Frag} {a : Addr} {xs : List V} {g : TG} {σw : L2.St} {H0 : Hp} {Qd : Hp → Prop} {B : L2.St → Hp → (Hp → Prop) → Prop} (Pv : Nat → Hp → Prop) (h0 : Pv 0 H0) (hl : ∀ i H, i ≤ xs.length → Pv i H → SqL K H a xs)
    (hs : ∀ i x H, xs[i]? = some x → Pv i H → g x σw H fun σ2 H2 => B σ2 H2 (Pv (i + 1))) (hd : ∀ H, Pv xs.length H → Qd H) :
    ∃ W : Nat → Nat → Hp → Prop, (∃ m, W 0 m H0) ∧ ∀ i m H, W i m H →
      ((Itl K a).stop i H ∧ Qd H) ∨ ((Itl K a).go i H ∧ ∃ Nx : Hp → Prop, (∀ H', Nx H' → ∃ m', m' < m ∧ W (i + 1) m' H') ∧ ∀ x H', (Itl K a).yld i H x H' → g x σw H' fun σ2 H2 => B σ2 H2 Nx) := by
  refine ⟨fun i m H => m = xs.length - i ∧ i ≤ xs.length ∧ Pv i H, ⟨xs.length, by simp, Nat.zero_le _, h0⟩, ?_⟩
  rintro i m H ⟨rfl, hi, p⟩
  have qs := hl i H hi p
  by_cases hlt : i < xs.length
  · refine .inr ⟨⟨xs, xs[i], qs, by simp [hlt]⟩, Pv (i + 1), fun H' p' => ⟨xs.length - (i + 1), by omega, rfl, hlt, p'⟩, fun x H' y => ?_⟩
    obtain ⟨rfl, y⟩ := y
    exact hs i x H' (y xs qs) p
  · have e : i = xs.length := by omega
    subst e
    exact .inl ⟨⟨xs, qs, Nat.le_refl _⟩, hd H p⟩
theorem lc_rangeB {lo : Int} {n : Nat} {g : TG} {σw : L2.St} {H0 : Hp} {Qd : Hp → Prop} {B : L2.St → Hp → (Hp → Prop) → Prop} (Pv : Nat → Hp → Prop) (h0 : Pv 0 H0)
    (hs : ∀ i H, i < n → Pv i H → g (.int (lo + (i : Nat))) σw H fun σ2 H2 => B σ2 H2 (Pv (i + 1))) (hd : ∀ H, Pv n H → Qd H) :
    ∃ W : Nat → Nat → Hp → Prop, (∃ m, W 0 m H0) ∧ ∀ i m H, W i m H →
      ((Itr lo n).stop i H ∧ Qd H) ∨ ((Itr lo n).go i H ∧ ∃ Nx : Hp → Prop, (∀ H', Nx H' → ∃ m', m' < m ∧ W (i + 1) m' H') ∧ ∀ x H', (Itr lo n).yld i H x H' → g x σw H' fun σ2 H2 => B σ2 H2 Nx) := by
  refine ⟨fun i m H => m = n - i ∧ i ≤ n ∧ Pv i H, ⟨n, by simp, Nat.zero_le _, h0⟩, ?_⟩
  rintro i m H ⟨rfl, hi, p⟩
  by_cases hlt : i < n
  · refine .inr ⟨hlt, Pv (i + 1), fun H' p' => ⟨n - (i + 1), by omega, rfl, hlt, p'⟩, fun x H' y => ?_⟩
    obtain ⟨rfl, rfl⟩ := y
    exact hs i _ hlt p
  · have e : i = n := by omega
    subst e
    exact .inl ⟨Nat.le_refl _, hd H p⟩
end TK

set_option Elab.async false
set_option linter.all false
set_option maxRecDepth 100000
set_option maxHeartbeats 4000000
namespace K82
open PySem PySem.Spec PyProof.Rows L2 TK MR
variable {P : Program} {w : World} {K : PySem.W.Frag} {mg : Str → Option Value} {base : Heap}
theorem term_inv {H : Hp} {v : V} {t : TmC} (h : DT K H v (termD t)) : ∃ p b, v = .ref p ∧ H p = some (.tup [.int t.1, .ref b, .int t.2.2]) ∧ H b = some (.tup ((nat2 t.2.1).map V.int)) := by
  obtain ⟨p, xs, rfl, h1, h2⟩ := h.tup_invS
  obtain ⟨v1, r1, rfl, h3, h4⟩ := h2.cons_inv
  obtain ⟨v2, r2, rfl, h5, h6⟩ := h4.cons_inv
  obtain ⟨v3, r3, rfl, h7, h8⟩ := h6.cons_inv
  obtain ⟨b, rfl, hb⟩ := h5.row_invS
  rw [h3.int_inv, h7.int_inv, h8.nil_inv] at h1
  exact ⟨p, b, rfl, h1, hb⟩
theorem costs_at {fs : List CF} {i : Nat} (h : i < fs.length) : fs[i]? = some (fs.getD i (0, [])) := by
  rw [List.getElem?_eq_getElem h, List.getD_eq_getElem?_getD, List.getElem?_eq_getElem h]
  rfl
/-- costs[1][which] -/
theorem fn_at {H : Hp} {b : Addr} {xs : List V} {fs : List CF} {i : Nat} (hb : H b = some (.tup xs)) (hx : DTs K H xs (fnsD fs)) (h : i < fs.length) : ∃ y, xs[i]? = some y ∧ DT K H y (opD (fs.getD i (0, [])).1 (fs.getD i (0, [])).2) := by
  obtain ⟨y, ey, dy⟩ := hx.at (i := i) (d := opD (fs.getD i (0, [])).1 (fs.getD i (0, [])).2) (by rw [List.getElem?_map, costs_at h]; rfl)
  exact ⟨y, ey, dy⟩
/-! _is_term -/
def sp_is_term (T : Txt K mg base) : Sp := fun vs H Q _ => ∃ (sz n : Nat) (v u : V) (fs : List CF) (t : TmC), vs = [v, .int n, u] ∧ DT K H v (costsD sz fs) ∧ DT K H u (termD t) ∧ TermOk fs n t ∧ TT T.tabs H ∧ ∀ H', Gr H H' → Q (.bl true) H'
theorem ok_is_term (T : Txt K mg base) : FnOk P w K mg base CX0 5 T.is_term.f T.is_term.fd p_is_term (sp_is_term T) := by
  refine T.is_term.F.ok sc_is_term (fun vs H Q E h => ?_) (fun A outer s H vs Q E hr h => ?_)
  · obtain ⟨_, _, _, _, _, _, rfl, _⟩ := h
    rfl
  · obtain ⟨sz, n, v, u, fs, t, rfl, hv, hu, O, hT, q⟩ := h
    refine ⟨_, (pss_cons (ps_if (PW.pt (pw_or (pt_not (pt_val (pe_call (ok_is_tuple T) (hr.mono (by decide)) (by rfl) T.is_tuple.g T.is_tuple.F.kp T.is_tuple.b .nil pass0 (pa_cons (pv 2) (pa_cons (pe_int) (pa_cons (pe_int) pa_nil)))))) (pw_or1 (pt_not (pt_val (pe_call (ok_is_integer T) (hr.mono (by decide)) (by rfl) T.is_integer.g T.is_integer.F.kp T.is_integer.b .nil pass0 (pa_cons (pe_ix (ix_tupK K) (pv 2) pe_int (fun _ _ => rfl)) (pa_cons (pe_int) (pa_cons (pe_op op_sub (pe_callB (call_len_seqK K) (by rfl) T.b_len PySem.boot_len (pa_cons (pe_ix (ix_tupK K) (pv 0) pe_int (fun _ _ => rfl)) pa_nil)) pe_int) pa_nil))))))))) (pss_one (ps_never)) pss_nil) (pss_cons (ps_set (i := 3) sc_is_term.nd rfl (by first | exact .inl rfl | exact .inr rfl) (pe_ix (ix_tupK K) (pe_ix (ix_tupK K) (pe_ix (ix_tupK K) (pv 0) pe_int (fun _ _ => rfl)) (pe_ix (ix_tupK K) (pv 2) pe_int (fun _ _ => rfl)) (fun _ _ => rfl)) pe_int (fun _ _ => rfl))) (pss_one (ps_ret (pe_and (pe_call (ok_are_places T) hr (by rfl) T.are_places.g T.are_places.F.kp T.are_places.b .nil pass0 (pa_cons (pe_ix (ix_tupK K) (pv 2) pe_int (fun _ _ => rfl)) (pa_cons (pv 3) (pa_cons (pv 3) (pa_cons (pv 1) pa_nil))))) (pe_one (pe_call (ok_is_positive T) (hr.mono (by decide)) (by rfl) T.is_positive.g T.is_positive.F.kp T.is_positive.b .nil pass0 (pa_cons (pe_ix (ix_tupK K) (pv 2) pe_int (fun _ _ => rfl)) pa_nil)))))))), ?_⟩
    refine ⟨u, rfl, u, _, 3, 3, rfl, hu, _, rfl, ?_⟩
    rw [show decide ((3 : Int) ≤ (([PyData.int t.1, rowD (nat2 t.2.1), PyData.int t.2.2].length : Nat) : Int) ∧ (([PyData.int t.1, rowD (nat2 t.2.1), PyData.int t.2.2].length : Nat) : Int) ≤ 3) = true from decide_eq_true (show (3 : Int) ≤ 3 ∧ (3 : Int) ≤ 3 by omega)]
    refine iteF ?_
    obtain ⟨p, b, rfl, hp, hb⟩ := term_inv hu
    have hP : ∀ {H'}, Gr H H' → SqT K H' p [.int t.1, .ref b, .int t.2.2] := fun g => .inl (.inl (Gx.tupS g .nil hp))
    refine ⟨.ref p, rfl, p, _, 0, _, rfl, rfl, hP .refl, atI_nat (j := 0) rfl, ixp1 rfl hv fun b1 xs hb1 hx => ⟨b1, xs, rfl, .inr (.inl (.inl hb1)), _, 1, rfl, rfl, ?_⟩⟩
    have xl : xs.length = fs.length := by rw [hx.1, List.length_map]
    have ix := O.ix
    rw [xl]
    refine ⟨t.1, 0, (fs.length : Int) - 1, rfl, _, rfl, ?_⟩
    rw [decide_eq_true (by omega)]
    refine iteF ?_
    refine ixp1 rfl hv fun b2 ys hb2 hy => ⟨.ref p, rfl, p, _, 0, _, rfl, rfl, hP .refl, atI_nat (j := 0) rfl, ?_⟩
    obtain ⟨y, ey, dy⟩ := fn_at hb2 hy ix
    obtain ⟨oa, ob, rfl, ho1, ho2⟩ := DT.op_inv dy
    refine ⟨b2, ys, (t.1 : Int), .ref oa, rfl, rfl, .inl (.inl hb2), atI_nat ey, oa, _, 0, _, rfl, rfl, ho1, atI_nat (j := 0) rfl, ?_⟩
    have el := O.len
    refine ⟨.ref p, rfl, p, _, 1, _, rfl, rfl, hP .refl, atI_nat (j := 1) rfl, _, rfl, _, rfl, .int n, rfl, .ref b, nat2 t.2.1, _, _, (n : Int), rfl, .row hb, hT, ⟨?_, ?_⟩, fun x hx => ?_, fun H1 g1 => ⟨true, rfl, iteT ?_⟩⟩
    · rw [List.length_map]
      omega
    · rw [List.length_map]
      omega
    · obtain ⟨z, hz, rfl⟩ := List.mem_map.mp hx
      have := O.sc z hz
      omega
    · have w1 := O.w1
      exact ⟨.ref p, rfl, p, _, 2, _, rfl, rfl, hP g1, atI_nat (j := 2) rfl, t.2.2, rfl, by omega, q H1 g1⟩
/-! check_terms -/
def sp_check_terms (T : Txt K mg base) : Sp := fun vs H Q _ => ∃ (sz n : Nat) (v u : V) (fs : List CF) (ts : List TmC), vs = [v, u] ∧ DT K H v (costsD sz fs) ∧ DT K H u (instD n ts) ∧ TermsOk fs n ts ∧ TT T.tabs H ∧ ∀ H', Gr H H' → Q .non H'
theorem ok_check_terms (T : Txt K mg base) : FnOk P w K mg base CX0 6 T.check_terms.f T.check_terms.fd p_check_terms (sp_check_terms T) := by
  refine T.check_terms.F.ok sc_check_terms (fun vs H Q E h => ?_) (fun A outer s H vs Q E hr h => ?_)
  · obtain ⟨_, _, _, _, _, _, rfl, _⟩ := h
    rfl
  · obtain ⟨sz, n, v, u, fs, ts, rfl, hv, hu, O, hT, q⟩ := h
    obtain ⟨tp, hMV⟩ := T.c_MOST_VARIABLES
    obtain ⟨tf, hMT⟩ := T.c_MOST_TERMS
    refine ⟨_, (pss_cons (ps_if (PW.pt (pw_or (pt_not (pt_val (pe_call (ok_is_tuple T) (hr.mono (by decide)) (by rfl) T.is_tuple.g T.is_tuple.F.kp T.is_tuple.b .nil pass0 (pa_cons (pv 1) (pa_cons (pe_int) (pa_cons (pe_int) pa_nil)))))) (pw_or1 (pt_not (pt_val (pe_call (ok_is_integer T) (hr.mono (by decide)) (by rfl) T.is_integer.g T.is_integer.F.kp T.is_integer.b .nil pass0 (pa_cons (pe_ix (ix_tupK K) (pv 1) pe_int (fun _ _ => rfl)) (pa_cons (pe_int) (pa_cons (pe_glob (v := .int 8) rfl hMV ⟨_, rfl⟩) pa_nil))))))))) (pss_one (ps_never)) pss_nil) (pss_cons (ps_asg (pv 1) (pg_tup (by rfl) (pgs_cons (pg_name (i := 2) sc_check_terms.nd rfl (by first | exact .inl rfl | exact .inr rfl)) (pgs_cons (pg_name (i := 3) sc_check_terms.nd rfl (by first | exact .inl rfl | exact .inr rfl)) pgs_nil)))) (pss_cons (ps_if (pt_not (pt_val (pe_call (ok_is_tuple T) (hr.mono (by decide)) (by rfl) T.is_tuple.g T.is_tuple.F.kp T.is_tuple.b .nil pass0 (pa_cons (pv 3) (pa_cons (pe_int) (pa_cons (pe_glob (v := .int 40) rfl hMT ⟨_, rfl⟩) pa_nil)))))) (pss_one (ps_never)) pss_nil) (pss_one (ps_for PassesOwn.never rfl (EN.pi_enumT K (by rfl) T.b_enumerate (pa_cons (pv 3) pa_nil)) (pg_tup (by rfl) (pgs_cons (pg_name (i := 4) sc_check_terms.nd rfl (by first | exact .inl rfl | exact .inr rfl)) (pgs_cons (pg_name (i := 5) sc_check_terms.nd rfl (by first | exact .inl rfl | exact .inr rfl)) pgs_nil)))
        (pss_one (ps_if (pt_not (pt_val (pe_call (ok_is_term T) hr (by rfl) T.is_term.g T.is_term.F.kp T.is_term.b .nil pass0 (pa_cons (pv 0) (pa_cons (pv 2) (pa_cons (pv 5) pa_nil)))))) (pss_one (ps_never)) pss_nil))))))), ?_⟩
    have n8 := O.n8
    refine ⟨u, rfl, u, _, 2, 2, rfl, hu, _, rfl, ?_⟩
    rw [show decide ((2 : Int) ≤ (([PyData.int n, PyData.tuple (ts.map termD)].length : Nat) : Int) ∧ (([PyData.int n, PyData.tuple (ts.map termD)].length : Nat) : Int) ≤ 2) = true from decide_eq_true (show (2 : Int) ≤ 2 ∧ (2 : Int) ≤ 2 by omega)]
    refine iteF (ixp0 rfl hu ⟨n, 0, 8, rfl, _, rfl, ?_⟩)
    rw [decide_eq_true (by omega)]
    refine iteF ?_
    obtain ⟨a, b, xs, rfl, h1, h2, h3⟩ := pair_inv hu
    have xl : xs.length = ts.length := by rw [h3.1, List.length_map]
    refine ⟨.ref a, rfl, a, _, rfl, .inl (.inl h1), rfl, .int n, [.ref b], rfl, .ref b, [], rfl, rfl, ?_⟩
    refine ⟨.ref b, rfl, .ref b, _, 0, 40, rfl, .mk h2 h3, _, rfl, ?_⟩
    rw [decide_eq_true (by
      have := O.few
      rw [List.length_map]
      omega)]
    refine iteF ⟨.ref b, rfl, b, xs, rfl, .inl (.inl h2), ?_⟩
    refine for_it EN.walk_enumT (fun i σ H' => ∃ y3 y4, σ = [some v, some (.ref a), some (.int n), some (.ref b), y3, y4] ∧ Gr H H') ⟨none, none, rfl, Gx.refl⟩ (fun i σ H' _ hp => by
      obtain ⟨_, _, _, g⟩ := hp
      exact .inl (.inl (Gx.tupS g .nil h2))) (fun i x σ Hx H' hi hp hy => ?_) (fun σ H' hp => ?_)
    · obtain ⟨t, y, rfl, nt, rfl, ey⟩ := hy
      obtain ⟨y3, y4, rfl, g⟩ := hp
      have gt : Gr Hx (upd Hx t (.tup [.int i, y])) := Gx.new nt
      have ht : (upd Hx t (.tup [.int i, y])) t = some (.tup [.int i, y]) := upd_same
      obtain ⟨d, ed, dr⟩ := h3.at' ey
      rw [List.getElem?_map] at ed
      obtain ⟨tm, ef, rfl⟩ := Option.map_eq_some_iff.mp ed
      have okt := O.ok tm (List.mem_of_getElem? ef)
      have g2 := g.trans gt
      generalize upd Hx t (.tup [.int i, y]) = H2 at *
      refine ⟨t, _, rfl, .inl (.inl ht), rfl, .int i, [y], rfl, y, [], rfl, rfl, ?_⟩
      exact ⟨v, rfl, .int n, rfl, y, rfl, sz, n, v, y, fs, tm, rfl, hv.gr g2, dr.gr g2, okt, g2.tt hT, fun H3 g3 => ⟨_, rfl, iteF ⟨_, _, rfl, g2.trans g3⟩⟩⟩
    · obtain ⟨y3, y4, rfl, g⟩ := hp
      exact q H' g
/-! position, of a list -/
def sp_positionL (K : PySem.W.Frag) : Sp := fun vs H Q _ => ∃ (sz : Nat) (l : Addr) (as : List Int), vs = [.int sz, .ref l] ∧ sz ≤ 4 ∧ H l = some (.lst (as.map V.int)) ∧ (∀ x ∈ as, 0 ≤ x ∧ x < (sz : Int)) ∧ as.length ≤ 4 ∧ Q (.int (idxI sz as)) H
theorem ok_positionL (T : Txt K mg base) : FnOk P w K mg base CX0 1 T.position.f T.position.fd p_position (sp_positionL K) := by
  refine T.position.F.ok sc_position (fun vs H Q E h => ?_) (fun A outer s H vs Q E hr h => ?_)
  · obtain ⟨_, _, _, rfl, _⟩ := h
    rfl
  · obtain ⟨sz, l, as, rfl, hsz, hl, has, h4, q⟩ := h
    have hS : SqL K H l (as.map V.int) := .inl (.inl hl)
    refine ⟨_, (pss_cons (ps_set (i := 2) sc_position.nd rfl (by first | exact .inl rfl | exact .inr rfl) pe_int) (pss_cons (ps_for PassesOwn.never rfl (pi_listK K (pv 1)) (pg_name (i := 3) sc_position.nd rfl (by first | exact .inl rfl | exact .inr rfl))
        (pss_one (ps_set (i := 2) sc_position.nd rfl (by first | exact .inl rfl | exact .inr rfl) (pe_op op_add (pe_op op_mul (pv 2) (pv 0)) (pv 3))))) (pss_one (ps_ret (pv 2))))), ?_⟩
    refine ⟨.ref l, rfl, l, rfl, ⟨_, hS⟩, ?_⟩
    refine for_list (K := K) (xs := as.map V.int) (fun i σ H' => H' = H ∧ ∃ y3, σ = [some (.int sz), some (.ref l), some (.int (idxI sz (as.take i))), y3]) ⟨rfl, none, rfl⟩ (fun i σ H' _ p => by rw [p.1]; exact hS) (fun i x σ H' ex p => ?_) (fun σ H' p => ?_)
    · obtain ⟨rfl, y3, rfl⟩ := p
      rw [List.getElem?_map] at ex
      obtain ⟨n, en, rfl⟩ := Option.map_eq_some_iff.mp ex
      have hb := idxI_bd (sz := sz) (as.take i) fun x hx => has x (List.mem_of_mem_take hx)
      have hp : (sz : Int) ^ (as.take i).length ≤ 256 := by
        have h1 : sz ^ (as.take i).length ≤ 256 := pow256 hsz (by rw [List.length_take]; omega)
        rw [← Int.natCast_pow]
        omega
      refine ⟨_, rfl, .int sz, rfl, _, sz, rfl, rfl, .inl ⟨by omega, by omega⟩, .int n, rfl, _, n, rfl, rfl, rfl, some (.int n), ?_⟩
      rw [List.take_add_one, en]
      show _ = [_, _, some (V.int (idxI sz (as.take i ++ [n]))), _]
      rw [idxI_app]
      rfl
    · obtain ⟨rfl, y3, rfl⟩ := p
      have e : as.take (as.map V.int).length = as := List.take_of_length_le (by rw [List.length_map]; exact Nat.le_refl _)
      rw [e]
      exact ⟨_, rfl, q⟩
end K82

set_option Elab.async false
set_option linter.all false
set_option maxRecDepth 100000
set_option maxHeartbeats 4000000
namespace K82
open PySem PySem.Spec PyProof.Rows L2 TK MR
variable {P : Program} {w : World} {K : PySem.W.Frag} {mg : Str → Option Value} {base : Heap}
theorem pk_ok {sz : Nat} {ps : List Nat} {r : List Int} (hr : ∀ x ∈ r, 0 ≤ x ∧ x < (sz : Int)) (hs : 1 ≤ sz) : ∀ x ∈ pk ps r, 0 ≤ x ∧ x < (sz : Int) := fun x hx => by
  obtain ⟨p, _, rfl⟩ := List.mem_map.mp hx
  exact getD_ok hr (by omega) p
theorem pk_len (ps : List Nat) (r : List Int) : (pk ps r).length = ps.length := List.length_map _
/-- the table at the place of a row -/
theorem tab_at {sz : Nat} {f : CF} (F : FnC sz f) {as : List Int} (h : ∀ x ∈ as, 0 ≤ x ∧ x < (sz : Int)) (hl : as.length = f.1) : atI (f.2.map V.int) (idxI sz as) = some (.int (f.2.getD (idxI sz as).toNat 0)) := by
  obtain ⟨b0, b1⟩ := idxI_bd (sz := sz) as h
  obtain ⟨k, hk⟩ := Int.eq_ofNat_of_zero_le b0
  have hlt : k < f.2.length := by
    rw [F.len, ← hl]
    rw [hk, ← Int.natCast_pow] at b1
    omega
  rw [hk, Int.toNat_natCast]
  refine atI_nat ?_
  rw [List.getElem?_map, List.getElem?_eq_getElem hlt, List.getD_eq_getElem?_getD, List.getElem?_eq_getElem hlt]
  rfl
/-! cost_of -/
def sp_cost_of (K : PySem.W.Frag) : Sp := fun vs H Q _ => ∃ (sz : Nat) (v u : V) (l : Addr) (us : List V) (fs : List CF) (ts : List TmC) (row : List Int), vs = [v, .ref l, u] ∧ DT K H v (costsD sz fs) ∧ CostsOk sz fs ∧ SqL K H l us ∧ DTs K H us (ts.map termD) ∧ (∀ t ∈ ts, TermOk fs row.length t) ∧ DT K H u (rowD row) ∧ (∀ x ∈ row, 0 ≤ x ∧ x < (sz : Int)) ∧
  ∀ H', Gr H H' → Q (.int (tot sz fs ts row)) H'
theorem ok_cost_of (T : Txt K mg base) : FnOk P w K mg base CX0 2 T.cost_of.f T.cost_of.fd p_cost_of (sp_cost_of K) := by
  refine T.cost_of.F.ok sc_cost_of (fun vs H Q E h => ?_) (fun A outer s H vs Q E hr h => ?_)
  · obtain ⟨_, _, _, _, _, _, _, _, rfl, _⟩ := h
    rfl
  · obtain ⟨sz, v, u, l, us, fs, ts, row, rfl, hv, C, hl, hus, O, hu, val, q⟩ := h
    refine ⟨_, (pss_cons (ps_set (i := 3) sc_cost_of.nd rfl (by first | exact .inl rfl | exact .inr rfl) pe_int) (pss_cons (ps_for PassesOwn.never rfl (pi_listK K (pv 1)) (pg_tup (by rfl) (pgs_cons (pg_name (i := 4) sc_cost_of.nd rfl (by first | exact .inl rfl | exact .inr rfl)) (pgs_cons (pg_name (i := 5) sc_cost_of.nd rfl (by first | exact .inl rfl | exact .inr rfl)) (pgs_cons (pg_name (i := 6) sc_cost_of.nd rfl (by first | exact .inl rfl | exact .inr rfl)) pgs_nil))))
        (pss_cons (ps_setLc (i := 7) (own := [("variable", 8)]) (g := gName 8) (tt := tYes) rfl sc_cost_of.nd rfl rfl (sw_true rfl rfl rfl (by decide +kernel)) (pi_tupK K (pv 5)) (blkOk_by (N := n_cost_of) (sc := defScope s_cost_of) (by decide +kernel)) (fun _ _ _ _ _ => pg_name (i := 8) sc_cost_of.nd rfl (by first | exact .inl rfl | exact .inr rfl)) (fun _ _ _ _ _ => pts_nil)
            (fun _ _ _ _ _ => pe_ix (ix_tupK K) (pv 2) (pv 8) (fun _ _ => rfl))) (pss_one (ps_aug (i := 3) sc_cost_of.nd rfl (by first | exact .inl rfl | exact .inr rfl) (pe_op op_mul (pv 6) (pe_ix (ix_tupK K) (pe_ix (ix_tupK K) (pe_ix (ix_tupK K) (pe_ix (ix_tupK K) (pv 0) pe_int (fun _ _ => rfl)) (pv 4) (fun _ _ => rfl)) pe_int (fun _ _ => rfl)) (pe_call (ok_positionL T) hr (by rfl) T.position.g T.position.F.kp T.position.b .nil pass0 (pa_cons (pe_ix (ix_tupK K) (pv 0) pe_int (fun _ _ => rfl)) (pa_cons (pv 7) pa_nil))) (fun _ _ => rfl))) ip_add)))) (pss_one (ps_ret (pv 3))))), ?_⟩
    have C1 := C.s1
    have C3 := C.s3
    have ul : us.length = ts.length := by rw [hus.1, List.length_map]
    obtain ⟨ra, rfl, hra⟩ := hu.row_invS
    refine ⟨.ref l, rfl, l, rfl, ⟨_, hl⟩, ?_⟩
    refine for_list (K := K) (a := l) (xs := us) (fun i σ H' => ∃ y4 y5 y6 y7, σ = [some v, some (.ref l), some (.ref ra), some (.int (tot sz fs (ts.take i) row)), y4, y5, y6, y7, none] ∧ Gr H H')
      ⟨none, none, none, none, rfl, Gx.refl⟩ (fun i σ H' _ hp => by
        obtain ⟨_, _, _, _, _, g⟩ := hp
        exact g.seqL hl) (fun i x σ H' ex hp => ?_) (fun σ H' hp => ?_)
    · obtain ⟨y4, y5, y6, y7, rfl, g⟩ := hp
      obtain ⟨d, ed, dx⟩ := hus.at' ex
      rw [List.getElem?_map] at ed
      obtain ⟨t, et, rfl⟩ := Option.map_eq_some_iff.mp ed
      have Ot := O t (List.mem_of_getElem? et)
      have ix := Ot.ix
      have F := C.ok (fs.getD t.1 (0, [])) (List.mem_of_getElem? (costs_at ix))
      obtain ⟨p, b, rfl, hp, hb⟩ := term_inv (dx.gr g)
      refine ⟨p, _, rfl, .inl (.inl hp), rfl, .int t.1, [.ref b, .int t.2.2], rfl, .ref b, [.int t.2.2], rfl, .int t.2.2, [], rfl, rfl, ?_⟩
      have hra1 := Gx.tupS g .nil hra
      refine ⟨.ref b, rfl, b, rfl, ⟨_, .inl (.inl hb)⟩, fun D nD => ?_⟩
      refine lc_tup (K := K) (a := b) (xs := (nat2 t.2.1).map V.int) (fun j H2 => Gr H' H2 ∧ H2 D = some (.lst ((pk (t.2.1.take j) row).map V.int))) ⟨Gx.new nD, upd_same⟩ (fun j H2 _ p => .inl (.inl (Gx.tupS p.1 .nil hb))) (fun j y H2 ey p => ?_) (fun H2 p => ?_)
      · obtain ⟨g2, hD⟩ := p
        rw [List.getElem?_map, List.getElem?_map] at ey
        obtain ⟨z, ez, rfl⟩ := Option.map_eq_some_iff.mp ey
        obtain ⟨pl, ep, rfl⟩ := Option.map_eq_some_iff.mp ez
        have hpl := Ot.sc pl (List.mem_of_getElem? ep)
        have el := Ot.len
        have fa2 := F.a2
        refine ⟨rfl, yesT ⟨.ref ra, rfl, .int (pl : Int), rfl, row_ix (DT.row (Gx.tupS g2 .nil hra1)) rfl hpl ⟨_, hD, ?_, g2.wr nD, ?_⟩⟩⟩
        · rw [List.length_map, pk_len, List.length_take]
          exact small1000 (by omega)
        · rw [upd_same, List.take_add_one, ep]
          unfold pk
          rw [List.map_append, List.map_append]
          rfl
      · obtain ⟨g2, hD⟩ := p
        rw [List.length_map, List.length_map, List.take_length] at hD
        have g3 := g.trans g2
        refine ⟨_, rfl, .int t.2.2, rfl, ixp1 rfl (hv.gr g3) fun b1 xs hb1 hx => ?_⟩
        obtain ⟨y, ey, dy⟩ := fn_at hb1 hx ix
        obtain ⟨oa, ob, rfl, ho1, ho2⟩ := DT.op_inv dy
        refine ⟨.int t.1, rfl, b1, xs, (t.1 : Int), .ref oa, rfl, rfl, .inl (.inl hb1), atI_nat ey, oa, _, 1, _, rfl, rfl, ho1, atI_nat (j := 1) rfl, ?_⟩
        have kl : (pk t.2.1 row).length = (fs.getD t.1 (0, [])).1 := by rw [pk_len, Ot.len]
        have kv := pk_ok (sz := sz) (ps := t.2.1) val C1
        have fa2 := F.a2
        refine ixp0 rfl (hv.gr g3) ⟨.ref D, rfl, sz, D, pk t.2.1 row, rfl, by omega, hD, kv, by omega, ?_⟩
        refine ⟨ob, _, _, _, rfl, rfl, ho2, tab_at F kv kl, t.2.2, _, rfl, rfl, .inl ⟨by have := Ot.w1; omega, by have := Ot.w2; omega⟩, ?_⟩
        refine ⟨_, _, rfl, rfl, ?_⟩
        refine ⟨some (.int t.1), some (.ref b), some (.int t.2.2), some (.ref D), ?_, g3⟩
        rw [List.take_add_one, et]
        show _ = [_, _, _, some (V.int (tot sz fs (ts.take i ++ [t]) row)), _, _, _, _, _]
        rw [tot_snoc]
        rfl
    · obtain ⟨y4, y5, y6, y7, rfl, g⟩ := hp
      rw [ul, List.take_length]
      exact ⟨_, rfl, q H' g⟩
/-! least_cost -/
/-- the row of the least cost, the first of such -/
def leastR (f : List Int → Int) : List (List Int) → List Int
  | [] => []
  | a :: l => best f a l
/-- a list of pairs (cost, row) -/
def CR (K : PySem.W.Frag) (H : Hp) (p : Addr) (f : List Int → Int) (rows : List (List Int)) : Prop := ∃ ws, H p = some (.lst ws) ∧ DTs K H ws (rows.map fun y => costD (f y) y)
theorem CR.gr {H H' : Hp} {p : Addr} {f : List Int → Int} {rows : List (List Int)} (g : Gr H H') (h : CR K H p f rows) : CR K H' p f rows := by
  obtain ⟨ws, a, b⟩ := h
  exact ⟨ws, g.lst a, b.gr g⟩
theorem nat_max : ∀ (ps : List Nat) (p : Nat), (nat2 ps).foldl max (p : Int) = ((ps.foldl max p : Nat) : Int)
  | [], p => rfl
  | x :: ps, p => by
    show (nat2 ps).foldl max (max (p : Int) (x : Int)) = _
    rw [show max (p : Int) (x : Int) = ((max p x : Nat) : Int) by omega, nat_max ps (max p x)]
    rfl
theorem ended_snoc (ts : List TmC) (t : TmC) (v : Nat) : ended (ts ++ [t]) v = ended ts v ++ if mx t.2.1 = v then [t] else [] := by
  unfold ended
  rw [List.filter_append]
  congr 1
  by_cases h : mx t.2.1 = v
  · simp [h]
  · simp [h]
theorem cost_inv {H : Hp} {v : V} {c : Int} {r : List Int} (h : DT K H v (costD c r)) : ∃ p q, v = .ref p ∧ H p = some (.tup [.int c, .ref q]) ∧ H q = some (.tup (r.map V.int)) := by
  obtain ⟨p, q, xs, rfl, h1, h2, h3⟩ := pair_inv h
  rw [h3.ints] at h2
  exact ⟨p, q, rfl, h1, h2⟩
def sp_least_cost (T : Txt K mg base) : Sp := fun vs H Q _ => ∃ (sz n : Nat) (v u : V) (fs : List CF) (ts : List TmC), vs = [v, u] ∧ DT K H v (costsD sz fs) ∧ CostsOk sz fs ∧ DT K H u (instD n ts) ∧ TermsOk fs n ts ∧ sz ^ n ≤ 256 ∧ TT T.tabs H ∧
  ∀ z H', Gr H H' → DT K H' z (costD (tot sz fs ts (leastR (tot sz fs ts) (allRows sz n))) (leastR (tot sz fs ts) (allRows sz n))) → Q z H'
theorem ok_least_cost (T : Txt K mg base) : FnOk P w K mg base CX0 7 T.least_cost.f T.least_cost.fd p_least_cost (sp_least_cost T) := by
  refine T.least_cost.F.ok sc_least_cost (fun vs H Q E h => ?_) (fun A outer s H vs Q E hr h => ?_)
  · obtain ⟨_, _, _, _, _, _, rfl, _⟩ := h
    rfl
  · obtain ⟨sz, n, v, u, fs, ts, rfl, hv, C, hu, O, h256, hT, q⟩ := h
    have hu8 : (A.deeper (envOfC "least_cost" (defScope s_least_cost) s.heap.objs.size T.least_cost.f (.ref T.least_cost.c))).units + 8 < cLine := by have := hr.un; omega
    refine ⟨_, (pss_cons (ps_expr (pe_call (ok_check_costs T) (hr.mono (by decide)) (by rfl) T.check_costs.g T.check_costs.F.kp T.check_costs.b .nil pass0 (pa_cons (pv 0) pa_nil))) (pss_cons (ps_expr (pe_call (ok_check_terms T) hr (by rfl) T.check_terms.g T.check_terms.F.kp T.check_terms.b .nil pass0 (pa_cons (pv 0) (pa_cons (pv 1) pa_nil)))) (pss_cons (ps_asg (pv 1) (pg_tup (by rfl) (pgs_cons (pg_name (i := 2) sc_least_cost.nd rfl (by first | exact .inl rfl | exact .inr rfl)) (pgs_cons (pg_name (i := 3) sc_least_cost.nd rfl (by first | exact .inl rfl | exact .inr rfl)) pgs_nil)))) (pss_cons (ps_set (i := 4) sc_least_cost.nd rfl (by first | exact .inl rfl | exact .inr rfl) (pe_lst (pa_cons (pe_tup (pa_cons (pe_int) (pa_cons (pe_tup pa_nil) pa_nil))) pa_nil))) (pss_cons (ps_for PassesOwn.never rfl (pi_range1 (by rfl) T.b_range (pa_cons (pv 2) pa_nil)) (pg_name (i := 5) sc_least_cost.nd rfl (by first | exact .inl rfl | exact .inr rfl))
        (pss_cons (ps_set (i := 6) sc_least_cost.nd rfl (by first | exact .inl rfl | exact .inr rfl) (pe_lc (own := [("term", 7)]) (g := gName 7) rfl sc_least_cost.nd (pi_tupK K (pv 3)) (blkOk_by (N := n_least_cost) (sc := defScope s_least_cost) (by decide +kernel)) (fun _ _ _ _ _ => pg_name (i := 7) sc_least_cost.nd rfl (by first | exact .inl rfl | exact .inr rfl))
            (fun _ _ _ _ _ => pts_one (pt_cmpR op_eq (pe_callB (cr_maxT K rfl hu8) (by rfl) T.b_max boot_max (pa_cons (pe_ix (ix_tupK K) (pv 7) pe_int (fun _ _ => rfl)) pa_nil)) (pv 5) (nomark _))) (fun _ _ _ _ _ => pv 7))) (pss_cons (ps_setLc2 (i := 8) (own := [("cost", 9), ("values", 10), ("value", 11)]) (vs1 := [11]) (g := gTup K 2 (gCons (gName 9) (gCons (gName 10) gNil))) (g1 := gName 11) (tt := tYes) (tt1 := tYes) rfl sc_least_cost.nd rfl rfl (sw_true rfl rfl rfl (by decide +kernel)) (pi_listK K (pv 4))
            (blkOk_by (N := n_least_cost) (sc := defScope s_least_cost) (by decide +kernel)) (by simp) (fun _ _ _ _ _ => pg_tup (by rfl) (pgs_cons (pg_name (i := 9) sc_least_cost.nd rfl (by first | exact .inl rfl | exact .inr rfl)) (pgs_cons (pg_name (i := 10) sc_least_cost.nd rfl (by first | exact .inl rfl | exact .inr rfl)) pgs_nil))) (fun _ _ _ _ _ => pts_nil)
            (fun _ _ _ _ _ => pi_range1 (by rfl) T.b_range (pa_cons (pe_ix (ix_tupK K) (pv 0) pe_int (fun _ _ => rfl)) pa_nil)) (fun _ _ _ _ _ => pg_name (i := 11) sc_least_cost.nd rfl (by first | exact .inl rfl | exact .inr rfl)) (fun _ _ _ _ _ => pts_nil)
            (fun _ _ _ _ _ => pe_tup (pa_cons (pv 9) (pa_cons (pe_op (op_catAK K) (pv 10) (pe_tup (pa_cons (pv 11) pa_nil))) pa_nil)))) (pss_one (ps_setLc (i := 4) (own := [("cost", 9), ("values", 10)]) (g := gTup K 2 (gCons (gName 9) (gCons (gName 10) gNil))) (tt := tYes) rfl sc_least_cost.nd rfl rfl (sw_true rfl rfl rfl (by decide +kernel)) (pi_listK K (pv 8)) (blkOk_by (N := n_least_cost) (sc := defScope s_least_cost) (by decide +kernel))
            (fun _ _ _ _ _ => pg_tup (by rfl) (pgs_cons (pg_name (i := 9) sc_least_cost.nd rfl (by first | exact .inl rfl | exact .inr rfl)) (pgs_cons (pg_name (i := 10) sc_least_cost.nd rfl (by first | exact .inl rfl | exact .inr rfl)) pgs_nil))) (fun _ _ _ _ _ => pts_nil)
            (fun _ _ _ _ _ => pe_tup (pa_cons (pe_op op_add (pv 9) (pe_call (ok_cost_of T) (hr.mono (by decide)) (by rfl) T.cost_of.g T.cost_of.F.kp T.cost_of.b .nil pass0 (pa_cons (pv 0) (pa_cons (pv 6) (pa_cons (pv 10) pa_nil))))) (pa_cons (pv 10) pa_nil)))))))) (pss_one (ps_ret (pe_callB (MN.cr_minD K rfl hu8) (by rfl) T.b_min boot_min (pa_cons (pv 4) pa_nil))))))))), ?_⟩
    have C1 := C.s1
    have C3 := C.s3
    have n8 := O.n8
    refine ⟨v, rfl, sz, v, fs, rfl, hv, C, hT, fun H1 g1 => ?_⟩
    refine ⟨v, rfl, u, rfl, sz, n, v, u, fs, ts, rfl, hv.gr g1, hu.gr g1, O, g1.tt hT, fun H2 g2 => ?_⟩
    have g02 := g1.trans g2
    obtain ⟨a, b, us, rfl, h1, h2, h3⟩ := pair_inv (hu.gr g02)
    have ul : us.length = ts.length := by rw [h3.1, List.length_map]
    refine ⟨.ref a, rfl, a, _, rfl, .inl (.inl h1), rfl, .int n, [.ref b], rfl, .ref b, [], rfl, rfl, ?_⟩
    -- found
    refine ⟨Nat.zero_le _, fun t0 m0 => ⟨by show 2 ≤ sizeLine; decide, fun t1 m1 => ⟨by show 1 ≤ sizeLine; decide, fun p0 np0 => ?_⟩⟩⟩
    have f1 : Gr H2 (upd H2 t0 (.tup [])) := Gx.new m0
    have j1 : (upd H2 t0 (.tup [])) t0 = some (.tup (([] : List Int).map V.int)) := upd_same
    generalize upd H2 t0 (.tup []) = A1 at *
    have f2 : Gr A1 (upd A1 t1 (.tup [.int 0, .ref t0])) := Gx.new m1
    have j2 : (upd A1 t1 (.tup [.int 0, .ref t0])) t1 = some (.tup [.int 0, .ref t0]) := upd_same
    generalize upd A1 t1 (.tup [.int 0, .ref t0]) = A2 at *
    have f3 : Gr A2 (upd A2 p0 (.lst [.ref t1])) := Gx.new np0
    have CR0 : CR K (upd A2 p0 (.lst [.ref t1])) p0 (tot sz fs (below ts 0)) (allRows sz 0) := ⟨_, upd_same, by
      refine .one (.mk (Gx.tupS f3 .nil j2) (.cons ?_ (.one (.row (Gx.tupS (f2.trans f3) .nil j1)))))
      rw [below_none]
      exact .int 0⟩
    have g03 := ((g02.trans f1).trans f2).trans f3
    have h23 := (f1.trans f2).trans f3
    generalize upd A2 p0 (.lst [.ref t1]) = H3 at *
    clear f1 f2 f3 j1 j2 m0 m1 np0
    refine ⟨.int n, rfl, n, rfl, by omega, by omega, ?_⟩
    refine for_range (n := ((n : Nat) : Int).toNat) (fun k σ H' => ∃ p y5 y6 y8, σ = [some v, some (.ref a), some (.int n), some (.ref b), some (.ref p), y5, y6, none, y8, none, none, none] ∧ Gr H2 H' ∧ CR K H' p (tot sz fs (below ts k)) (allRows sz k))
      ⟨p0, none, none, none, rfl, h23, CR0⟩ (fun k σ H' hk hp => ?_) (fun σ H' hp => ?_)
    · obtain ⟨p, y5, y6, y8, rfl, g, ws, hp, hws⟩ := hp
      have hk : k < n := by omega
      have hz : (0 : Int) + (k : Int) = (k : Int) := Int.zero_add _
      rw [hz]
      have hb := Gx.tupS g .nil h2
      have hus := h3.gr g
      have pw : sz ^ (k + 1) ≤ 256 := Nat.le_trans (Nat.pow_le_pow_right C1 hk) h256
      have wl : ws.length = (allRows sz k).length := by rw [hws.1, List.length_map]
      -- ended
      refine ⟨.ref b, rfl, b, rfl, ⟨_, .inl (.inl hb)⟩, fun D nD => ?_⟩
      refine lc_tup (K := K) (a := b) (xs := us) (fun i H2 => Gr H' H2 ∧ ∃ es, H2 D = some (.lst es) ∧ DTs K H2 es ((ended (ts.take i) k).map termD) ∧ es.length ≤ i) ⟨Gx.new nD, [], upd_same, .nil, Nat.le_refl _⟩ (fun i H2 _ p => .inl (.inl (Gx.tupS p.1 .nil hb))) (fun i x H2 ex hq => ?_) (fun H4 hq => ?_)
      · obtain ⟨g2, es, hD, hes, el⟩ := hq
        obtain ⟨d, ed, dx⟩ := hus.at' ex
        rw [List.getElem?_map] at ed
        obtain ⟨t, et, rfl⟩ := Option.map_eq_some_iff.mp ed
        have Ot := O.ok t (List.mem_of_getElem? et)
        have dx2 := dx.gr g2
        have tk : ended (ts.take (i + 1)) k = ended (ts.take i) k ++ if mx t.2.1 = k then [t] else [] := by
          rw [List.take_add_one, et]
          exact ended_snoc ..
        have hi : i < ts.length := (List.getElem?_eq_some_iff.mp et).1
        have few := O.few
        obtain ⟨tp, tb, rfl, htp, htb⟩ := term_inv dx2
        have sne : t.2.1 ≠ [] := fun z => by
          have e1 := Ot.len
          have := (C.ok _ (List.mem_of_getElem? (costs_at Ot.ix))).a1
          rw [z, List.length_nil] at e1
          omega
        obtain ⟨q0, qs, eq⟩ : ∃ q0 qs, t.2.1 = q0 :: qs := by
          cases hq : t.2.1 with
          | nil => exact absurd hq sne
          | cons q0 qs => exact ⟨q0, qs, rfl⟩
        have em : ((nat2 qs).foldl max (q0 : Int)) = ((mx t.2.1 : Nat) : Int) := by
          rw [nat_max, eq]
          rfl
        refine ⟨rfl, .ref tp, rfl, tp, _, 1, _, rfl, rfl, .inl (.inl htp), atI_nat (j := 1) rfl, tb, (q0 : Int), nat2 qs, rfl, .inl (.inl (by rw [htb, eq]; rfl)), .int k, rfl, rfl, _, rfl, ?_⟩
        rw [em]
        refine ite2 (fun hm => ?_) (fun hm => ?_)
        · have hm : mx t.2.1 = k := by have := V.int.inj (of_decide_eq_true hm); omega
          refine ⟨.ref tp, rfl, es, hD, small1000 (by omega), g2.wr nD, es ++ [.ref tp], upd_same, ?_, by rw [List.length_append]; exact Nat.succ_le_succ el⟩
          rw [tk, if_pos hm, List.map_append]
          exact (hes.wr hD).app (.one (DT.wr hD dx2))
        · have hm : ¬ mx t.2.1 = k := fun z => hm (decide_eq_true (by rw [z]))
          refine ⟨g2, es, hD, ?_, Nat.le_succ_of_le el⟩
          rw [tk, if_neg hm, List.append_nil]
          exact hes
      · obtain ⟨g2, es, hD4, hes, el⟩ := hq
        rw [ul, List.take_length] at hes
        have g4 := g.trans g2
        have hp4 := g2.lst hp
        have hws4 := hws.gr g2
        -- longer
        refine ⟨.ref p, rfl, p, rfl, ⟨_, .inl (.inl hp4)⟩, fun D5 nD5 => ?_⟩
        refine lc_listB (Qd := _) (fun i H5 => Gr H4 H5 ∧ CR K H5 D5 (fun y => tot sz fs (below ts k) (y.take k)) (part sz (allRows sz k) i 0) ∧ i ≤ ws.length) ⟨Gx.new nD5, ⟨[], upd_same, by rw [part_zero]; exact .nil⟩, Nat.zero_le _⟩ (fun i H5 _ p => p.1.seqL (.inl (.inl hp4))) (fun i x H5 ex hq => ?_) (fun H5 hq => ?_)
        · obtain ⟨g5, CR5, hi⟩ := hq
          obtain ⟨d, ed, dx⟩ := hws4.at' ex
          rw [List.getElem?_map] at ed
          obtain ⟨r, er, rfl⟩ := Option.map_eq_some_iff.mp ed
          have hi : i < ws.length := (List.getElem?_eq_some_iff.mp ex).1
          obtain ⟨rl, rv⟩ := allRows_ok (List.mem_of_getElem? er)
          obtain ⟨xp, xq, rfl, hxp, hxq⟩ := cost_inv (dx.gr g5)
          refine ⟨xp, _, rfl, .inl (.inl hxp), rfl, _, [.ref xq], rfl, .ref xq, [], rfl, rfl, rfl, yesT ?_⟩
          refine ixp0 rfl (hv.gr ((g02.trans g4).trans g5)) ⟨sz, rfl, by omega, by omega, ?_⟩
          refine lc_rangeB (Qd := _) (fun j H6 => Gr H4 H6 ∧ H6 xq = some (.tup (r.map V.int)) ∧ CR K H6 D5 (fun y => tot sz fs (below ts k) (y.take k)) (part sz (allRows sz k) i j) ∧ j ≤ sz) ⟨g5, hxq, CR5, Nat.zero_le _⟩ (fun j H6 hj hq => ?_) (fun H6 hq => ?_)
          · obtain ⟨g6, hxq6, ⟨zs, hz6, hzs⟩, hj'⟩ := hq
            have hj2 : j < sz := by omega
            refine ⟨rfl, yesT ⟨_, rfl, .ref xq, rfl, .int (0 + (j : Int)), rfl, by show 1 ≤ sizeLine; decide, fun t nt => ?_⟩⟩
            have gt : Gr H6 (upd H6 t (.tup [.int (0 + (j : Int))])) := Gx.new nt
            refine cat_one (r := r) (n := 0 + (j : Int)) (.row (Gx.tupS gt .nil hxq6)) upd_same (by omega) fun w H7 g7 dw => ⟨by show 2 ≤ sizeLine; decide, fun t2 nt2 => ?_⟩
            have g8 : Gr H7 (upd H7 t2 (.tup [.int (tot sz fs (below ts k) r), w])) := Gx.new nt2
            have g68 := (gt.trans g7).trans g8
            have hz8 : (upd H7 t2 (.tup [.int (tot sz fs (below ts k) r), w])) D5 = some (.lst zs) := Gx.lst g68 hz6
            have pl := part_len (sz := sz) (rows := allRows sz k) (i := i) (j := j) hj'
            rw [allRows_len, ← Nat.pow_succ] at pl
            have pl : (part sz (allRows sz k) i j).length ≤ sz ^ (k + 1) := pl
            refine ⟨zs, hz8, ?_, (g6.trans g68).wr nD5, ?_, ⟨_, upd_same, ?_⟩, hj2⟩
            · rw [hzs.1, List.length_map]
              exact small1000 (by omega)
            · have hx8 := Gx.tupS g68 .nil hxq6
              rw [upd_ne fun z => by rw [z, hz8] at hx8; cases hx8]
              exact hx8
            · rw [part_step er, List.map_append]
              refine DTs.app ((hzs.gr g68).wr hz8) (.one (DT.wr hz8 ?_))
              have e : (r ++ [(j : Int)]).take k = r := by rw [← rl, List.take_left]
              show DT K _ _ (costD (tot sz fs (below ts k) ((r ++ [(j : Int)]).take k)) (r ++ [(j : Int)]))
              rw [e]
              rw [Int.zero_add] at dw
              exact .mk upd_same (.cons (.int _) (.one (dw.gr g8)))
          · obtain ⟨g6, _, CR6, _⟩ := hq
            rw [show ((sz : Nat) : Int).toNat = sz by omega] at CR6
            rw [part_next (by rw [← wl]; exact hi)] at CR6
            exact ⟨g6, CR6, hi⟩
        · obtain ⟨g5, ⟨zs, hz5, hzs⟩, _⟩ := hq
          rw [wl, part_end] at hzs
          have hzs : DTs K H5 zs ((allRows sz (k + 1)).map fun y => costD (tot sz fs (below ts k) (y.take k)) y) := hzs
          have zl : zs.length = (allRows sz (k + 1)).length := by rw [hzs.1, List.length_map]
          have z256 : zs.length ≤ 256 := by rw [zl, allRows_len]; exact pw
          have hD5 := g5.lst hD4
          have hes5 := hes.gr g5
          have g05 := (g02.trans g4).trans g5
          -- found
          refine ⟨.ref D5, rfl, D5, rfl, ⟨_, .inl (.inl hz5)⟩, fun D6 nD6 => ?_⟩
          refine lc_list (K := K) (a := D5) (xs := zs) (fun i H6 => Gr H5 H6 ∧ CR K H6 D6 (tot sz fs (below ts (k + 1))) ((allRows sz (k + 1)).take i)) ⟨Gx.new nD6, [], upd_same, .nil⟩ (fun i H6 _ p => p.1.seqL (.inl (.inl hz5))) (fun i x H6 ex hq => ?_) (fun H6 hq => ?_)
          · obtain ⟨g6, cs, hc6, hcs⟩ := hq
            obtain ⟨d, ed, dx⟩ := hzs.at' ex
            rw [List.getElem?_map] at ed
            obtain ⟨y, ey, rfl⟩ := Option.map_eq_some_iff.mp ed
            obtain ⟨yl, yv⟩ := allRows_ok (List.mem_of_getElem? ey)
            have hi : i < zs.length := (List.getElem?_eq_some_iff.mp ex).1
            obtain ⟨xp, xq, rfl, hxp, hxq⟩ := cost_inv (dx.gr g6)
            refine ⟨xp, _, rfl, .inl (.inl hxp), rfl, _, [.ref xq], rfl, .ref xq, [], rfl, rfl, rfl, yesT ?_⟩
            refine ⟨_, rfl, v, rfl, .ref D, rfl, .ref xq, rfl, sz, v, .ref xq, D, es, fs, ended ts k, y, rfl, hv.gr (g05.trans g6), C, .inl (.inl (g6.lst hD5)), hes5.gr g6, fun t ht => ?_, .row hxq, yv, fun H7 g7 => ⟨_, _, rfl, rfl, .ref xq, rfl, by show 2 ≤ sizeLine; decide, fun t2 nt2 => ?_⟩⟩
            · obtain ⟨h1, h2⟩ := List.mem_filter.mp ht
              have Ot := O.ok t h1
              have hm := of_decide_eq_true h2
              exact ⟨Ot.ix, Ot.len, fun p hp => by have := le_mx hp; omega, Ot.w1, Ot.w2⟩
            · have ec : tot sz fs (below ts k) (y.take k) + tot sz fs (ended ts k) y = tot sz fs (below ts (k + 1)) y := by
                have e : y = y.take k ++ [y.getD k 0] := by
                  have : y.take (k + 1) = y := List.take_of_length_le (by omega)
                  rw [List.take_add_one, List.getElem?_eq_getElem (by omega)] at this
                  rw [List.getD_eq_getElem?_getD, List.getElem?_eq_getElem (by omega)]
                  exact this.symm
                have tn := tot_next (sz := sz) (fs := fs) (v := k) (vs := y.take k) (x := y.getD k 0) (by rw [List.length_take]; omega) ts
                rw [← e] at tn
                exact tn.symm
              dsimp only
              rw [ec]
              have g8 : Gr H7 (upd H7 t2 (.tup [.int (tot sz fs (below ts (k + 1)) y), .ref xq])) := Gx.new nt2
              have g68 := g7.trans g8
              have hc8 : (upd H7 t2 (.tup [.int (tot sz fs (below ts (k + 1)) y), .ref xq])) D6 = some (.lst cs) := Gx.lst g68 hc6
              refine ⟨cs, hc8, ?_, (g6.trans g68).wr nD6, _, upd_same, ?_⟩
              · rw [hcs.1, List.length_map, List.length_take]
                exact small1000 (by omega)
              · rw [List.take_add_one, ey, List.map_append]
                exact DTs.app ((hcs.gr g68).wr hc8) (.one (DT.wr hc8 (.mk upd_same (.cons (.int _) (.one (.row (Gx.tupS g68 .nil hxq)))))))
          · obtain ⟨g6, CR6⟩ := hq
            rw [zl, List.take_length] at CR6
            exact ⟨_, _, _, _, rfl, (g4.trans g5).trans g6, CR6⟩
    · obtain ⟨p, y5, y6, y8, rfl, g, ws, hp, hws⟩ := hp
      have en : ((n : Nat) : Int).toNat = n := by omega
      rw [en] at hws
      rw [below_all fun t ht => ?_] at hws
      · have ne : allRows sz n ≠ [] := fun z => by
          have := allRows_len sz n
          rw [z] at this
          have := Nat.pow_pos (n := n) (show 0 < sz by omega)
          simp at *
          omega
        have asc := allRows_asc sz n
        obtain ⟨r0, rs, er⟩ : ∃ r0 rs, allRows sz n = r0 :: rs := by
          cases e : allRows sz n with
          | nil => exact absurd e ne
          | cons r0 rs => exact ⟨r0, rs, rfl⟩
        obtain ⟨ca1, ca2⟩ := cost_alike (tot sz fs ts) (allRows sz n)
        rw [er] at hws asc ca1 ca2
        refine ⟨.ref p, rfl, p, ws, _, _, rfl, .inl (.inl hp), hws, ca1, Nat.le_trans ca2 (by decide), fun z dz => ?_⟩
        rw [minD_best _ _ _ asc] at dz
        rw [er] at q
        exact q z H' (g02.trans g) dz
      · have Ot := O.ok t ht
        have sne : t.2.1 ≠ [] := fun z => by
          have e1 := Ot.len
          have := (C.ok _ (List.mem_of_getElem? (costs_at Ot.ix))).a1
          rw [z, List.length_nil] at e1
          omega
        exact Ot.sc _ (mx_mem sne)
end K82

set_option Elab.async false
set_option linter.all false
set_option maxRecDepth 100000
set_option maxHeartbeats 4000000
namespace K82
open PySem PySem.Spec PyProof.Rows L2 TK MR
variable {P : Program} {w : World} {K : PySem.W.Frag} {mg : Str → Option Value} {base : Heap}
/-! _law_rows, of more places -/
def sp_rowsX (K : PySem.W.Frag) : Sp := fun vs H Q _ => ∃ sz ar : Nat, vs = [.int sz, .int ar] ∧ 1 ≤ sz ∧ sz ≤ 4 ∧ ar ≤ 8 ∧ sz ^ ar ≤ 256 ∧ ∀ p H', Gr H H' → H p = none → LR K H' p (allRows sz ar) → Q (.ref p) H'
theorem ok_law_rowsX (T : Txt K mg base) : FnOk P w K mg base CX0 1 T.law_rows.f T.law_rows.fd p_law_rows (sp_rowsX K) := by
  refine T.law_rows.F.ok sc_law_rows (fun vs H Q E h => ?_) (fun A outer s H vs Q E hr h => ?_)
  · obtain ⟨sz, ar, rfl, _⟩ := h
    rfl
  · obtain ⟨sz, ar, rfl, s1, h1, h2, h256, q⟩ := h
    refine ⟨_, pss_cons (ps_set (i := 2) sc_law_rows.nd rfl (.inl rfl) (pe_lst (pa_cons (pe_tup pa_nil) pa_nil)))
      (pss_cons (ps_for PassesOwn.never rfl (pi_range1 (by rfl) T.b_range (pa_cons (pv 1) pa_nil)) (pg_name (i := 3) sc_law_rows.nd rfl (.inl rfl))
        (pss_cons (ps_set (i := 4) sc_law_rows.nd rfl (.inl rfl) (pe_lst pa_nil))
        (pss_cons (ps_for PassesOwn.never rfl (pi_list (pv 2)) (pg_name (i := 5) sc_law_rows.nd rfl (.inr rfl))
          (pss_one (ps_set (i := 4) sc_law_rows.nd rfl (.inl rfl) (pe_op op_cat (pv 4)
            (pe_lc (own := [("value", 6)]) (g := gName 6) (tt := tYes) rfl sc_law_rows.nd (pi_range1 (by rfl) T.b_range (pa_cons (pv 0) pa_nil))
              (blkOk_by (N := n_law_rows) (sc := defScope s_law_rows) (by decide +kernel)) (fun _ _ _ _ _ => pg_name (i := 6) sc_law_rows.nd rfl (Or.inl rfl)) (fun _ _ _ _ _ => pts_nil)
              (fun _ _ _ _ _ => pe_op (op_catAK K) (pv 5) (pe_tup (pa_cons (pv 6) pa_nil))))))))
        (pss_one (ps_set (i := 2) sc_law_rows.nd rfl (.inl rfl) (pv 4))))))
      (pss_one (ps_ret (pv 2)))), ?_⟩
    -- found = [()]
    refine ⟨Nat.zero_le _, fun t nt => ⟨by show 1 ≤ sizeLine; decide, fun p np => ?_⟩⟩
    have np0 : H p = none := Gr.free (Gx.new nt) np
    have g0 : Gr H (upd (upd H t (.tup [])) p (.lst [.ref t])) := (Gx.new nt).trans (Gx.new np)
    have l0 : LR K (upd (upd H t (.tup [])) p (.lst [.ref t])) p (allRows sz 0) := by
      refine ⟨_, upd_same, .one (.row (ns := []) ?_)⟩
      have : t ≠ p := fun e => by
        rw [e, upd_same] at np
        cases np
      rw [upd_ne this, upd_same]
      rfl
    refine ⟨.int ar, rfl, ar, rfl, by omega, by omega, ?_⟩
    refine for_range (n := (ar : Int).toNat) (fun i σ H' => ∃ p y3 y4 y5, σ = [some (.int sz), some (.int ar), some (.ref p), y3, y4, y5, none] ∧ Gr H H' ∧ H p = none ∧ LR K H' p (allRows sz i)) ⟨p, none, none, none, rfl, g0, np0, l0⟩ (fun i σ H' hi hp => ?_) (fun σ H' hp => ?_)
    · obtain ⟨p1, y3, y4, y5, rfl, g1, n1, vs1, hp1, hd1⟩ := hp
      have hi4 : i < 8 := by omega
      have hia : i < ar := by omega
      have lr4 : (allRows sz i).length * sz ≤ 256 := by
        rw [allRows_len]
        exact Nat.le_trans (show sz ^ (i + 1) ≤ sz ^ ar from Nat.pow_le_pow_right s1 hia) h256
      have lx : vs1.length = (allRows sz i).length := by rw [hd1.1, List.length_map]
      -- more = []
      refine ⟨Nat.zero_le _, fun m0 nm0 => ?_⟩
      have gm : Gr H' (upd H' m0 (.lst [])) := Gx.new nm0
      refine ⟨.ref p1, rfl, p1, rfl, ⟨_, gm.seqL (.inl (.inl hp1))⟩, ?_⟩
      refine for_list (K := K) (xs := vs1) (fun j σ H2 => ∃ m y5, σ = [some (.int sz), some (.int ar), some (.ref p1), some (.int (0 + (i : Int))), some (.ref m), y5, none] ∧ Gr H' H2 ∧ H' m = none ∧ LR K H2 m (ext sz ((allRows sz i).take j)))
        ⟨m0, y5, rfl, gm, nm0, [], upd_same, .nil⟩ (fun j σ H2 _ hp => by obtain ⟨_, _, _, g2, _⟩ := hp; exact g2.seqL (.inl (.inl hp1))) (fun j x σ H2 ex hp => ?_) (fun σ H2 hp => ?_)
      · obtain ⟨m, y5', rfl, g2, nm, ms, hm, hms⟩ := hp
        obtain ⟨dx, e1, dv⟩ := hd1.at' ex
        rw [List.getElem?_map] at e1
        obtain ⟨r, er, rfl⟩ := Option.map_eq_some_iff.mp e1
        have hr4 := (allRows_ok (List.mem_of_getElem? er)).1
        refine ⟨.ref m, rfl, .int sz, rfl, sz, rfl, by omega, by omega, fun D nD => ?_⟩
        have hj : j < (allRows sz i).length := (List.getElem?_eq_some_iff.mp er).1
        have hDm : D ≠ m := fun z => by rw [z, hm] at nD; cases nD
        refine lc_range (n := (sz : Int).toNat) (fun b H3 => Gr H2 H3 ∧ b ≤ sz ∧ LR K H3 D ((List.range b).map fun (v : Nat) => r ++ [(v : Int)])) ⟨Gx.new nD, Nat.zero_le _, [], upd_same, .nil⟩ (fun b H3 hb p => ?_) (fun H3 p => ?_)
        · obtain ⟨g3, hb', ws, hD, hds⟩ := p
          have hb2 : b < sz := by omega
          refine ⟨rfl, yesT ⟨x, rfl, .int (0 + (b : Int)), rfl, by show 1 ≤ sizeLine; decide, fun t nt => ?_⟩⟩
          have gt : Gr H3 (upd H3 t (.tup [.int (0 + (b : Int))])) := Gx.new nt
          dsimp only [tC]
          refine cat_one (r := r) (n := 0 + (b : Int)) ((dv.gr (g2.trans g3)).gr gt) upd_same (by omega) fun u H4 g4 du => ?_
          have hD4 : H4 D = some (.lst ws) := (gt.trans g4).lst hD
          refine ⟨ws, hD4, ?_, ((g3.trans gt).trans g4).wr nD, hb2, _, upd_same, ?_⟩
          · rw [hds.1, List.length_map, List.length_map, List.length_range]
            exact small1000 (by omega)
          · rw [List.range_succ, List.map_append]
            rw [Int.zero_add] at du
            exact LR.app ((hds.gr (gt.trans g4)).wr hD4) (DT.wr hD4 du)
        · obtain ⟨g3, _, ws, hD, hds⟩ := p
          have hm3 := g3.lst hm
          have hms3 := hms.gr g3
          refine ⟨m, D, ms, ws, rfl, rfl, hm3, hD, ?_, fun p2 np2 => ?_⟩
          · have q1 := hms.1
            have q2 := hds.1
            rw [List.length_map, ext_len, List.length_take] at q1
            rw [List.length_map, List.length_map, List.length_range] at q2
            have : min j (allRows sz i).length * sz ≤ 256 := Nat.le_trans (Nat.mul_le_mul_right _ (Nat.min_le_right _ _)) lr4
            exact Nat.le_of_lt (small1000 (by omega))
          · refine ⟨p2, some x, rfl, (g2.trans g3).trans (Gx.new np2), ?_, _, upd_same, ?_⟩
            · exact (g2.trans g3).free np2
            · rw [List.take_add_one, er, ext_app]
              show DTs K _ _ ((ext sz ((allRows sz i).take j) ++ ext sz [r]).map rowD)
              rw [ext_one, List.map_append]
              have q : (sz : Int).toNat = sz := by omega
              rw [q] at hds
              exact (hms3.app hds).gr (Gx.new np2)
      · obtain ⟨m, y5', rfl, g2, nm, hl⟩ := hp
        rw [lx, List.take_length] at hl
        exact ⟨.ref m, rfl, m, _, _, _, rfl, g1.trans g2, g1.free nm, hl⟩
    · obtain ⟨p1, y3, y4, y5, rfl, g1, n1, hl⟩ := hp
      exact ⟨.ref p1, rfl, q p1 H' g1 n1 (by simpa using hl)⟩
/-! what the law draws -/
theorem nat_add1 {x : Int} (h : 0 ≤ x) : ∃ n : Nat, 1 + x = (n : Int) := ⟨(1 + x).toNat, by omega⟩
theorem lst_nr {H : Hp} {r c p : Addr} (h : RowSt K H r c) (n : H p = none) : p ≠ r := fun z => by
  obtain ⟨xs, e⟩ := h.lst
  rw [← z, n] at e
  cases e
/-- a list of data, made since -/
def LD (K : PySem.W.Frag) (H : Hp) (p : Addr) (ds : List PyData) : Prop := ∃ ws, H p = some (.lst ws) ∧ DTs K H ws ds
theorem LD.gxr {H H' : Hp} {r p : Addr} {ds : List PyData} (g : Gx [r] H H') (ls : LS [r] H) (n : p ≠ r) (h : LD K H p ds) : LD K H' p ds := by
  obtain ⟨xs, a, b⟩ := h
  exact ⟨xs, g.at (fun z => n (List.mem_singleton.mp z)) a (fun _ z => by cases z), b.gx g ls⟩
theorem LD.gr {H H' : Hp} {p : Addr} {ds : List PyData} (g : Gr H H') (h : LD K H p ds) : LD K H' p ds := by
  obtain ⟨xs, a, b⟩ := h
  exact ⟨xs, g.lst a, b.gr g⟩
theorem rowst_wr {H : Hp} {r c p : Addr} {o : HO} (h : RowSt K H r c) (n : p ≠ r) (nc : c ≠ p ∨ ∃ ns : List Int, SqL K (fun _ => none) c (ns.map V.int)) : RowSt K (upd H p o) r c := h.wr n.symm nc
/-- [taken(row, m) for .. in xs], as a tuple -/
theorem drawn_rd {H : Hp} {r c : Addr} (hR : RowSt K H r c) : True := trivial
/-! _law_costs -/
def sp_law_costs (K : PySem.W.Frag) : Sp := fun vs H Q _ => ∃ (r c : Addr) (sz many : Nat) (most : Int), vs = [.ref r, .int sz, .int many, .int most] ∧ RowSt K H r c ∧ Lv K H c ∧ (1 ≤ sz ∧ sz ≤ 3) ∧ (1 ≤ many ∧ many ≤ 4) ∧ (1 ≤ most ∧ most ≤ 1001) ∧
  ∀ (v : V) (fs : List CF) H', Gx [r] H H' → RowSt K H' r c → DT K H' v (costsD sz fs) → CostsOk sz fs → fs ≠ [] → Q v H'
theorem ok_law_costs (T : Txt K mg base) : FnOk P w K mg base CX0 2 T.law_costs.f T.law_costs.fd p_law_costs (sp_law_costs K) := by
  refine T.law_costs.F.ok sc_law_costs (fun vs H Q E h => ?_) (fun A outer s H vs Q E hr h => ?_)
  · obtain ⟨_, _, _, _, _, rfl, _⟩ := h
    rfl
  · obtain ⟨r, c, sz, many, most, rfl, hR, hc, hs, hm, hmo, q⟩ := h
    refine ⟨_, (pss_cons (ps_set (i := 4) sc_law_costs.nd rfl (by first | exact .inl rfl | exact .inr rfl) (pe_lst pa_nil)) (pss_cons (ps_for PassesOwn.never rfl (pi_range1 (by rfl) T.b_range (pa_cons (pe_op op_add pe_int (pe_call (ok_law_taken T) hr (by rfl) T.law_taken.g T.law_taken.F.kp T.law_taken.b .nil pass0 (pa_cons (pv 0) (pa_cons (pv 2) pa_nil)))) pa_nil)) (pg_name (i := 5) sc_law_costs.nd rfl (by first | exact .inl rfl | exact .inr rfl))
        (pss_cons (ps_set (i := 6) sc_law_costs.nd rfl (by first | exact .inl rfl | exact .inr rfl) (pe_op op_add pe_int (pe_call (ok_law_taken T) hr (by rfl) T.law_taken.g T.law_taken.F.kp T.law_taken.b .nil pass0 (pa_cons (pv 0) (pa_cons (pe_int) pa_nil))))) (pss_one (ps_expr (pe_bm PySem.F.plainAttrs_list PySem.F.slot_list_append PySem.F.type_list_append mt_append (pv 4) (pa_cons (pe_tup (pa_cons (pv 6) (pa_cons ((pe_callTy (call_tuple_ofK K) (by rfl) T.b_tuple boot_tuple (pa_cons (pe_lc (own := [("told", 7)]) (g := gName 7) (tt := tYes) rfl sc_law_costs.nd (pi_listK K (pe_call (ok_law_rowsX T) hr (by rfl) T.law_rows.g T.law_rows.F.kp T.law_rows.b .nil pass0 (pa_cons (pv 1) (pa_cons (pv 6) pa_nil)))) (blkOk_by (N := n_law_costs) (sc := defScope s_law_costs) (by decide +kernel)) (fun _ _ _ _ _ => pg_name (i := 7) sc_law_costs.nd rfl (by first | exact .inl rfl | exact .inr rfl)) (fun _ _ _ _ _ => pts_nil)
            (fun _ _ _ _ _ => (pe_call (ok_law_taken T) hr (by rfl) T.law_taken.g T.law_taken.F.kp T.law_taken.b .nil pass0 (pa_cons (pv 0) (pa_cons (pv 3) pa_nil))))) pa_nil))) pa_nil))) pa_nil)))))) (pss_one (ps_ret (pe_tup (pa_cons (pv 1) (pa_cons ((pe_callTy (call_tuple_ofK K) (by rfl) T.b_tuple boot_tuple (pa_cons (pv 4) pa_nil))) pa_nil))))))), ?_⟩
    refine ⟨Nat.zero_le _, fun pf npf => ?_⟩
    have nfr := lst_nr hR npf
    have nfc := live_ne hc npf
    have g1 : Gr H (upd H pf (.lst [])) := Gx.new npf
    have hR1 := hR.gr g1
    have L1 : LD K (upd H pf (.lst [])) pf (fnsD []) := ⟨[], upd_same, .nil⟩
    generalize upd H pf (.lst []) = H1 at *
    refine ⟨.ref r, rfl, .int many, rfl, r, c, many, rfl, hR1, by omega, by omega, fun x H2 hx0 hx1 g2 hR2 => ⟨_, _, rfl, rfl, ?_⟩⟩
    obtain ⟨m, em⟩ := nat_add1 hx0
    have L2 := LD.gxr g2 hR1.ls nfr L1
    have g02 : Gx [r] H H2 := Gr.thn g1 g2
    refine ⟨m, (by show [V.int (1 + x)] = [V.int (m : Int)]; rw [em]), by omega, by omega, ?_⟩
    refine for_range (n := ((m : Nat) : Int).toNat) (fun i σ H' => ∃ y5 y6 fs, σ = [some (.ref r), some (.int sz), some (.int many), some (.int most), some (.ref pf), y5, y6, none] ∧ Gx [r] H H' ∧ RowSt K H' r c ∧ LD K H' pf (fnsD fs) ∧ fs.length = i ∧ ∀ f ∈ fs, FnC sz f)
      ⟨none, none, [], rfl, g02, hR2, L2, rfl, fun f hf => by simp at hf⟩ (fun i σ H' hi hp => ?_) (fun σ H' hp => ?_)
    · obtain ⟨y5, y6, fs, rfl, g, hR', L, fl, ok⟩ := hp
      refine ⟨.ref r, rfl, r, c, 2, rfl, hR', by omega, by omega, fun y H3 hy0 hy1 g3 hR3 => ⟨_, _, rfl, rfl, ?_⟩⟩
      obtain ⟨ar, ear⟩ := nat_add1 hy0
      dsimp only
      rw [ear]
      have har : 1 ≤ ar ∧ ar ≤ 2 := by omega
      have L3 := LD.gxr g3 hR'.ls nfr L
      have g03 := g.trans g3
      obtain ⟨ws, hw, hws⟩ := id L3
      refine ⟨.ref pf, rfl, .inl ⟨rfl, _, .inl (.inl hw)⟩, .int ar, rfl, ?_⟩
      have p16 : sz ^ ar ≤ 16 := Nat.le_trans (Nat.pow_le_pow_left hs.2 ar) (Nat.le_trans (Nat.pow_le_pow_right (by decide) har.2) (by decide))
      refine ⟨.int sz, rfl, .int ar, rfl, sz, ar, rfl, hs.1, by omega, by omega, by omega, fun p H4 g4 np hL => ?_⟩
      obtain ⟨rs, hp, hrs⟩ := hL
      have rl : rs.length = sz ^ ar := by rw [hrs.1, List.length_map, allRows_len]
      have hR4 := hR3.gr g4
      have L4 := LD.gr g4 L3
      have npr := lst_nr hR3 np
      refine ⟨p, rfl, ⟨rs, .inl (.inl hp)⟩, fun D nD => ?_⟩
      have nDr := lst_nr hR4 nD
      have nDf : pf ≠ D := fun z => by
        obtain ⟨us, e, _⟩ := L4
        rw [z, nD] at e
        cases e
      have nDc := live_ne (Lv.gx (TK.Gx.thn g03 g4) hR4 hc) nD
      refine lc_list (K := K) (a := p) (xs := rs) (fun j H5 => Gx [r] H4 H5 ∧ RowSt K H5 r c ∧ ∃ as : List Int, as.length = j ∧ (∀ x ∈ as, 0 ≤ x ∧ x ≤ 1000) ∧ H5 D = some (.lst (as.map V.int))) ⟨Gx.new nD, hR4.gr (Gx.new nD), [], rfl, fun x hx => by simp at hx, upd_same⟩
        (fun j H5 _ q => .inl (.inl (q.1.at (fun z => npr (List.mem_singleton.mp z)) hp fun _ z => by cases z))) (fun j x H5 ex q => ?_) (fun H5 q' => ?_)
      · obtain ⟨g5, hR5, as, al, av, hD⟩ := q
        have hj : j < rs.length := (List.getElem?_eq_some_iff.mp ex).1
        refine ⟨rfl, yesT ⟨.ref r, rfl, .int most, rfl, r, c, most, rfl, hR5, by omega, by omega, fun y H6 hy0 hy1 g6 hR6 => ?_⟩⟩
        have hD6 := g6.at (fun z => nDr (List.mem_singleton.mp z)) hD fun _ z => by cases z
        refine ⟨_, hD6, ?_, (g5.trans g6).wr nD, rowst_wr hR6 nDr nDc, as ++ [y], by rw [List.length_append, al]; rfl, fun z hz => ?_, ?_⟩
        · rw [List.length_map]
          exact small1000 (by omega)
        · rcases List.mem_append.mp hz with hz | hz
          · exact av z hz
          · rw [List.mem_singleton.mp hz]
            omega
        · rw [upd_same, List.map_append]
          rfl
      · obtain ⟨g5, hR5, as, al, av, hD⟩ := q'
        have L5 := LD.gxr g5 hR4.ls nfr L4
        have g05 := (TK.Gx.thn g03 g4).trans g5
        refine ⟨D, _, rfl, .inl ⟨.inl (.inl hD), fun l5 nl5 => ⟨by show 2 ≤ sizeLine; decide, fun t nt => ?_⟩⟩⟩
        have g6 : Gr H5 (upd (upd H5 l5 (.tup (as.map V.int))) t (.tup [.int ar, .ref l5])) := Gx.trans (Gx.new nl5) (Gx.new nt)
        have dt : DT K (upd (upd H5 l5 (.tup (as.map V.int))) t (.tup [.int ar, .ref l5])) (.ref t) (opD ar as) := .mk upd_same (.cons (.int ar) (.one (.row (Gx.tupS (Gx.new nt) .nil upd_same))))
        obtain ⟨zs, hz, hzs⟩ := LD.gr g6 L5
        have hR6 := hR5.gr g6
        generalize upd (upd H5 l5 (.tup (as.map V.int))) t (.tup [.int ar, .ref l5]) = H6 at *
        have zl : zs.length = i := by rw [hzs.1, List.length_map, fl]
        refine ⟨pf, zs, .ref t, rfl, rfl, hz, small1000 (by omega), ?_⟩
        refine ⟨_, _, fs ++ [(ar, as)], rfl, (TK.Gx.thn g05 g6).wr npf, rowst_wr hR6 nfr nfc, ⟨_, upd_same, ?_⟩, by rw [List.length_append, fl]; rfl, fun f hf => ?_⟩
        · show DTs K _ _ ((fs ++ [(ar, as)]).map fun f => opD f.1 f.2)
          rw [List.map_append]
          exact (hzs.wr hz).app (.one (DT.wr hz dt))
        · rcases List.mem_append.mp hf with hf | hf
          · exact ok f hf
          · rw [List.mem_singleton.mp hf]
            exact ⟨har.1, har.2, by rw [al, rl], av⟩
    · obtain ⟨y5, y6, fs, rfl, g, hR', ⟨ws, hw, hws⟩, fl, ok⟩ := hp
      refine ⟨.int sz, rfl, .ref pf, rfl, pf, ws, rfl, .inl ⟨.inl (.inl hw), fun l nl => ⟨by show 2 ≤ sizeLine; decide, fun t nt => ?_⟩⟩⟩
      have g6 : Gr H' (upd (upd H' l (.tup ws)) t (.tup [.int sz, .ref l])) := Gx.trans (Gx.new nl) (Gx.new nt)
      refine q _ fs _ (TK.Gx.thn g g6) (hR'.gr g6) (.mk upd_same (.cons (.int sz) (.one (.mk (Gx.tupS (Gx.new nt) .nil upd_same) (hws.gr g6))))) ⟨hs.1, hs.2, by omega, ok⟩ fun z => ?_
      rw [z] at fl
      simp at fl
      omega
/-! _law_terms -/
def sp_law_terms (K : PySem.W.Frag) : Sp := fun vs H Q _ => ∃ (r c : Addr) (sz n most : Nat) (weight : Int) (v : V) (fs : List CF), vs = [.ref r, v, .int n, .int most, .int weight] ∧ RowSt K H r c ∧ Lv K H c ∧ n ≤ 8 ∧ most ≤ 9 ∧ (1 ≤ weight ∧ weight ≤ 1000000) ∧ DT K H v (costsD sz fs) ∧ CostsOk sz fs ∧ fs ≠ [] ∧
  ∀ (u : V) (ts : List TmC) H', Gx [r] H H' → RowSt K H' r c → DT K H' u (instD n ts) → TermsOk fs n ts → Q u H'
theorem ok_law_terms (T : Txt K mg base) : FnOk P w K mg base CX0 2 T.law_terms.f T.law_terms.fd p_law_terms (sp_law_terms K) := by
  refine T.law_terms.F.ok sc_law_terms (fun vs H Q E h => ?_) (fun A outer s H vs Q E hr h => ?_)
  · obtain ⟨_, _, _, _, _, _, _, _, rfl, _⟩ := h
    rfl
  · obtain ⟨r, c, sz, n, most, weight, v, fs, rfl, hR, hc, hn, hm, hw, hv, C, fne, q⟩ := h
    refine ⟨_, (pss_cons (ps_set (i := 5) sc_law_terms.nd rfl (by first | exact .inl rfl | exact .inr rfl) (pe_lst pa_nil)) (pss_cons (ps_if (pt_cmpR op_gt (pv 2) pe_int (nomark _)) (pss_one (ps_for PassesOwn.never rfl (pi_range1 (by rfl) T.b_range (pa_cons ((pe_call (ok_law_taken T) hr (by rfl) T.law_taken.g T.law_taken.F.kp T.law_taken.b .nil pass0 (pa_cons (pv 0) (pa_cons (pe_op op_add (pv 3) pe_int) pa_nil)))) pa_nil)) (pg_name (i := 6) sc_law_terms.nd rfl (by first | exact .inl rfl | exact .inr rfl))
        (pss_cons (ps_set (i := 7) sc_law_terms.nd rfl (by first | exact .inl rfl | exact .inr rfl) (pe_call (ok_law_taken T) hr (by rfl) T.law_taken.g T.law_taken.F.kp T.law_taken.b .nil pass0 (pa_cons (pv 0) (pa_cons (pe_callB (call_len_seqK K) (by rfl) T.b_len PySem.boot_len (pa_cons (pe_ix (ix_tupK K) (pv 1) pe_int (fun _ _ => rfl)) pa_nil)) pa_nil)))) (pss_cons (ps_set (i := 8) sc_law_terms.nd rfl (by first | exact .inl rfl | exact .inr rfl) (pe_callTy (call_tuple_ofK K) (by rfl) T.b_tuple boot_tuple (pa_cons (pe_lc (own := [("place", 9)]) (g := gName 9) (tt := tYes) rfl sc_law_terms.nd (pi_range1 (by rfl) T.b_range (pa_cons (pe_ix (ix_tupK K) (pe_ix (ix_tupK K) (pe_ix (ix_tupK K) (pv 1) pe_int (fun _ _ => rfl)) (pv 7) (fun _ _ => rfl)) pe_int (fun _ _ => rfl)) pa_nil)) (blkOk_by (N := n_law_terms) (sc := defScope s_law_terms) (by decide +kernel)) (fun _ _ _ _ _ => pg_name (i := 9) sc_law_terms.nd rfl (by first | exact .inl rfl | exact .inr rfl)) (fun _ _ _ _ _ => pts_nil)
            (fun _ _ _ _ _ => (pe_call (ok_law_taken T) hr (by rfl) T.law_taken.g T.law_taken.F.kp T.law_taken.b .nil pass0 (pa_cons (pv 0) (pa_cons (pv 2) pa_nil))))) pa_nil))) (pss_one (ps_expr (pe_bm PySem.F.plainAttrs_list PySem.F.slot_list_append PySem.F.type_list_append mt_append (pv 5) (pa_cons (pe_tup (pa_cons (pv 7) (pa_cons (pv 8) (pa_cons (pe_op op_add pe_int (pe_call (ok_law_taken T) hr (by rfl) T.law_taken.g T.law_taken.F.kp T.law_taken.b .nil pass0 (pa_cons (pv 0) (pa_cons (pv 4) pa_nil)))) pa_nil)))) pa_nil)))))))) pss_nil) (pss_one (ps_ret (pe_tup (pa_cons (pv 2) (pa_cons ((pe_callTy (call_tuple_ofK K) (by rfl) T.b_tuple boot_tuple (pa_cons (pv 5) pa_nil))) pa_nil))))))), ?_⟩
    have f1 : 1 ≤ fs.length := List.length_pos_iff.mpr fne
    have f4 := C.few
    refine ⟨Nat.zero_le _, fun pf npf => ?_⟩
    have nfr := lst_nr hR npf
    have nfc := live_ne hc npf
    have g1 : Gr H (upd H pf (.lst [])) := Gx.new npf
    have hR1 := hR.gr g1
    have L1 : LD K (upd H pf (.lst [])) pf (([] : List TmC).map termD) := ⟨[], upd_same, .nil⟩
    generalize upd H pf (.lst []) = H1 at *
    have fin : ∀ (ts : List TmC) y6 y7 y8 y9 H', Gx [r] H H' → RowSt K H' r c → LD K H' pf (ts.map termD) → TermsOk fs n ts → tRet (tTup (tCons (tVar 2) (tCons (tCB (rTupleOf K) (tCons (tVar 5) tNil)) tNil))) { nx := fun x H' => Q V.non H', rt := Q } [some (.ref r), some v, some (.int n), some (.int most), some (.int weight), some (.ref pf), y6, y7, y8, y9] H' := fun ts y6 y7 y8 y9 H' g hR' L ok => by
      obtain ⟨ws, hw, hws⟩ := L
      refine ⟨.int n, rfl, .ref pf, rfl, pf, ws, rfl, .inl ⟨.inl (.inl hw), fun l nl => ⟨by show 2 ≤ sizeLine; decide, fun t nt => ?_⟩⟩⟩
      have g6 : Gr H' (upd (upd H' l (.tup ws)) t (.tup [.int n, .ref l])) := Gx.trans (Gx.new nl) (Gx.new nt)
      exact q _ ts _ (TK.Gx.thn g g6) (hR'.gr g6) (.mk upd_same (.cons (.int n) (.one (.mk (Gx.tupS (Gx.new nt) .nil upd_same) (hws.gr g6))))) ok
    refine ⟨.int n, rfl, n, 0, rfl, rfl, _, rfl, ite2 (fun h0 => ?_) (fun h0 => ?_)⟩
    · have n1 : 1 ≤ n := by have := of_decide_eq_true h0; omega
      refine ⟨.ref r, rfl, .int most, rfl, most, 1, rfl, rfl, r, c, (most : Int) + 1, rfl, hR1, by omega, by omega, fun m H2 hm0 hm1 g2 hR2 => ?_⟩
      have L2' := LD.gxr g2 hR1.ls nfr L1
      have g02 : Gx [r] H H2 := Gr.thn g1 g2
      refine ⟨m, rfl, by omega, by omega, ?_⟩
      refine for_range (n := m.toNat) (fun i σ H' => ∃ y6 y7 y8 ts, σ = [some (.ref r), some v, some (.int n), some (.int most), some (.int weight), some (.ref pf), y6, y7, y8, none] ∧ Gx [r] H H' ∧ RowSt K H' r c ∧ LD K H' pf (ts.map termD) ∧ ts.length = i ∧ ∀ t ∈ ts, TermOk fs n t)
        ⟨none, none, none, [], rfl, g02, hR2, L2', rfl, fun f hf => by simp at hf⟩ (fun i σ H' hi hp => ?_) (fun σ H' hp => ?_)
      · obtain ⟨y6, y7, y8, ts, rfl, g, hR', L, tl, ok⟩ := hp
        have hv' := hv.gx g hR.ls
        refine ⟨.ref r, rfl, ixp1 rfl hv' fun b xs hb hx => ⟨b, xs, rfl, .inr (.inl (.inl hb)), ?_⟩⟩
        have xl : xs.length = fs.length := by rw [hx.1, List.length_map]
        refine ⟨r, c, xs.length, rfl, hR', by omega, by omega, fun wh H3 hw0 hw1 g3 hR3 => ?_⟩
        obtain ⟨which, rfl⟩ := Int.eq_ofNat_of_zero_le hw0
        have ix : which < fs.length := by omega
        have F := C.ok _ (List.mem_of_getElem? (costs_at ix))
        have L3 := LD.gxr g3 hR'.ls nfr L
        have g03 := g.trans g3
        have hv3 := hv.gx g03 hR.ls
        refine ixp1 rfl hv3 fun b1 zs hb1 hz => ?_
        obtain ⟨y, ey, dy⟩ := fn_at hb1 hz ix
        obtain ⟨oa, ob, rfl, ho1, ho2⟩ := DT.op_inv dy
        have fa1 := F.a1
        have fa2 := F.a2
        refine ⟨.int which, rfl, b1, zs, (which : Int), .ref oa, rfl, rfl, .inl (.inl hb1), atI_nat ey, oa, _, 0, _, rfl, rfl, ho1, atI_nat (j := 0) rfl, (fs.getD which (0, [])).1, rfl, by omega, by omega, fun D nD => ?_⟩
        have nDr := lst_nr hR3 nD
        have nDc := live_ne (Lv.gx g03 hR3 hc) nD
        refine lc_range (n := (((fs.getD which (0, [])).1 : Nat) : Int).toNat) (fun j H5 => Gx [r] H3 H5 ∧ RowSt K H5 r c ∧ ∃ ps : List Nat, ps.length = j ∧ (∀ p ∈ ps, p < n) ∧ H5 D = some (.lst ((nat2 ps).map V.int))) ⟨Gx.new nD, hR3.gr (Gx.new nD), [], rfl, fun x hx => by simp at hx, upd_same⟩ (fun j H5 hj q => ?_) (fun H5 q' => ?_)
        · obtain ⟨g5, hR5, ps, pl, pv', hD⟩ := q
          refine ⟨rfl, yesT ⟨.ref r, rfl, .int n, rfl, r, c, n, rfl, hR5, by omega, by omega, fun y H6 hy0 hy1 g6 hR6 => ?_⟩⟩
          obtain ⟨yn, rfl⟩ := Int.eq_ofNat_of_zero_le hy0
          have hD6 := g6.at (fun z => nDr (List.mem_singleton.mp z)) hD fun _ z => by cases z
          refine ⟨_, hD6, ?_, (g5.trans g6).wr nD, rowst_wr hR6 nDr nDc, ps ++ [yn], by rw [List.length_append, pl]; rfl, fun z hz => ?_, ?_⟩
          · rw [List.length_map, List.length_map]
            exact small1000 (by omega)
          · rcases List.mem_append.mp hz with hz | hz
            · exact pv' z hz
            · rw [List.mem_singleton.mp hz]
              omega
          · show _ = some (HO.lst (((ps ++ [yn]).map fun (p : Nat) => (p : Int)).map V.int))
            rw [upd_same, List.map_append, List.map_append]
            rfl
        · obtain ⟨g5, hR5, ps, pl, pv', hD⟩ := q'
          have L5 := LD.gxr g5 hR3.ls nfr L3
          refine ⟨D, _, rfl, .inl ⟨.inl (.inl hD), fun l5 nl5 => ?_⟩⟩
          have g6 : Gr H5 (upd H5 l5 (.tup ((nat2 ps).map V.int))) := Gx.new nl5
          have h6 : (upd H5 l5 (.tup ((nat2 ps).map V.int))) l5 = some (.tup ((nat2 ps).map V.int)) := upd_same
          have L6 := LD.gr g6 L5
          have hR6 := hR5.gr g6
          have g06 := TK.Gx.thn (g03.trans g5) g6
          generalize upd H5 l5 (.tup ((nat2 ps).map V.int)) = H6 at *
          obtain ⟨zs, hz, hzs⟩ := id L6
          refine ⟨.ref pf, rfl, .inl ⟨rfl, _, .inl (.inl hz)⟩, .int which, rfl, .ref l5, rfl, .ref r, rfl, .int weight, rfl, r, c, weight, rfl, hR6, by omega, by omega, fun wt H7 ht0 ht1 g7 hR7 => ⟨_, _, rfl, rfl, by show 3 ≤ sizeLine; decide, fun t nt => ?_⟩⟩
          have L7 := LD.gxr g7 hR6.ls nfr L6
          have h7 := Gx.tupS g7 hR6.ls h6
          have g8 : Gr H7 (upd H7 t (.tup [.int which, .ref l5, .int (1 + wt)])) := Gx.new nt
          have dt : DT K (upd H7 t (.tup [.int which, .ref l5, .int (1 + wt)])) (.ref t) (termD (which, ps, 1 + wt)) := .mk upd_same (.cons (.int _) (.cons (.row (Gx.tupS g8 .nil h7)) (.one (.int _))))
          obtain ⟨qs, hq, hqs⟩ := LD.gr g8 L7
          have hR8 := hR7.gr g8
          have g08 := TK.Gx.thn (g06.trans g7) g8
          have ql : qs.length = i := by rw [hqs.1, List.length_map, tl]
          have em : (fun i j => V.int (i + j)) 1 wt = V.int (1 + wt) := rfl
          rw [em]
          generalize upd H7 t (.tup [.int which, .ref l5, .int (1 + wt)]) = H8 at *
          refine ⟨pf, qs, .ref t, rfl, rfl, hq, small1000 (by omega), ?_⟩
          refine ⟨_, _, _, ts ++ [(which, ps, 1 + wt)], rfl, g08.wr npf, rowst_wr hR8 nfr nfc, ⟨_, upd_same, ?_⟩, by rw [List.length_append, tl]; rfl, fun t' ht => ?_⟩
          · rw [List.map_append]
            exact (hqs.wr hq).app (.one (DT.wr hq dt))
          · rcases List.mem_append.mp ht with ht | ht
            · exact ok t' ht
            · rw [List.mem_singleton.mp ht]
              exact ⟨ix, by show ps.length = (fs.getD which (0, [])).1; omega, pv', by show 1 ≤ 1 + wt; omega, by show 1 + wt ≤ 2000000; omega⟩
      · obtain ⟨y6, y7, y8, ts, rfl, g, hR', L, tl, ok⟩ := hp
        exact fin ts _ _ _ _ H' g hR' L ⟨hn, by omega, ok⟩
    · exact fin [] _ _ _ _ H1 g1.x hR1 L1 ⟨hn, by simp, fun t ht => by simp at ht⟩
end K82

set_option Elab.async false
set_option linter.all false
set_option maxRecDepth 100000
set_option maxHeartbeats 4000000
namespace K82
open PySem PySem.Spec PyProof.Rows L2 TK MR
variable {P : Program} {w : World} {K : PySem.W.Frag} {mg : Str → Option Value} {base : Heap}
/-! _law_total -/
def sp_law_total (K : PySem.W.Frag) : Sp := fun vs H Q _ => ∃ (sz n : Nat) (v u x : V) (fs : List CF) (ts : List TmC) (row : List Int), vs = [v, u, x] ∧ DT K H v (costsD sz fs) ∧ CostsOk sz fs ∧ DT K H u (instD n ts) ∧ TermsOk fs n ts ∧ DT K H x (rowD row) ∧ row.length = n ∧ (∀ x ∈ row, 0 ≤ x ∧ x < (sz : Int)) ∧
  ∀ H', Gr H H' → Q (.int (tot sz fs ts row)) H'
theorem ok_law_total (T : Txt K mg base) : FnOk P w K mg base CX0 1 T.law_total.f T.law_total.fd p_law_total (sp_law_total K) := by
  refine T.law_total.F.ok sc_law_total (fun vs H Q E h => ?_) (fun A outer s H vs Q E hr h => ?_)
  · obtain ⟨_, _, _, _, _, _, _, _, rfl, _⟩ := h
    rfl
  · obtain ⟨sz, n, v, u, x, fs, ts, row, rfl, hv, C, hu, O, hx, rl, val, q⟩ := h
    refine ⟨_, (pss_cons (ps_set (i := 3) sc_law_total.nd rfl (by first | exact .inl rfl | exact .inr rfl) pe_int) (pss_cons (ps_for PassesOwn.never rfl (pi_tupK K (pe_ix (ix_tupK K) (pv 1) pe_int (fun _ _ => rfl))) (pg_tup (by rfl) (pgs_cons (pg_name (i := 4) sc_law_total.nd rfl (by first | exact .inl rfl | exact .inr rfl)) (pgs_cons (pg_name (i := 5) sc_law_total.nd rfl (by first | exact .inl rfl | exact .inr rfl)) (pgs_cons (pg_name (i := 6) sc_law_total.nd rfl (by first | exact .inl rfl | exact .inr rfl)) pgs_nil))))
        (pss_cons (ps_set (i := 7) sc_law_total.nd rfl (by first | exact .inl rfl | exact .inr rfl) pe_int) (pss_cons (ps_for PassesOwn.never rfl (pi_tupK K (pv 5)) (pg_name (i := 8) sc_law_total.nd rfl (by first | exact .inl rfl | exact .inr rfl))
            (pss_one (ps_set (i := 7) sc_law_total.nd rfl (by first | exact .inl rfl | exact .inr rfl) (pe_op op_add (pe_op op_mul (pv 7) (pe_ix (ix_tupK K) (pv 0) pe_int (fun _ _ => rfl))) (pe_ix (ix_tupK K) (pv 2) (pv 8) (fun _ _ => rfl)))))) (pss_one (ps_set (i := 3) sc_law_total.nd rfl (by first | exact .inl rfl | exact .inr rfl) (pe_op op_add (pv 3) (pe_op op_mul (pv 6) (pe_ix (ix_tupK K) (pe_ix (ix_tupK K) (pe_ix (ix_tupK K) (pe_ix (ix_tupK K) (pv 0) pe_int (fun _ _ => rfl)) (pv 4) (fun _ _ => rfl)) pe_int (fun _ _ => rfl)) (pv 7) (fun _ _ => rfl))))))))) (pss_one (ps_ret (pv 3))))), ?_⟩
    have C1 := C.s1
    have C3 := C.s3
    refine ixp1 rfl hu fun b us hb hus => ⟨b, rfl, ⟨_, .inl (.inl hb)⟩, ?_⟩
    have ul : us.length = ts.length := by rw [hus.1, List.length_map]
    refine for_tup (K := K) (a := b) (xs := us) (fun i σ H' => ∃ y4 y5 y6 y7 y8, σ = [some v, some u, some x, some (.int (tot sz fs (ts.take i) row)), y4, y5, y6, y7, y8] ∧ H' = H)
      ⟨none, none, none, none, none, rfl, rfl⟩ (fun i σ H' _ hp => by
        obtain ⟨_, _, _, _, _, _, rfl⟩ := hp
        exact .inl (.inl hb)) (fun i y σ H' ex hp => ?_) (fun σ H' hp => ?_)
    · obtain ⟨y4, y5, y6, y7, y8, rfl, rfl⟩ := hp
      obtain ⟨d, ed, dx⟩ := hus.at' ex
      rw [List.getElem?_map] at ed
      obtain ⟨t, et, rfl⟩ := Option.map_eq_some_iff.mp ed
      have Ot := O.ok t (List.mem_of_getElem? et)
      have ix := Ot.ix
      have F := C.ok (fs.getD t.1 (0, [])) (List.mem_of_getElem? (costs_at ix))
      have el := Ot.len
      have fa2 := F.a2
      obtain ⟨p, tb, rfl, hp, htb⟩ := term_inv dx
      refine ⟨p, _, rfl, .inl (.inl hp), rfl, .int t.1, [.ref tb, .int t.2.2], rfl, .ref tb, [.int t.2.2], rfl, .int t.2.2, [], rfl, rfl, ?_⟩
      refine ⟨.ref tb, rfl, tb, rfl, ⟨_, .inl (.inl htb)⟩, ?_⟩
      refine for_tup (K := K) (a := tb) (xs := (nat2 t.2.1).map V.int) (fun j σ H2 => ∃ y8, σ = [some v, some u, some x, some (.int (tot sz fs (ts.take i) row)), some (.int t.1), some (.ref tb), some (.int t.2.2), some (.int (idxI sz (pk (t.2.1.take j) row))), y8] ∧ H2 = H')
        ⟨y8, rfl, rfl⟩ (fun j σ H2 _ hp => by
          obtain ⟨_, _, rfl⟩ := hp
          exact .inl (.inl htb)) (fun j z σ H2 ez hp => ?_) (fun σ H2 hp => ?_)
      · obtain ⟨y8, rfl, rfl⟩ := hp
        rw [List.getElem?_map, List.getElem?_map] at ez
        obtain ⟨zi, ezi, rfl⟩ := Option.map_eq_some_iff.mp ez
        obtain ⟨pl, ep, rfl⟩ := Option.map_eq_some_iff.mp ezi
        have hpl := Ot.sc pl (List.mem_of_getElem? ep)
        have hb' := idxI_bd (sz := sz) (pk (t.2.1.take j) row) (pk_ok val C1)
        have hp256 : (sz : Int) ^ (pk (t.2.1.take j) row).length ≤ 256 := by
          have h1 : sz ^ (pk (t.2.1.take j) row).length ≤ 256 := pow256 (by omega) (by rw [pk_len, List.length_take]; omega)
          rw [← Int.natCast_pow]
          omega
        refine ⟨_, rfl, ixp0 rfl hv ⟨_, sz, rfl, rfl, .inl ⟨by omega, by omega⟩, x, rfl, .int (pl : Int), rfl, row_ix hx rfl (by omega) ⟨_, _, rfl, rfl, ?_⟩⟩⟩
        refine ⟨some (.int (pl : Int)), ?_, rfl⟩
        have e : idxI sz (pk (t.2.1.take (j + 1)) row) = idxI sz (pk (t.2.1.take j) row) * sz + row.getD pl 0 := by
          rw [List.take_add_one, ep]
          show idxI sz (pk (t.2.1.take j ++ [pl]) row) = _
          unfold pk
          rw [List.map_append]
          exact idxI_app ..
        rw [e]
        rfl
      · obtain ⟨y8, rfl, rfl⟩ := hp
        rw [List.length_map, List.length_map, List.take_length]
        have kl : (pk t.2.1 row).length = (fs.getD t.1 (0, [])).1 := by rw [pk_len, Ot.len]
        have kv := pk_ok (sz := sz) (ps := t.2.1) val C1
        refine ⟨_, rfl, .int t.2.2, rfl, ixp1 rfl hv fun b1 xs hb1 hx1 => ?_⟩
        obtain ⟨y, ey, dy⟩ := fn_at hb1 hx1 ix
        obtain ⟨oa, ob, rfl, ho1, ho2⟩ := DT.op_inv dy
        refine ⟨.int t.1, rfl, b1, xs, (t.1 : Int), .ref oa, rfl, rfl, .inl (.inl hb1), atI_nat ey, oa, _, 1, _, rfl, rfl, ho1, atI_nat (j := 1) rfl, ?_⟩
        refine ⟨_, rfl, ob, _, _, _, rfl, rfl, ho2, tab_at F kv kl, t.2.2, _, rfl, rfl, .inl ⟨by have := Ot.w1; omega, by have := Ot.w2; omega⟩, _, _, rfl, rfl, ?_⟩
        refine ⟨some (.int t.1), some (.ref tb), some (.int t.2.2), some (.int (idxI sz (pk t.2.1 row))), y8, ?_, rfl⟩
        rw [List.take_add_one, et]
        show _ = [_, _, _, some (V.int (tot sz fs (ts.take i ++ [t]) row)), _, _, _, _, _]
        rw [tot_snoc]
        rfl
    · obtain ⟨y4, y5, y6, y7, y8, rfl, rfl⟩ := hp
      rw [ul, List.take_length]
      exact ⟨_, rfl, q _ .refl⟩
/-! _law_least -/
theorem best_snoc (f : List Int → Int) (a : List Int) (l : List (List Int)) (y : List Int) : best f a (l ++ [y]) = if f y < f (best f a l) then y else best f a l := by
  unfold best
  rw [List.foldl_append]
  rfl
/-- the best of the rows so far -/
def bestD (f : List Int → Int) (l : List (List Int)) : PyData := match l with
  | [] => .none
  | a :: l => costD (f (best f a l)) (best f a l)
theorem leastR_snoc (f : List Int → Int) {l : List (List Int)} (h : l ≠ []) (y : List Int) : leastR f (l ++ [y]) = if f y < f (leastR f l) then y else leastR f l := by
  cases l with
  | nil => exact absurd rfl h
  | cons a l => exact best_snoc f a l y
theorem leastR_mem {f : List Int → Int} {l : List (List Int)} (h : l ≠ []) : leastR f l ∈ l := by
  cases l with
  | nil => exact absurd rfl h
  | cons a l => exact best_mem f l a
def sp_law_least (K : PySem.W.Frag) : Sp := fun vs H Q _ => ∃ (sz n : Nat) (v u : V) (fs : List CF) (ts : List TmC), vs = [v, u] ∧ DT K H v (costsD sz fs) ∧ CostsOk sz fs ∧ DT K H u (instD n ts) ∧ TermsOk fs n ts ∧ sz ^ n ≤ 256 ∧
  ∀ z H', Gr H H' → DT K H' z (costD (tot sz fs ts (leastR (tot sz fs ts) (allRows sz n))) (leastR (tot sz fs ts) (allRows sz n))) → Q z H'
theorem ok_law_least (T : Txt K mg base) : FnOk P w K mg base CX0 2 T.law_least.f T.law_least.fd p_law_least (sp_law_least K) := by
  refine T.law_least.F.ok sc_law_least (fun vs H Q E h => ?_) (fun A outer s H vs Q E hr h => ?_)
  · obtain ⟨_, _, _, _, _, _, rfl, _⟩ := h
    rfl
  · obtain ⟨sz, n, v, u, fs, ts, rfl, hv, C, hu, O, h256, q⟩ := h
    refine ⟨_, (pss_cons (ps_set (i := 2) sc_law_least.nd rfl (by first | exact .inl rfl | exact .inr rfl) pe_non) (pss_cons (ps_for PassesOwn.never rfl (pi_listK K (pe_call (ok_law_rowsX T) hr (by rfl) T.law_rows.g T.law_rows.F.kp T.law_rows.b .nil pass0 (pa_cons (pe_ix (ix_tupK K) (pv 0) pe_int (fun _ _ => rfl)) (pa_cons (pe_ix (ix_tupK K) (pv 1) pe_int (fun _ _ => rfl)) pa_nil)))) (pg_name (i := 3) sc_law_least.nd rfl (by first | exact .inl rfl | exact .inr rfl))
        (pss_cons (ps_set (i := 4) sc_law_least.nd rfl (by first | exact .inl rfl | exact .inr rfl) (pe_call (ok_law_total T) hr (by rfl) T.law_total.g T.law_total.F.kp T.law_total.b .nil pass0 (pa_cons (pv 0) (pa_cons (pv 1) (pa_cons (pv 3) pa_nil))))) (pss_one (ps_if (PW.pt (pw_or (pt_cmpR op_isN (pv 2) pe_non (nomark _)) (pw_or1 (pt_cmpR op_lt (pv 4) (pe_ix (ix_tupK K) (pv 2) pe_int (fun _ _ => rfl)) (nomark _))))) (pss_one (ps_set (i := 2) sc_law_least.nd rfl (by first | exact .inl rfl | exact .inr rfl) (pe_tup (pa_cons (pv 4) (pa_cons (pv 3) pa_nil))))) pss_nil)))) (pss_one (ps_ret (pv 2))))), ?_⟩
    have C1 := C.s1
    have C3 := C.s3
    have n8 := O.n8
    refine ixp0 rfl hv (ixp0 rfl hu ⟨sz, n, rfl, C1, by omega, n8, h256, fun p H1 g1 np hL => ?_⟩)
    obtain ⟨rs, hp, hrs⟩ := hL
    have rl : rs.length = (allRows sz n).length := by rw [hrs.1, List.length_map]
    refine ⟨p, rfl, ⟨rs, .inl (.inl hp)⟩, ?_⟩
    refine for_list (K := K) (a := p) (xs := rs) (fun i σ H' => ∃ z y3 y4, σ = [some v, some u, some z, y3, y4] ∧ Gr H1 H' ∧ (i = 0 → z = .non) ∧ (0 < i → DT K H' z (costD (tot sz fs ts (leastR (tot sz fs ts) ((allRows sz n).take i))) (leastR (tot sz fs ts) ((allRows sz n).take i)))))
      ⟨.non, none, none, rfl, .refl, fun _ => rfl, fun h => absurd h (Nat.lt_irrefl 0)⟩ (fun i σ H' _ hp' => by
        obtain ⟨_, _, _, _, g, _⟩ := hp'
        exact .inl (.inl (Gx.lst g hp))) (fun i x σ H' ex hp' => ?_) (fun σ H' hp' => ?_)
    · obtain ⟨z, y3, y4, rfl, g, z0, z1⟩ := hp'
      obtain ⟨d, ed, dx⟩ := hrs.at' ex
      rw [List.getElem?_map] at ed
      obtain ⟨row, er, rfl⟩ := Option.map_eq_some_iff.mp ed
      obtain ⟨ql, qv⟩ := allRows_ok (List.mem_of_getElem? er)
      have g01 := TK.Gx.trans g1 g
      refine ⟨v, rfl, u, rfl, x, rfl, sz, n, v, u, x, fs, ts, row, rfl, hv.gr g01, C, hu.gr g01, O, dx.gr g, ql, qv, fun H2 g2 => ?_⟩
      have g02 := TK.Gx.trans g g2
      have dx2 := dx.gr g02
      have tk : (allRows sz n).take (i + 1) = (allRows sz n).take i ++ [row] := by rw [List.take_add_one, er]; rfl
      by_cases hi : i = 0
      · subst hi
        have ez := z0 rfl
        subst ez
        refine ⟨.non, rfl, rfl, _, rfl, ?_⟩
        rw [show decide (V.non = V.non) = true by simp]
        refine iteT (iteT ⟨_, rfl, x, rfl, by show 2 ≤ sizeLine; decide, fun t nt => ?_⟩)
        have gt : Gr H2 (upd H2 t (.tup [.int (tot sz fs ts row), x])) := Gx.new nt
        refine ⟨_, _, _, rfl, TK.Gx.trans g02 gt, fun h => by omega, fun _ => ?_⟩
        rw [tk]
        exact .mk upd_same (.cons (.int _) (.one (dx2.gr gt)))
      · have dz := (z1 (by omega)).gr g2
        obtain ⟨za, zb, rfl, hza, hzb⟩ := cost_inv dz
        have tne : (allRows sz n).take i ≠ [] := fun e => by
          have h1 := congrArg List.length e
          have h2 := (List.getElem?_eq_some_iff.mp er).1
          rw [List.length_take, List.length_nil] at h1
          omega
        refine ⟨.ref za, rfl, rfl, _, rfl, ?_⟩
        rw [show decide (V.ref za = V.non) = false by simp]
        refine iteF ⟨_, rfl, ixp0 rfl dz ⟨_, _, rfl, rfl, _, rfl, ite2 (fun h => ?_) (fun h => ?_)⟩⟩
        · have h := of_decide_eq_true h
          refine ⟨_, rfl, x, rfl, by show 2 ≤ sizeLine; decide, fun t nt => ?_⟩
          have gt : Gr H2 (upd H2 t (.tup [.int (tot sz fs ts row), x])) := Gx.new nt
          refine ⟨_, _, _, rfl, TK.Gx.trans g02 gt, fun h => by omega, fun _ => ?_⟩
          rw [tk, leastR_snoc _ tne, if_pos h]
          exact .mk upd_same (.cons (.int _) (.one (dx2.gr gt)))
        · have h : ¬ tot sz fs ts row < tot sz fs ts (leastR (tot sz fs ts) ((allRows sz n).take i)) := fun z => h (decide_eq_true z)
          refine ⟨_, _, _, rfl, g02, fun h => by omega, fun _ => ?_⟩
          rw [tk, leastR_snoc _ tne, if_neg h]
          exact dz
    · obtain ⟨z, y3, y4, rfl, g, z0, z1⟩ := hp'
      have pos : 0 < rs.length := by
        rw [rl, allRows_len]
        exact Nat.pow_pos C1
      have dz := z1 pos
      rw [rl, List.take_length] at dz
      exact ⟨z, rfl, q z H' (TK.Gx.trans g1 g) dz⟩
/-! the law -/
theorem pow_bd {sz n : Nat} (h : (sz ≤ 2 ∧ n ≤ 6) ∨ (sz ≤ 3 ∧ n ≤ 4)) : sz ^ n ≤ 256 := by
  rcases h with ⟨h1, h2⟩ | ⟨h1, h2⟩
  · exact Nat.le_trans (Nat.pow_le_pow_left h1 n) (Nat.le_trans (Nat.pow_le_pow_right (by decide) h2) (by decide))
  · exact Nat.le_trans (Nat.pow_le_pow_left h1 n) (Nat.le_trans (Nat.pow_le_pow_right (by decide) h2) (by decide))
theorem it_cost (c : Int) (r : List Int) (h : r.length ≤ 1000) : IT 4 (costD c r) := ⟨by show 2 ≤ 1000; omega, fun e he => by
  simp only [List.mem_cons, List.not_mem_nil, or_false] at he
  rcases he with rfl | rfl
  · exact trivial
  · exact ⟨by rw [List.length_map]; exact h, fun e he => by
      obtain ⟨i, _, rfl⟩ := List.mem_map.mp he
      exact trivial⟩⟩
def sp_law (T : Txt K mg base) : Sp := fun vs H Q _ => ∃ (c : Addr) (ns : List Int), vs = [.ref c] ∧ SqL K H c (ns.map V.int) ∧ (H c ≠ none ∨ SqL K (fun _ => none) c (ns.map V.int)) ∧ TT T.tabs H ∧ ∀ H', Q (.bl true) H'
theorem ok_law (T : Txt K mg base) : FnOk P w K mg base CX0 8 T.law.f T.law.fd p_law (sp_law T) := by
  refine T.law.F.ok sc_law (fun vs H Q E h => ?_) (fun A outer s H vs Q E hr h => ?_)
  · obtain ⟨_, _, rfl, _⟩ := h
    rfl
  · obtain ⟨c, ns, rfl, hS, hc, hT, q⟩ := h
    refine ⟨_, (pss_cons (ps_set (i := 1) sc_law.nd rfl (by first | exact .inl rfl | exact .inr rfl) (pe_lst (pa_cons (pv 0) (pa_cons (pe_int) (pa_cons (pe_int) (pa_cons (pe_int) pa_nil)))))) (pss_cons (ps_set (i := 2) sc_law.nd rfl (by first | exact .inl rfl | exact .inr rfl) (pe_op op_add pe_int (pe_call (ok_law_taken T) (hr.mono (by decide)) (by rfl) T.law_taken.g T.law_taken.F.kp T.law_taken.b .nil pass0 (pa_cons (pv 1) (pa_cons (pe_int) pa_nil))))) (pss_cons (ps_set (i := 3) sc_law.nd rfl (by first | exact .inl rfl | exact .inr rfl) (pe_call (ok_law_costs T) (hr.mono (by decide)) (by rfl) T.law_costs.g T.law_costs.F.kp T.law_costs.b .nil pass0 (pa_cons (pv 1) (pa_cons (pv 2) (pa_cons (pe_int) (pa_cons ((pe_call (ok_law_pick T) (hr.mono (by decide)) (by rfl) T.law_pick.g T.law_pick.F.kp T.law_pick.b .nil pass0 (pa_cons (pv 1) (pa_cons (pe_lst (pa_cons (pe_int) (pa_cons (pe_int) (pa_cons (pe_int) (pa_cons (pe_int) pa_nil))))) pa_nil)))) pa_nil)))))) (pss_cons (ps_set (i := 4) sc_law.nd rfl (by first | exact .inl rfl | exact .inr rfl) (pe_call (ok_law_terms T) (hr.mono (by decide)) (by rfl) T.law_terms.g T.law_terms.F.kp T.law_terms.b .nil pass0 (pa_cons (pv 1) (pa_cons (pv 3) (pa_cons ((pe_call (ok_law_taken T) (hr.mono (by decide)) (by rfl) T.law_taken.g T.law_taken.F.kp T.law_taken.b .nil pass0 (pa_cons (pv 1) (pa_cons (pe_ifExp (pt_cmpR op_lt (pv 2) pe_int (nomark _)) pe_int pe_int) pa_nil)))) (pa_cons (pe_int) (pa_cons ((pe_call (ok_law_pick T) (hr.mono (by decide)) (by rfl) T.law_pick.g T.law_pick.F.kp T.law_pick.b .nil pass0 (pa_cons (pv 1) (pa_cons (pe_lst (pa_cons (pe_int) (pa_cons (pe_int) (pa_cons (pe_int) pa_nil)))) pa_nil)))) pa_nil))))))) (pss_one (ps_ret (pe_call (ok_law_alike T 4) (hr.mono (by decide)) (by rfl) T.law_alike.g T.law_alike.F.kp T.law_alike.b .nil pass0 (pa_cons ((pe_call (ok_least_cost T) hr (by rfl) T.least_cost.g T.least_cost.F.kp T.least_cost.b .nil pass0 (pa_cons (pv 3) (pa_cons (pv 4) pa_nil)))) (pa_cons ((pe_call (ok_law_least T) (hr.mono (by decide)) (by rfl) T.law_least.g T.law_least.F.kp T.law_least.b .nil pass0 (pa_cons (pv 3) (pa_cons (pv 4) pa_nil)))) pa_nil))))))))), ?_⟩
    refine ⟨.ref c, rfl, by show 4 ≤ sizeLine; decide, fun r nr => ?_⟩
    have hcr : Sep K c r ns := hc.imp_left fun h z => h (by rw [z]; exact nr)
    have g1 : Gr H (upd H r (.lst [.ref c, .int 0, .int 3282, .int 0])) := Gx.new nr
    have hR1 : RowSt K (upd H r (.lst [.ref c, .int 0, .int 3282, .int 0])) r c := ⟨ns, 0, 3282, 0, upd_same, seqL_upd hS hcr, hcr, by omega, by omega, by omega⟩
    have hc1 := Lv.gx g1.x hR1 (show Lv K H c from hc.imp_right fun h => ⟨ns, h⟩)
    have hT1 := g1.tt hT
    generalize upd H r (.lst [.ref c, .int 0, .int 3282, .int 0]) = H1 at *
    refine ⟨.ref r, rfl, r, c, 3, rfl, hR1, by omega, by omega, fun x H2 hx0 hx1 g2 hR2 => ⟨_, _, rfl, rfl, ?_⟩⟩
    obtain ⟨sz, esz⟩ := nat_add1 hx0
    dsimp only
    rw [esz]
    have hsz : 1 ≤ sz ∧ sz ≤ 3 := by omega
    -- costs
    refine ⟨.ref r, rfl, .int sz, rfl, .ref r, rfl, by show 4 ≤ sizeLine; decide, fun pl npl => ?_⟩
    have g3 : Gr H2 (upd H2 pl (.lst [.int 2, .int 4, .int 20, .int 1001])) := Gx.new npl
    have hpl : (upd H2 pl (.lst [.int 2, .int 4, .int 20, .int 1001])) pl = some (.lst [.int 2, .int 4, .int 20, .int 1001]) := upd_same
    have hR3 := hR2.gr g3
    have npr := lst_nr hR2 npl
    generalize upd H2 pl (.lst [.int 2, .int 4, .int 20, .int 1001]) = H3 at *
    refine ⟨r, c, pl, _, rfl, hR3, .inl (.inl hpl), npr, by decide, by decide, fun j v4 H4 ej g4 hR4 => ?_⟩
    obtain ⟨mo, rfl, hmo⟩ : ∃ mo : Int, v4 = .int mo ∧ 1 ≤ mo ∧ mo ≤ 1001 := by
      have := List.mem_of_getElem? ej
      simp only [List.mem_cons, List.not_mem_nil, or_false] at this
      rcases this with rfl | rfl | rfl | rfl
      · exact ⟨2, rfl, by decide, by decide⟩
      · exact ⟨4, rfl, by decide, by decide⟩
      · exact ⟨20, rfl, by decide, by decide⟩
      · exact ⟨1001, rfl, by decide, by decide⟩
    have g14 : Gx [r] H1 H4 := (TK.Gx.thn g2 g3).trans g4
    have hc4 := Lv.gx g14 hR4 hc1
    refine ⟨r, c, sz, 4, mo, rfl, hR4, hc4, hsz, by omega, hmo, fun v3 fs H5 g5 hR5 dv C fne => ?_⟩
    have g15 := g14.trans g5
    -- instance
    refine ⟨.ref r, rfl, v3, rfl, .ref r, rfl, .int sz, rfl, sz, 3, rfl, rfl, _, rfl, ite2 (fun h => ⟨r, c, 7, rfl, hR5, by omega, by omega, fun y H6 hy0 hy1 g6 hR6 => ?_⟩) (fun h => ⟨r, c, 5, rfl, hR5, by omega, by omega, fun y H6 hy0 hy1 g6 hR6 => ?_⟩)⟩
    all_goals
      obtain ⟨n, rfl⟩ := Int.eq_ofNat_of_zero_le hy0
      have hb : (sz ≤ 2 ∧ n ≤ 6) ∨ (sz ≤ 3 ∧ n ≤ 4) := by
        first
          | (have h' := of_decide_eq_true h; omega)
          | omega
      refine ⟨.ref r, rfl, by show 3 ≤ sizeLine; decide, fun p2 np2 => ?_⟩
      have g7 : Gr H6 (upd H6 p2 (.lst [.int 1, .int 3, .int 1000000])) := Gx.new np2
      have hp2 : (upd H6 p2 (.lst [.int 1, .int 3, .int 1000000])) p2 = some (.lst [.int 1, .int 3, .int 1000000]) := upd_same
      have hR7 := hR6.gr g7
      have np2r := lst_nr hR6 np2
      generalize upd H6 p2 (.lst [.int 1, .int 3, .int 1000000]) = H7 at *
      refine ⟨r, c, p2, _, rfl, hR7, .inl (.inl hp2), np2r, by decide, by decide, fun j v8 H8 ej g8 hR8 => ?_⟩
      obtain ⟨we, rfl, hwe⟩ : ∃ we : Int, v8 = .int we ∧ 1 ≤ we ∧ we ≤ 1000000 := by
        have := List.mem_of_getElem? ej
        simp only [List.mem_cons, List.not_mem_nil, or_false] at this
        rcases this with rfl | rfl | rfl
        · exact ⟨1, rfl, by decide, by decide⟩
        · exact ⟨3, rfl, by decide, by decide⟩
        · exact ⟨1000000, rfl, by decide, by decide⟩
      have g58 : Gx [r] H5 H8 := (TK.Gx.thn g6 g7).trans g8
      have hc8 := Lv.gx (g15.trans g58) hR8 hc1
      refine ⟨r, c, sz, n, 9, we, v3, fs, rfl, hR8, hc8, by omega, by omega, hwe, dv.gx g58 hR5.ls, C, fne, fun u4 ts H9 g9 hR9 du O => ?_⟩
      have g59 := g58.trans g9
      have dv9 := dv.gx g59 hR5.ls
      have hT9 := Gx.ttS (g15.trans g59) hR1.ls hT1
      refine ⟨v3, rfl, u4, rfl, sz, n, v3, u4, fs, ts, rfl, dv9, C, du, O, pow_bd hb, hT9, fun z H10 g10 dz => ?_⟩
      refine ⟨v3, rfl, u4, rfl, sz, n, v3, u4, fs, ts, rfl, dv9.gr g10, C, du.gr g10, O, pow_bd hb, fun z2 H11 g11 dz2 => ?_⟩
      refine ⟨z, z2, _, rfl, dz.gr g11, dz2, it_cost _ _ ?_, fun H12 _ => q H12⟩
      have ne : allRows sz n ≠ [] := fun e => by
        have h1 := allRows_len sz n
        rw [e, List.length_nil] at h1
        have := Nat.pow_pos (n := n) (show 0 < sz by omega)
        omega
      have := (allRows_ok (leastR_mem (f := tot sz fs ts) ne)).1
      omega
end K82

set_option Elab.async false
set_option linter.all false
set_option maxRecDepth 100000
set_option maxHeartbeats 4000000
namespace K82
open PySem PySem.Spec PyProof.Rows L2 TK MR
/-- walk_ofTs, with the empty tables of the defs of these names -/
theorem walk_ofAll {l : PySem.W.OpenLaw} {n k : Nat} {q : Program} {loose : List Str} {XP : (Str → Option Value) → Heap → Prop} {YP : World → Heap → Prop} {d : DefRec} {K : Params → PySem.W.Frag} {CX : World → CXT} {x : Str} (names : List Str)
    (hn : l.most = some n) (hn2 : n ≤ sizeLine) (hdf : d.params.defaults = []) (hr : Room k callerA) (hrec : (names.all fun y => (recsOf q).any fun e => e.name == y) = true) (hY : ∀ (w : World) (h : Heap), YP w h → (K w.params).In h)
    (F : ∀ (w : World) (mg : Str → Option Value) (fa : Addr) (h : Heap), YP w h → (K w.params).In h → h.Ns mainGlobals mg → mg d.name = some (.ref fa) → (∀ y ∈ names, ∀ fb, mg y = some (.ref fb) → LamX.OwnTab (K w.params) fb h) → LamX.LawAtS l w (K w.params) (CX w) k n x mg fa h)
    (hCX : ∀ (w : World) (H : Hp) (s : Shared) (e : Value) (s' : Shared), CX w [] H s (fun _ _ _ => False) e s' → False) :
    PySem.W.WalkO q loose XP YP l.row.toRowW d [] (fun f vs => PySem.call f vs) := by
  refine Att.attach_callB hn hdf fun w s₀ s₁ mg mb fa o pm cd doc a vs ns G Y ho hd hcd hmg hobj hints hlen hbits hg => ?_
  have KX := hY w _ Y
  have own : ∀ y ∈ names, ∀ fb, mg y = some (.ref fb) → LamX.OwnTab (K w.params) fb s₁.heap := fun y hy fb hfb c P o1 fd1 e dd vs1 sl k1 k2 k3 k4 k5 => by
    obtain ⟨dL, hm, hn1⟩ := List.any_eq_true.mp (List.all_eq_true.mp hrec y hy)
    have hn2 : dL.name = y := beq_iff_eq.mp hn1
    obtain ⟨a', o', fd', c', P', h1, h2, h3, h4, h5, h6⟩ := G.T.tab dL hm
    rw [hn2, hfb] at h1
    cases h1
    have g1 := KX _ _ k1
    rw [g1] at h2
    cases h2
    rw [k2] at h3
    cases h3
    rw [k3] at h4
    cases h4
    obtain ⟨⟨oc, vc, e1, _, e3, e4⟩, hP⟩ := h6
    have g2 := KX _ _ k4
    rw [g2] at e1
    cases e1
    cases e3
    rw [k5] at e4
    cases e4
    exact hP
  obtain ⟨fd, cs, sp, hT, nT, C, hb, hsp, hF⟩ := F w mg fa _ Y KX G.T.g hmg own
  exact LamX.law_callTs KX G.T.g G.T.b G.T.builtins G.T.nolimit hg hT nT C G.T.bmain hobj hints (Nat.le_trans hlen hn2) hr hF hb (fun H hH hS => hsp H a ns hlen hbits hH hS) fun H e s' => hCX w H s₁ e s'

abbrev tabNames : List Str := ["are_places", "_is_cost_function"]
theorem law_at {l : PySem.W.OpenLaw} {w : World} {K : PySem.W.Frag} {h : Heap} {mg : Str → Option Value} {fa : Addr} (X : K.In h) (G : h.Ns mainGlobals mg) (hfa : mg "law" = some (.ref fa)) (own : ∀ y ∈ tabNames, ∀ fb, mg y = some (.ref fb) → LamX.OwnTab K fb h)
    {f0 c0 : Addr} {oc0 kV0 dc0 pm0 ct0 : Value} {od0 an0 : Option Addr} {sl0 : Array (Option Value)}
    {f1 c1 : Addr} {oc1 kV1 dc1 pm1 ct1 : Value} {od1 an1 : Option Addr} {sl1 : Array (Option Value)}
    {f2 c2 : Addr} {oc2 kV2 dc2 pm2 ct2 : Value} {od2 an2 : Option Addr} {sl2 : Array (Option Value)}
    {f3 c3 : Addr} {oc3 kV3 dc3 pm3 ct3 : Value} {od3 an3 : Option Addr} {sl3 : Array (Option Value)}
    {f4 c4 : Addr} {oc4 kV4 dc4 pm4 ct4 : Value} {od4 an4 : Option Addr} {sl4 : Array (Option Value)}
    {f5 c5 : Addr} {oc5 kV5 dc5 pm5 ct5 : Value} {od5 an5 : Option Addr} {sl5 : Array (Option Value)}
    {f6 c6 : Addr} {oc6 kV6 dc6 pm6 ct6 : Value} {od6 an6 : Option Addr} {sl6 : Array (Option Value)}
    {f7 c7 : Addr} {oc7 kV7 dc7 pm7 ct7 : Value} {od7 an7 : Option Addr} {sl7 : Array (Option Value)}
    {f8 c8 : Addr} {oc8 kV8 dc8 pm8 ct8 : Value} {od8 an8 : Option Addr} {sl8 : Array (Option Value)}
    {f9 c9 : Addr} {oc9 kV9 dc9 pm9 ct9 : Value} {od9 an9 : Option Addr} {sl9 : Array (Option Value)}
    {f10 c10 : Addr} {oc10 kV10 dc10 pm10 ct10 : Value} {od10 an10 : Option Addr} {sl10 : Array (Option Value)}
    {f11 c11 : Addr} {oc11 kV11 dc11 pm11 ct11 : Value} {od11 an11 : Option Addr} {sl11 : Array (Option Value)}
    {f12 c12 : Addr} {oc12 kV12 dc12 pm12 ct12 : Value} {od12 an12 : Option Addr} {sl12 : Array (Option Value)}
    {f13 c13 : Addr} {oc13 kV13 dc13 pm13 ct13 : Value} {od13 an13 : Option Addr} {sl13 : Array (Option Value)}
    {f14 c14 : Addr} {oc14 kV14 dc14 pm14 ct14 : Value} {od14 an14 : Option Addr} {sl14 : Array (Option Value)}
    {f15 c15 : Addr} {oc15 kV15 dc15 pm15 ct15 : Value} {od15 an15 : Option Addr} {sl15 : Array (Option Value)}
    {f16 c16 : Addr} {oc16 kV16 dc16 pm16 ct16 : Value} {od16 an16 : Option Addr} {sl16 : Array (Option Value)}
    {f17 c17 : Addr} {oc17 kV17 dc17 pm17 ct17 : Value} {od17 an17 : Option Addr} {sl17 : Array (Option Value)}
    {f18 c18 : Addr} {oc18 kV18 dc18 pm18 ct18 : Value} {od18 an18 : Option Addr} {sl18 : Array (Option Value)}
    {f19 c19 : Addr} {oc19 kV19 dc19 pm19 ct19 : Value} {od19 an19 : Option Addr} {sl19 : Array (Option Value)}
    {f20 c20 : Addr} {oc20 kV20 dc20 pm20 ct20 : Value} {od20 an20 : Option Addr} {sl20 : Array (Option Value)}
    {P4 : Addr} {e4 : Value} {dd4 : Option Addr} {vs4 : Array Value} {ss4 : Array (Option Value)}
    {P7 : Addr} {e7 : Value} {dd7 : Option Addr} {vs7 : Array Value} {ss7 : Array (Option Value)}
    {tMOST_VALUES : Tok}
    {tMOST_FUNCTIONS : Tok}
    {tMOST_PLACES : Tok}
    {tMOST_COST : Tok}
    {tMOST_VARIABLES : Tok}
    {tMOST_TERMS : Tok}
    (a0 : PySem.W.nsIn K mainGlobals "power_of" = some (some (.ref f0)))
    (l0 : K.lookup f0 = some ⟨oc0, od0, .func (PySem.W.fnOf "power_of" "power_of" (defArgs s_power_of) (defBody s_power_of) (defScope s_power_of) .none kV0 dc0 pm0 an0 (.ref c0) ct0), sl0⟩)
    (d0 : PySem.W.codeIn K (.ref c0) "power_of" = true)
    (k0 : PySem.W.keepIn K (.ref f0) = true)
    (a1 : PySem.W.nsIn K mainGlobals "is_integer" = some (some (.ref f1)))
    (l1 : K.lookup f1 = some ⟨oc1, od1, .func (PySem.W.fnOf "is_integer" "is_integer" (defArgs s_is_integer) (defBody s_is_integer) (defScope s_is_integer) .none kV1 dc1 pm1 an1 (.ref c1) ct1), sl1⟩)
    (d1 : PySem.W.codeIn K (.ref c1) "is_integer" = true)
    (k1 : PySem.W.keepIn K (.ref f1) = true)
    (a2 : PySem.W.nsIn K mainGlobals "is_positive" = some (some (.ref f2)))
    (l2 : K.lookup f2 = some ⟨oc2, od2, .func (PySem.W.fnOf "is_positive" "is_positive" (defArgs s_is_positive) (defBody s_is_positive) (defScope s_is_positive) .none kV2 dc2 pm2 an2 (.ref c2) ct2), sl2⟩)
    (d2 : PySem.W.codeIn K (.ref c2) "is_positive" = true)
    (k2 : PySem.W.keepIn K (.ref f2) = true)
    (a3 : PySem.W.nsIn K mainGlobals "is_tuple" = some (some (.ref f3)))
    (l3 : K.lookup f3 = some ⟨oc3, od3, .func (PySem.W.fnOf "is_tuple" "is_tuple" (defArgs s_is_tuple) (defBody s_is_tuple) (defScope s_is_tuple) .none kV3 dc3 pm3 an3 (.ref c3) ct3), sl3⟩)
    (d3 : PySem.W.codeIn K (.ref c3) "is_tuple" = true)
    (k3 : PySem.W.keepIn K (.ref f3) = true)
    (a4 : PySem.W.nsIn K mainGlobals "are_places" = some (some (.ref f4)))
    (l4 : K.lookup f4 = some ⟨oc4, od4, .func (PySem.W.fnOf "are_places" "are_places" (defArgs s_are_places) (defBody s_are_places) (defScope s_are_places) .none kV4 dc4 pm4 an4 (.ref c4) ct4), sl4⟩)
    (d4 : PySem.W.codeIn K (.ref c4) "are_places" = true)
    (k4 : PySem.W.keepIn K (.ref f4) = true)
    (a5 : PySem.W.nsIn K mainGlobals "position" = some (some (.ref f5)))
    (l5 : K.lookup f5 = some ⟨oc5, od5, .func (PySem.W.fnOf "position" "position" (defArgs s_position) (defBody s_position) (defScope s_position) .none kV5 dc5 pm5 an5 (.ref c5) ct5), sl5⟩)
    (d5 : PySem.W.codeIn K (.ref c5) "position" = true)
    (k5 : PySem.W.keepIn K (.ref f5) = true)
    (a6 : PySem.W.nsIn K mainGlobals "check_costs" = some (some (.ref f6)))
    (l6 : K.lookup f6 = some ⟨oc6, od6, .func (PySem.W.fnOf "check_costs" "check_costs" (defArgs s_check_costs) (defBody s_check_costs) (defScope s_check_costs) .none kV6 dc6 pm6 an6 (.ref c6) ct6), sl6⟩)
    (d6 : PySem.W.codeIn K (.ref c6) "check_costs" = true)
    (k6 : PySem.W.keepIn K (.ref f6) = true)
    (a7 : PySem.W.nsIn K mainGlobals "_is_cost_function" = some (some (.ref f7)))
    (l7 : K.lookup f7 = some ⟨oc7, od7, .func (PySem.W.fnOf "_is_cost_function" "_is_cost_function" (defArgs s_is_cost_function) (defBody s_is_cost_function) (defScope s_is_cost_function) .none kV7 dc7 pm7 an7 (.ref c7) ct7), sl7⟩)
    (d7 : PySem.W.codeIn K (.ref c7) "_is_cost_function" = true)
    (k7 : PySem.W.keepIn K (.ref f7) = true)
    (a8 : PySem.W.nsIn K mainGlobals "check_terms" = some (some (.ref f8)))
    (l8 : K.lookup f8 = some ⟨oc8, od8, .func (PySem.W.fnOf "check_terms" "check_terms" (defArgs s_check_terms) (defBody s_check_terms) (defScope s_check_terms) .none kV8 dc8 pm8 an8 (.ref c8) ct8), sl8⟩)
    (d8 : PySem.W.codeIn K (.ref c8) "check_terms" = true)
    (k8 : PySem.W.keepIn K (.ref f8) = true)
    (a9 : PySem.W.nsIn K mainGlobals "_is_term" = some (some (.ref f9)))
    (l9 : K.lookup f9 = some ⟨oc9, od9, .func (PySem.W.fnOf "_is_term" "_is_term" (defArgs s_is_term) (defBody s_is_term) (defScope s_is_term) .none kV9 dc9 pm9 an9 (.ref c9) ct9), sl9⟩)
    (d9 : PySem.W.codeIn K (.ref c9) "_is_term" = true)
    (k9 : PySem.W.keepIn K (.ref f9) = true)
    (a10 : PySem.W.nsIn K mainGlobals "least_cost" = some (some (.ref f10)))
    (l10 : K.lookup f10 = some ⟨oc10, od10, .func (PySem.W.fnOf "least_cost" "least_cost" (defArgs s_least_cost) (defBody s_least_cost) (defScope s_least_cost) .none kV10 dc10 pm10 an10 (.ref c10) ct10), sl10⟩)
    (d10 : PySem.W.codeIn K (.ref c10) "least_cost" = true)
    (k10 : PySem.W.keepIn K (.ref f10) = true)
    (a11 : PySem.W.nsIn K mainGlobals "cost_of" = some (some (.ref f11)))
    (l11 : K.lookup f11 = some ⟨oc11, od11, .func (PySem.W.fnOf "cost_of" "cost_of" (defArgs s_cost_of) (defBody s_cost_of) (defScope s_cost_of) .none kV11 dc11 pm11 an11 (.ref c11) ct11), sl11⟩)
    (d11 : PySem.W.codeIn K (.ref c11) "cost_of" = true)
    (k11 : PySem.W.keepIn K (.ref f11) = true)
    (a12 : PySem.W.nsIn K mainGlobals "_law_taken" = some (some (.ref f12)))
    (l12 : K.lookup f12 = some ⟨oc12, od12, .func (PySem.W.fnOf "_law_taken" "_law_taken" (defArgs s_law_taken) (defBody s_law_taken) (defScope s_law_taken) .none kV12 dc12 pm12 an12 (.ref c12) ct12), sl12⟩)
    (d12 : PySem.W.codeIn K (.ref c12) "_law_taken" = true)
    (k12 : PySem.W.keepIn K (.ref f12) = true)
    (a13 : PySem.W.nsIn K mainGlobals "_law_pick" = some (some (.ref f13)))
    (l13 : K.lookup f13 = some ⟨oc13, od13, .func (PySem.W.fnOf "_law_pick" "_law_pick" (defArgs s_law_pick) (defBody s_law_pick) (defScope s_law_pick) .none kV13 dc13 pm13 an13 (.ref c13) ct13), sl13⟩)
    (d13 : PySem.W.codeIn K (.ref c13) "_law_pick" = true)
    (k13 : PySem.W.keepIn K (.ref f13) = true)
    (a14 : PySem.W.nsIn K mainGlobals "_law_alike" = some (some (.ref f14)))
    (l14 : K.lookup f14 = some ⟨oc14, od14, .func (PySem.W.fnOf "_law_alike" "_law_alike" (defArgs s_law_alike) (defBody s_law_alike) (defScope s_law_alike) .none kV14 dc14 pm14 an14 (.ref c14) ct14), sl14⟩)
    (d14 : PySem.W.codeIn K (.ref c14) "_law_alike" = true)
    (k14 : PySem.W.keepIn K (.ref f14) = true)
    (a15 : PySem.W.nsIn K mainGlobals "_law_rows" = some (some (.ref f15)))
    (l15 : K.lookup f15 = some ⟨oc15, od15, .func (PySem.W.fnOf "_law_rows" "_law_rows" (defArgs s_law_rows) (defBody s_law_rows) (defScope s_law_rows) .none kV15 dc15 pm15 an15 (.ref c15) ct15), sl15⟩)
    (d15 : PySem.W.codeIn K (.ref c15) "_law_rows" = true)
    (k15 : PySem.W.keepIn K (.ref f15) = true)
    (a16 : PySem.W.nsIn K mainGlobals "_law_costs" = some (some (.ref f16)))
    (l16 : K.lookup f16 = some ⟨oc16, od16, .func (PySem.W.fnOf "_law_costs" "_law_costs" (defArgs s_law_costs) (defBody s_law_costs) (defScope s_law_costs) .none kV16 dc16 pm16 an16 (.ref c16) ct16), sl16⟩)
    (d16 : PySem.W.codeIn K (.ref c16) "_law_costs" = true)
    (k16 : PySem.W.keepIn K (.ref f16) = true)
    (a17 : PySem.W.nsIn K mainGlobals "_law_terms" = some (some (.ref f17)))
    (l17 : K.lookup f17 = some ⟨oc17, od17, .func (PySem.W.fnOf "_law_terms" "_law_terms" (defArgs s_law_terms) (defBody s_law_terms) (defScope s_law_terms) .none kV17 dc17 pm17 an17 (.ref c17) ct17), sl17⟩)
    (d17 : PySem.W.codeIn K (.ref c17) "_law_terms" = true)
    (k17 : PySem.W.keepIn K (.ref f17) = true)
    (a18 : PySem.W.nsIn K mainGlobals "_law_total" = some (some (.ref f18)))
    (l18 : K.lookup f18 = some ⟨oc18, od18, .func (PySem.W.fnOf "_law_total" "_law_total" (defArgs s_law_total) (defBody s_law_total) (defScope s_law_total) .none kV18 dc18 pm18 an18 (.ref c18) ct18), sl18⟩)
    (d18 : PySem.W.codeIn K (.ref c18) "_law_total" = true)
    (k18 : PySem.W.keepIn K (.ref f18) = true)
    (a19 : PySem.W.nsIn K mainGlobals "_law_least" = some (some (.ref f19)))
    (l19 : K.lookup f19 = some ⟨oc19, od19, .func (PySem.W.fnOf "_law_least" "_law_least" (defArgs s_law_least) (defBody s_law_least) (defScope s_law_least) .none kV19 dc19 pm19 an19 (.ref c19) ct19), sl19⟩)
    (d19 : PySem.W.codeIn K (.ref c19) "_law_least" = true)
    (k19 : PySem.W.keepIn K (.ref f19) = true)
    (a20 : PySem.W.nsIn K mainGlobals "law" = some (some (.ref f20)))
    (l20 : K.lookup f20 = some ⟨oc20, od20, .func (PySem.W.fnOf "law" "law" (defArgs s_law) (defBody s_law) (defScope s_law) .none kV20 dc20 pm20 an20 (.ref c20) ct20), sl20⟩)
    (d20 : PySem.W.codeIn K (.ref c20) "law" = true)
    (k20 : PySem.W.keepIn K (.ref f20) = true)
    (m4 : K.lookup c4 = some ⟨e4, dd4, .fields vs4, ss4⟩)
    (v4 : vs4[11]? = some (.ref P4))
    (h4 : PySem.W.codeHdIn K c4 P4 = true)
    (n4 : K.lookup P4 = none)
    (m7 : K.lookup c7 = some ⟨e7, dd7, .fields vs7, ss7⟩)
    (v7 : vs7[11]? = some (.ref P7))
    (h7 : PySem.W.codeHdIn K c7 P7 = true)
    (n7 : K.lookup P7 = none)
    (qMOST_VALUES : PySem.W.nsIn K mainGlobals "MOST_VALUES" = some (some (.int 3 tMOST_VALUES)))
    (qMOST_FUNCTIONS : PySem.W.nsIn K mainGlobals "MOST_FUNCTIONS" = some (some (.int 4 tMOST_FUNCTIONS)))
    (qMOST_PLACES : PySem.W.nsIn K mainGlobals "MOST_PLACES" = some (some (.int 2 tMOST_PLACES)))
    (qMOST_COST : PySem.W.nsIn K mainGlobals "MOST_COST" = some (some (.int 1000 tMOST_COST)))
    (qMOST_VARIABLES : PySem.W.nsIn K mainGlobals "MOST_VARIABLES" = some (some (.int 8 tMOST_VARIABLES)))
    (qMOST_TERMS : PySem.W.nsIn K mainGlobals "MOST_TERMS" = some (some (.int 40 tMOST_TERMS)))
    (zall : PySem.W.nsIn K mainGlobals "all" = some none)
    (zbool : PySem.W.nsIn K mainGlobals "bool" = some none)
    (zenumerate : PySem.W.nsIn K mainGlobals "enumerate" = some none)
    (zint : PySem.W.nsIn K mainGlobals "int" = some none)
    (zisinstance : PySem.W.nsIn K mainGlobals "isinstance" = some none)
    (zlen : PySem.W.nsIn K mainGlobals "len" = some none)
    (zlist : PySem.W.nsIn K mainGlobals "list" = some none)
    (zmax : PySem.W.nsIn K mainGlobals "max" = some none)
    (zmin : PySem.W.nsIn K mainGlobals "min" = some none)
    (zrange : PySem.W.nsIn K mainGlobals "range" = some none)
    (zstr : PySem.W.nsIn K mainGlobals "str" = some none)
    (ztuple : PySem.W.nsIn K mainGlobals "tuple" = some none) : LamX.LawAtS l w K CX0 8 63 "script" mg fa h := by
  have e : f20 = fa := by
    have z := (PySem.W.mg_of X G a20).symm.trans hfa
    cases z
    rfl
  subst e
  have F0 : FunC K "power_of" s_power_of f0 (PySem.W.fnOf "power_of" "power_of" (defArgs s_power_of) (defBody s_power_of) (defScope s_power_of) .none kV0 dc0 pm0 an0 (.ref c0) ct0) c0 := ⟨⟨oc0, od0, kV0, dc0, pm0, an0, ct0, sl0, rfl, l0, d0⟩, k0⟩
  have b0 := F0.binds (ps := p_power_of) fun _ _ _ _ _ _ us hl => match us, hl with | [_, _], _ => rfl
  have F1 : FunC K "is_integer" s_is_integer f1 (PySem.W.fnOf "is_integer" "is_integer" (defArgs s_is_integer) (defBody s_is_integer) (defScope s_is_integer) .none kV1 dc1 pm1 an1 (.ref c1) ct1) c1 := ⟨⟨oc1, od1, kV1, dc1, pm1, an1, ct1, sl1, rfl, l1, d1⟩, k1⟩
  have b1 := F1.binds (ps := p_is_integer) fun _ _ _ _ _ _ us hl => match us, hl with | [_, _, _], _ => rfl
  have F2 : FunC K "is_positive" s_is_positive f2 (PySem.W.fnOf "is_positive" "is_positive" (defArgs s_is_positive) (defBody s_is_positive) (defScope s_is_positive) .none kV2 dc2 pm2 an2 (.ref c2) ct2) c2 := ⟨⟨oc2, od2, kV2, dc2, pm2, an2, ct2, sl2, rfl, l2, d2⟩, k2⟩
  have b2 := F2.binds (ps := p_is_positive) fun _ _ _ _ _ _ us hl => match us, hl with | [_], _ => rfl
  have F3 : FunC K "is_tuple" s_is_tuple f3 (PySem.W.fnOf "is_tuple" "is_tuple" (defArgs s_is_tuple) (defBody s_is_tuple) (defScope s_is_tuple) .none kV3 dc3 pm3 an3 (.ref c3) ct3) c3 := ⟨⟨oc3, od3, kV3, dc3, pm3, an3, ct3, sl3, rfl, l3, d3⟩, k3⟩
  have b3 := F3.binds (ps := p_is_tuple) fun _ _ _ _ _ _ us hl => match us, hl with | [_, _, _], _ => rfl
  have F4 : FunC K "are_places" s_are_places f4 (PySem.W.fnOf "are_places" "are_places" (defArgs s_are_places) (defBody s_are_places) (defScope s_are_places) .none kV4 dc4 pm4 an4 (.ref c4) ct4) c4 := ⟨⟨oc4, od4, kV4, dc4, pm4, an4, ct4, sl4, rfl, l4, d4⟩, k4⟩
  have b4 := F4.binds (ps := p_are_places) fun _ _ _ _ _ _ us hl => match us, hl with | [_, _, _, _], _ => rfl
  have F5 : FunC K "position" s_position f5 (PySem.W.fnOf "position" "position" (defArgs s_position) (defBody s_position) (defScope s_position) .none kV5 dc5 pm5 an5 (.ref c5) ct5) c5 := ⟨⟨oc5, od5, kV5, dc5, pm5, an5, ct5, sl5, rfl, l5, d5⟩, k5⟩
  have b5 := F5.binds (ps := p_position) fun _ _ _ _ _ _ us hl => match us, hl with | [_, _], _ => rfl
  have F6 : FunC K "check_costs" s_check_costs f6 (PySem.W.fnOf "check_costs" "check_costs" (defArgs s_check_costs) (defBody s_check_costs) (defScope s_check_costs) .none kV6 dc6 pm6 an6 (.ref c6) ct6) c6 := ⟨⟨oc6, od6, kV6, dc6, pm6, an6, ct6, sl6, rfl, l6, d6⟩, k6⟩
  have b6 := F6.binds (ps := p_check_costs) fun _ _ _ _ _ _ us hl => match us, hl with | [_], _ => rfl
  have F7 : FunC K "_is_cost_function" s_is_cost_function f7 (PySem.W.fnOf "_is_cost_function" "_is_cost_function" (defArgs s_is_cost_function) (defBody s_is_cost_function) (defScope s_is_cost_function) .none kV7 dc7 pm7 an7 (.ref c7) ct7) c7 := ⟨⟨oc7, od7, kV7, dc7, pm7, an7, ct7, sl7, rfl, l7, d7⟩, k7⟩
  have b7 := F7.binds (ps := p_is_cost_function) fun _ _ _ _ _ _ us hl => match us, hl with | [_, _], _ => rfl
  have F8 : FunC K "check_terms" s_check_terms f8 (PySem.W.fnOf "check_terms" "check_terms" (defArgs s_check_terms) (defBody s_check_terms) (defScope s_check_terms) .none kV8 dc8 pm8 an8 (.ref c8) ct8) c8 := ⟨⟨oc8, od8, kV8, dc8, pm8, an8, ct8, sl8, rfl, l8, d8⟩, k8⟩
  have b8 := F8.binds (ps := p_check_terms) fun _ _ _ _ _ _ us hl => match us, hl with | [_, _], _ => rfl
  have F9 : FunC K "_is_term" s_is_term f9 (PySem.W.fnOf "_is_term" "_is_term" (defArgs s_is_term) (defBody s_is_term) (defScope s_is_term) .none kV9 dc9 pm9 an9 (.ref c9) ct9) c9 := ⟨⟨oc9, od9, kV9, dc9, pm9, an9, ct9, sl9, rfl, l9, d9⟩, k9⟩
  have b9 := F9.binds (ps := p_is_term) fun _ _ _ _ _ _ us hl => match us, hl with | [_, _, _], _ => rfl
  have F10 : FunC K "least_cost" s_least_cost f10 (PySem.W.fnOf "least_cost" "least_cost" (defArgs s_least_cost) (defBody s_least_cost) (defScope s_least_cost) .none kV10 dc10 pm10 an10 (.ref c10) ct10) c10 := ⟨⟨oc10, od10, kV10, dc10, pm10, an10, ct10, sl10, rfl, l10, d10⟩, k10⟩
  have b10 := F10.binds (ps := p_least_cost) fun _ _ _ _ _ _ us hl => match us, hl with | [_, _], _ => rfl
  have F11 : FunC K "cost_of" s_cost_of f11 (PySem.W.fnOf "cost_of" "cost_of" (defArgs s_cost_of) (defBody s_cost_of) (defScope s_cost_of) .none kV11 dc11 pm11 an11 (.ref c11) ct11) c11 := ⟨⟨oc11, od11, kV11, dc11, pm11, an11, ct11, sl11, rfl, l11, d11⟩, k11⟩
  have b11 := F11.binds (ps := p_cost_of) fun _ _ _ _ _ _ us hl => match us, hl with | [_, _, _], _ => rfl
  have F12 : FunC K "_law_taken" s_law_taken f12 (PySem.W.fnOf "_law_taken" "_law_taken" (defArgs s_law_taken) (defBody s_law_taken) (defScope s_law_taken) .none kV12 dc12 pm12 an12 (.ref c12) ct12) c12 := ⟨⟨oc12, od12, kV12, dc12, pm12, an12, ct12, sl12, rfl, l12, d12⟩, k12⟩
  have b12 := F12.binds (ps := p_law_taken) fun _ _ _ _ _ _ us hl => match us, hl with | [_, _], _ => rfl
  have F13 : FunC K "_law_pick" s_law_pick f13 (PySem.W.fnOf "_law_pick" "_law_pick" (defArgs s_law_pick) (defBody s_law_pick) (defScope s_law_pick) .none kV13 dc13 pm13 an13 (.ref c13) ct13) c13 := ⟨⟨oc13, od13, kV13, dc13, pm13, an13, ct13, sl13, rfl, l13, d13⟩, k13⟩
  have b13 := F13.binds (ps := p_law_pick) fun _ _ _ _ _ _ us hl => match us, hl with | [_, _], _ => rfl
  have F14 : FunC K "_law_alike" s_law_alike f14 (PySem.W.fnOf "_law_alike" "_law_alike" (defArgs s_law_alike) (defBody s_law_alike) (defScope s_law_alike) .none kV14 dc14 pm14 an14 (.ref c14) ct14) c14 := ⟨⟨oc14, od14, kV14, dc14, pm14, an14, ct14, sl14, rfl, l14, d14⟩, k14⟩
  have b14 := F14.binds (ps := p_law_alike) fun _ _ _ _ _ _ us hl => match us, hl with | [_, _], _ => rfl
  have F15 : FunC K "_law_rows" s_law_rows f15 (PySem.W.fnOf "_law_rows" "_law_rows" (defArgs s_law_rows) (defBody s_law_rows) (defScope s_law_rows) .none kV15 dc15 pm15 an15 (.ref c15) ct15) c15 := ⟨⟨oc15, od15, kV15, dc15, pm15, an15, ct15, sl15, rfl, l15, d15⟩, k15⟩
  have b15 := F15.binds (ps := p_law_rows) fun _ _ _ _ _ _ us hl => match us, hl with | [_, _], _ => rfl
  have F16 : FunC K "_law_costs" s_law_costs f16 (PySem.W.fnOf "_law_costs" "_law_costs" (defArgs s_law_costs) (defBody s_law_costs) (defScope s_law_costs) .none kV16 dc16 pm16 an16 (.ref c16) ct16) c16 := ⟨⟨oc16, od16, kV16, dc16, pm16, an16, ct16, sl16, rfl, l16, d16⟩, k16⟩
  have b16 := F16.binds (ps := p_law_costs) fun _ _ _ _ _ _ us hl => match us, hl with | [_, _, _, _], _ => rfl
  have F17 : FunC K "_law_terms" s_law_terms f17 (PySem.W.fnOf "_law_terms" "_law_terms" (defArgs s_law_terms) (defBody s_law_terms) (defScope s_law_terms) .none kV17 dc17 pm17 an17 (.ref c17) ct17) c17 := ⟨⟨oc17, od17, kV17, dc17, pm17, an17, ct17, sl17, rfl, l17, d17⟩, k17⟩
  have b17 := F17.binds (ps := p_law_terms) fun _ _ _ _ _ _ us hl => match us, hl with | [_, _, _, _, _], _ => rfl
  have F18 : FunC K "_law_total" s_law_total f18 (PySem.W.fnOf "_law_total" "_law_total" (defArgs s_law_total) (defBody s_law_total) (defScope s_law_total) .none kV18 dc18 pm18 an18 (.ref c18) ct18) c18 := ⟨⟨oc18, od18, kV18, dc18, pm18, an18, ct18, sl18, rfl, l18, d18⟩, k18⟩
  have b18 := F18.binds (ps := p_law_total) fun _ _ _ _ _ _ us hl => match us, hl with | [_, _, _], _ => rfl
  have F19 : FunC K "_law_least" s_law_least f19 (PySem.W.fnOf "_law_least" "_law_least" (defArgs s_law_least) (defBody s_law_least) (defScope s_law_least) .none kV19 dc19 pm19 an19 (.ref c19) ct19) c19 := ⟨⟨oc19, od19, kV19, dc19, pm19, an19, ct19, sl19, rfl, l19, d19⟩, k19⟩
  have b19 := F19.binds (ps := p_law_least) fun _ _ _ _ _ _ us hl => match us, hl with | [_, _], _ => rfl
  have F20 : FunC K "law" s_law f20 (PySem.W.fnOf "law" "law" (defArgs s_law) (defBody s_law) (defScope s_law) .none kV20 dc20 pm20 an20 (.ref c20) ct20) c20 := ⟨⟨oc20, od20, kV20, dc20, pm20, an20, ct20, sl20, rfl, l20, d20⟩, k20⟩
  have b20 := F20.binds (ps := p_law) fun _ _ _ _ _ _ us hl => match us, hl with | [_], _ => rfl
  have w4 : h.get? P4 = some { cls := .none, data := .fields #[] } := own "are_places" (by simp [tabNames]) f4 (PySem.W.mg_of X G a4) c4 P4 _ _ _ _ _ _ l4 rfl rfl m4 v4
  have w7 : h.get? P7 = some { cls := .none, data := .fields #[] } := own "_is_cost_function" (by simp [tabNames]) f7 (PySem.W.mg_of X G a7) c7 P7 _ _ _ _ _ _ l7 rfl rfl m7 v7
  have three : ∀ {R : Addr × Addr → Prop}, R (c4, P4) → R (c7, P7) → ∀ p ∈ ([(c4, P4), (c7, P7)] : List (Addr × Addr)), R p := fun r4 r7 p hp => by
    simp only [List.mem_cons, List.not_mem_nil, or_false] at hp
    rcases hp with rfl | rfl
    · exact r4
    · exact r7
  refine ⟨(PySem.W.fnOf "law" "law" (defArgs s_law) (defBody s_law) (defScope s_law) .none kV20 dc20 pm20 an20 (.ref c20) ct20), [(c4, P4), (c7, P7)], fun vs H Q _ => ∃ (c : Addr) (ns : List Int), vs = [.ref c] ∧ SqL K H c (ns.map V.int) ∧ (H c ≠ none ∨ SqL K (fun _ => none) c (ns.map V.int)) ∧ TT [P4, P7] H ∧ ∀ H', Q (.bl true) H', three w4 w7, three n4 n7, three (PySem.W.codeHd_of_K X h4) (PySem.W.codeHd_of_K X h7), fun s v => .of_eq rfl, fun H a ns _ _ hH hS => ⟨a, ns, rfl, hS, ?_, ?_, fun _ => rfl⟩, fun base kb nb hT => ?_⟩
  · rcases hS with (hS | ⟨o', hS⟩) | hS
    · exact .inl (by rw [hS]; intro z; cases z)
    · exact .inl (by rw [hS]; intro z; cases z)
    · exact .inr (.inr hS)
  · intro P hP
    obtain ⟨p, hp, rfl⟩ : ∃ p ∈ ([(c4, P4), (c7, P7)] : List (Addr × Addr)), p.2 = P := by
      simp only [List.mem_cons, List.not_mem_nil, or_false] at hP
      rcases hP with rfl | rfl
      · exact ⟨_, List.mem_cons_self, rfl⟩
      · exact ⟨_, (List.mem_cons_of_mem _ List.mem_cons_self), rfl⟩
    exact ⟨#[], hH p hp, by first | exact trivial | constructor⟩
  · exact ok_law (P := l.prog) (w := w) {
      power_of := { f := f0, fd := _, c := c0, F := F0, b := b0, g := PySem.W.mg_of X G a0 }
      is_integer := { f := f1, fd := _, c := c1, F := F1, b := b1, g := PySem.W.mg_of X G a1 }
      is_positive := { f := f2, fd := _, c := c2, F := F2, b := b2, g := PySem.W.mg_of X G a2 }
      is_tuple := { f := f3, fd := _, c := c3, F := F3, b := b3, g := PySem.W.mg_of X G a3 }
      are_places := { f := f4, fd := _, c := c4, F := F4, b := b4, g := PySem.W.mg_of X G a4, P := P4, TB := hT (c4, P4) (List.mem_cons_self) }
      position := { f := f5, fd := _, c := c5, F := F5, b := b5, g := PySem.W.mg_of X G a5 }
      check_costs := { f := f6, fd := _, c := c6, F := F6, b := b6, g := PySem.W.mg_of X G a6 }
      is_cost_function := { f := f7, fd := _, c := c7, F := F7, b := b7, g := PySem.W.mg_of X G a7, P := P7, TB := hT (c7, P7) ((List.mem_cons_of_mem _ List.mem_cons_self)) }
      check_terms := { f := f8, fd := _, c := c8, F := F8, b := b8, g := PySem.W.mg_of X G a8 }
      is_term := { f := f9, fd := _, c := c9, F := F9, b := b9, g := PySem.W.mg_of X G a9 }
      least_cost := { f := f10, fd := _, c := c10, F := F10, b := b10, g := PySem.W.mg_of X G a10 }
      cost_of := { f := f11, fd := _, c := c11, F := F11, b := b11, g := PySem.W.mg_of X G a11 }
      law_taken := { f := f12, fd := _, c := c12, F := F12, b := b12, g := PySem.W.mg_of X G a12 }
      law_pick := { f := f13, fd := _, c := c13, F := F13, b := b13, g := PySem.W.mg_of X G a13 }
      law_alike := { f := f14, fd := _, c := c14, F := F14, b := b14, g := PySem.W.mg_of X G a14 }
      law_rows := { f := f15, fd := _, c := c15, F := F15, b := b15, g := PySem.W.mg_of X G a15 }
      law_costs := { f := f16, fd := _, c := c16, F := F16, b := b16, g := PySem.W.mg_of X G a16 }
      law_terms := { f := f17, fd := _, c := c17, F := F17, b := b17, g := PySem.W.mg_of X G a17 }
      law_total := { f := f18, fd := _, c := c18, F := F18, b := b18, g := PySem.W.mg_of X G a18 }
      law_least := { f := f19, fd := _, c := c19, F := F19, b := b19, g := PySem.W.mg_of X G a19 }
      law := { f := f20, fd := _, c := c20, F := F20, b := b20, g := PySem.W.mg_of X G a20 }
      c_MOST_VALUES := ⟨_, PySem.W.mg_of X G qMOST_VALUES⟩
      c_MOST_FUNCTIONS := ⟨_, PySem.W.mg_of X G qMOST_FUNCTIONS⟩
      c_MOST_PLACES := ⟨_, PySem.W.mg_of X G qMOST_PLACES⟩
      c_MOST_COST := ⟨_, PySem.W.mg_of X G qMOST_COST⟩
      c_MOST_VARIABLES := ⟨_, PySem.W.mg_of X G qMOST_VARIABLES⟩
      c_MOST_TERMS := ⟨_, PySem.W.mg_of X G qMOST_TERMS⟩
      b_all := PySem.W.mg_none_of X G zall
      b_bool := PySem.W.mg_none_of X G zbool
      b_enumerate := PySem.W.mg_none_of X G zenumerate
      b_int := PySem.W.mg_none_of X G zint
      b_isinstance := PySem.W.mg_none_of X G zisinstance
      b_len := PySem.W.mg_none_of X G zlen
      b_list := PySem.W.mg_none_of X G zlist
      b_max := PySem.W.mg_none_of X G zmax
      b_min := PySem.W.mg_none_of X G zmin
      b_range := PySem.W.mg_none_of X G zrange
      b_str := PySem.W.mg_none_of X G zstr
      b_tuple := PySem.W.mg_none_of X G ztuple
    }
end K82

set_option Elab.async false
set_option linter.all false
open PySem PySem.W PyProof.Rows
set_option maxRecDepth 100000 in
set_option maxHeartbeats 0 in
theorem PySem.Challenge.cw_templates_k82_whole_least_costs_holds : PySem.Challenge.rw_templates_k82_whole_least_costs.Holds := by
  w_on; o_law; k_head; (case hw => w_witness2)
  k_fill
  refine K82.walk_ofAll (l := PySem.Challenge.rw_templates_k82_whole_least_costs) (n := 63) (k := 8) (x := "script") (CX := fun _ => L2.CX0) K82.tabNames rfl (by decide) rfl ⟨rfl, by decide, by decide⟩ (by decide +kernel) (fun w h Y => PySem.W.kIn_of Y) ?F (fun _ _ _ _ _ h => h)
  case F =>
    intro w mg fa h Y KX G hmg own
    refine' K82.law_at KX G hmg own ?a0 ?l0 ?d0 ?k0 ?a1 ?l1 ?d1 ?k1 ?a2 ?l2 ?d2 ?k2 ?a3 ?l3 ?d3 ?k3 ?a4 ?l4 ?d4 ?k4 ?a5 ?l5 ?d5 ?k5 ?a6 ?l6 ?d6 ?k6 ?a7 ?l7 ?d7 ?k7 ?a8 ?l8 ?d8 ?k8 ?a9 ?l9 ?d9 ?k9 ?a10 ?l10 ?d10 ?k10 ?a11 ?l11 ?d11 ?k11 ?a12 ?l12 ?d12 ?k12 ?a13 ?l13 ?d13 ?k13 ?a14 ?l14 ?d14 ?k14 ?a15 ?l15 ?d15 ?k15 ?a16 ?l16 ?d16 ?k16 ?a17 ?l17 ?d17 ?k17 ?a18 ?l18 ?d18 ?k18 ?a19 ?l19 ?d19 ?k19 ?a20 ?l20 ?d20 ?k20 ?m4 ?v4 ?h4 ?n4 ?m7 ?v7 ?h7 ?n7 ?qMOST_VALUES ?qMOST_FUNCTIONS ?qMOST_PLACES ?qMOST_COST ?qMOST_VARIABLES ?qMOST_TERMS ?zall ?zbool ?zenumerate ?zint ?zisinstance ?zlen ?zlist ?zmax ?zmin ?zrange ?zstr ?ztuple
    (case a0 => k_is); (case l0 => k_is); (case d0 => k_is); (case k0 => k_is); (case a1 => k_is); (case l1 => k_is); (case d1 => k_is); (case k1 => k_is); (case a2 => k_is); (case l2 => k_is); (case d2 => k_is); (case k2 => k_is); (case a3 => k_is); (case l3 => k_is); (case d3 => k_is); (case k3 => k_is); (case a4 => k_is); (case l4 => k_is); (case d4 => k_is); (case k4 => k_is); (case a5 => k_is); (case l5 => k_is); (case d5 => k_is); (case k5 => k_is); (case a6 => k_is); (case l6 => k_is); (case d6 => k_is); (case k6 => k_is); (case a7 => k_is); (case l7 => k_is); (case d7 => k_is); (case k7 => k_is); (case a8 => k_is); (case l8 => k_is); (case d8 => k_is); (case k8 => k_is); (case a9 => k_is); (case l9 => k_is); (case d9 => k_is); (case k9 => k_is); (case a10 => k_is); (case l10 => k_is); (case d10 => k_is); (case k10 => k_is); (case a11 => k_is); (case l11 => k_is); (case d11 => k_is); (case k11 => k_is); (case a12 => k_is); (case l12 => k_is); (case d12 => k_is); (case k12 => k_is); (case a13 => k_is); (case l13 => k_is); (case d13 => k_is); (case k13 => k_is); (case a14 => k_is); (case l14 => k_is); (case d14 => k_is); (case k14 => k_is); (case a15 => k_is); (case l15 => k_is); (case d15 => k_is); (case k15 => k_is); (case a16 => k_is); (case l16 => k_is); (case d16 => k_is); (case k16 => k_is); (case a17 => k_is); (case l17 => k_is); (case d17 => k_is); (case k17 => k_is); (case a18 => k_is); (case l18 => k_is); (case d18 => k_is); (case k18 => k_is); (case a19 => k_is); (case l19 => k_is); (case d19 => k_is); (case k19 => k_is); (case a20 => k_is); (case l20 => k_is); (case d20 => k_is); (case k20 => k_is); (case m4 => k_is); (case v4 => rfl); (case h4 => first | kernel_rfl | rfl); (case n4 => first | kernel_rfl | rfl); (case m7 => k_is); (case v7 => rfl); (case h7 => first | kernel_rfl | rfl); (case n7 => first | kernel_rfl | rfl); (case qMOST_VALUES => k_is); (case qMOST_FUNCTIONS => k_is); (case qMOST_PLACES => k_is); (case qMOST_COST => k_is); (case qMOST_VARIABLES => k_is); (case qMOST_TERMS => k_is); (case zall => k_is); (case zbool => k_is); (case zenumerate => k_is); (case zint => k_is); (case zisinstance => k_is); (case zlen => k_is); (case zlist => k_is); (case zmax => k_is); (case zmin => k_is); (case zrange => k_is); (case zstr => k_is); (case ztuple => k_is)
