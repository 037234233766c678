import PyProof.Rows.All
import Wide.All
import OpenK.AllK
import Wide.FinOn
import HandS.Comp
import HandS.AnyAll
import HandS.GenList
import HandS.EndTab
import HandS.ForMost
import HandS.IsInst
import HandS.TupAny
import HandS.Zip
import HandS.TupSets
import HandS.Deep
import HandS.DictTup
import HandS.List
import KE.DataMinMax
import HandS.TupMul
import HandS.TupLen
import HandS.Conv
import HandS.SetFor
import HandS.Dict
import HandS.Zip0
import HandS.Star
import HandS.Iter
import KE.KDictZip
import KE.KStar
import HandS.MethStar
import HandS.TupLe
import KE.SortData
import HandS.Walk
import HandS.EndOwn
import PySem.Challenge.RW_templates_k66_whole_two_sides
set_option Elab.async false
set_option linter.all false
set_option maxRecDepth 100000
set_option maxHeartbeats 4000000
/-! all(test for x in walk), any(test for x in walk): the element any expression that raises nothing. -/
namespace GA
open PySem PySem.Spec PyProof.Rows L2

/-- woken again: all objects kept -/
structure Wok (s s' : Shared) : Prop where
  os : s'.os = s.os
  bare : AllBare s'.gens
  keep : ∀ b o, s.heap.get? b = some o → s'.heap.get? b = some o
/-- an item is handed out: true goes on, false ends (for all); the other way round for any -/
def YA (st : Bool) (R : Bool → Shared → Prop) (a g : Nat) : Protocol := fun _ _ v s kap =>
  s.heap.NoLimit ∧ AllBare s.gens ∧ s.heap.IsGen a g ∧ ∃ b : Bool, v = .bool b ∧ (b ≠ st → ∀ s', Wok s s' → kap (.send .none) s') ∧ (b = st → ∀ s', Wok s s' → R st s')
def RA (st : Bool) (R : Bool → Shared → Prop) : Nat → Shared → Shared → Prop := fun _ _ s => AllBare s.gens ∧ ∀ s', Wok s s' → R (!st) s'

section
variable {P : Program} {w : World} {A : Around} {R : Bool → Shared → Prop} {R' : Result → Shared → Prop} {a : Addr} {g : Nat}
theorem all_loop (hh : A.handled = none) (hd : A.depth < recursionLimit) (hR : ∀ b s, R b s → R' (.ok (.ret (.bool b))) s) :
    ∀ (m : Nat) (s : Shared), s.heap.IsGen a g → s.heap.NoLimit →
      (∃ gs, s.gens[g]? = some gs ∧ gs.Goes (model P w) A.in1.in1 (fun n s₀ r s₁ => r = .ok .next ∧ RA false R n s₀ s₁) (YA false R a g) m (.send .none) (s.setGen g .running)) →
      codeAny (model P w) A (.builtin "all.loop" ⟨[.ref a], []⟩) R' s := by
  intro m
  induction m with
  | zero =>
    intro s hg hl ⟨gs, hgs, hgo⟩
    refine codeAny_builtin F.entry_all_loop ?_
    rw [Around.under_plainId F.plain_all_loop _]
    show wpAny _ A.in1 (pyNext (.ref a) >>= _) _ _ s
    refine wpAny_bind (wpAny_pyNext_genexpQ (A := A.in1) hh hl hd hg hgs hgo (fun v s₁ gs' hb hv => ?_) fun s₁ hp h' hk => ?_)
    · obtain ⟨hl1, hb1, hg1, b, rfl, ht, hf⟩ := hv
      cases b with
      | true => exact (ht (by decide) s₁ ⟨rfl, hb1, fun _ _ e => e⟩).elim
      | false =>
        refine wpAny_bind (wpAny_holding (wpAny_truthy_bool ?_))
        refine wpAny_bind (wpAny_letGo ?_)
        simp only [Bool.false_eq_true, if_false]
        exact wpAny_bind (wpAny_rule (wpAny_pure (hR _ _ (hf rfl _ ⟨rfl, allBare_setGen hb1 hb, fun _ _ e => e⟩))))
    · obtain ⟨hb1, hq⟩ := hp
      exact wpAny_bind (wpAny_rule (wpAny_pure (hR _ _ (hq _ ⟨rfl, allBare_setGen (s := s₁) hb1 rfl, hk⟩))))
  | succ m ih =>
    intro s hg hl ⟨gs, hgs, hgo⟩
    have hgl : g < s.gens.size := (Array.getElem?_eq_some_iff.mp hgs).1
    refine codeAny_builtin F.entry_all_loop ?_
    rw [Around.under_plainId F.plain_all_loop _]
    show wpAny _ A.in1 (pyNext (.ref a) >>= _) _ _ s
    refine wpAny_bind (GenW.wpAny_gsz (n := g + 1) hgl (wpAny_pyNext_genexpQ (A := A.in1) hh hl hd hg hgs hgo (fun v s₁ gs' hb hv => ?_) fun s₁ hp h' hk => ?_))
    · intro hsz
      obtain ⟨hl1, hb1, hg1, b, rfl, ht, hf⟩ := hv
      refine wpAny_bind (wpAny_holding (wpAny_truthy_bool ?_))
      refine wpAny_bind (wpAny_letGo ?_)
      cases b with
      | true =>
        simp only [if_true]
        have hsz1 : g < s₁.gens.size := by
          have q : (s₁.setGen g gs').gens.size = s₁.gens.size := GenW.setGen_size _ _ _
          have hsz' : g + 1 ≤ (s₁.setGen g gs').gens.size := hsz
          omega
        refine wpAny_pure ⟨plainId_quiet F.plain_all_loop _, ih (s₁.setGen g gs') hg1 hl1 ⟨gs', setGen_at hsz1, ?_⟩⟩
        exact ht (by decide) _ ⟨rfl, allBare_setGen (s := s₁.setGen g gs') (allBare_setGen hb1 hb) rfl, fun _ _ e => e⟩
      | false =>
        simp only [Bool.false_eq_true, if_false]
        exact wpAny_bind (wpAny_rule (wpAny_pure (hR _ _ (hf rfl _ ⟨rfl, allBare_setGen hb1 hb, fun _ _ e => e⟩))))
    · intro hsz
      obtain ⟨hb1, hq⟩ := hp
      exact wpAny_bind (wpAny_rule (wpAny_pure (hR _ _ (hq _ ⟨rfl, allBare_setGen (s := s₁) hb1 rfl, hk⟩))))
theorem any_loop (hh : A.handled = none) (hd : A.depth < recursionLimit) (hR : ∀ b s, R b s → R' (.ok (.ret (.bool b))) s) :
    ∀ (m : Nat) (s : Shared), s.heap.IsGen a g → s.heap.NoLimit →
      (∃ gs, s.gens[g]? = some gs ∧ gs.Goes (model P w) A.in1.in1 (fun n s₀ r s₁ => r = .ok .next ∧ RA true R n s₀ s₁) (YA true R a g) m (.send .none) (s.setGen g .running)) →
      codeAny (model P w) A (.builtin "any.loop" ⟨[.ref a], []⟩) R' s := by
  intro m
  induction m with
  | zero =>
    intro s hg hl ⟨gs, hgs, hgo⟩
    refine codeAny_builtin F.entry_any_loop ?_
    rw [Around.under_plainId F.plain_any_loop _]
    show wpAny _ A.in1 (pyNext (.ref a) >>= _) _ _ s
    refine wpAny_bind (wpAny_pyNext_genexpQ (A := A.in1) hh hl hd hg hgs hgo (fun v s₁ gs' hb hv => ?_) fun s₁ hp h' hk => ?_)
    · obtain ⟨hl1, hb1, hg1, b, rfl, ht, hf⟩ := hv
      cases b with
      | false => exact (ht (by decide) s₁ ⟨rfl, hb1, fun _ _ e => e⟩).elim
      | true =>
        refine wpAny_bind (wpAny_holding (wpAny_truthy_bool ?_))
        refine wpAny_bind (wpAny_letGo ?_)
        simp only [if_true]
        exact wpAny_bind (wpAny_rule (wpAny_pure (hR _ _ (hf rfl _ ⟨rfl, allBare_setGen hb1 hb, fun _ _ e => e⟩))))
    · obtain ⟨hb1, hq⟩ := hp
      exact wpAny_bind (wpAny_rule (wpAny_pure (hR _ _ (hq _ ⟨rfl, allBare_setGen (s := s₁) hb1 rfl, hk⟩))))
  | succ m ih =>
    intro s hg hl ⟨gs, hgs, hgo⟩
    have hgl : g < s.gens.size := (Array.getElem?_eq_some_iff.mp hgs).1
    refine codeAny_builtin F.entry_any_loop ?_
    rw [Around.under_plainId F.plain_any_loop _]
    show wpAny _ A.in1 (pyNext (.ref a) >>= _) _ _ s
    refine wpAny_bind (GenW.wpAny_gsz (n := g + 1) hgl (wpAny_pyNext_genexpQ (A := A.in1) hh hl hd hg hgs hgo (fun v s₁ gs' hb hv => ?_) fun s₁ hp h' hk => ?_))
    · intro hsz
      obtain ⟨hl1, hb1, hg1, b, rfl, ht, hf⟩ := hv
      refine wpAny_bind (wpAny_holding (wpAny_truthy_bool ?_))
      refine wpAny_bind (wpAny_letGo ?_)
      cases b with
      | false =>
        simp only [Bool.false_eq_true, if_false]
        have hsz1 : g < s₁.gens.size := by
          have q : (s₁.setGen g gs').gens.size = s₁.gens.size := GenW.setGen_size _ _ _
          have hsz' : g + 1 ≤ (s₁.setGen g gs').gens.size := hsz
          omega
        refine wpAny_pure ⟨plainId_quiet F.plain_any_loop _, ih (s₁.setGen g gs') hg1 hl1 ⟨gs', setGen_at hsz1, ?_⟩⟩
        exact ht (by decide) _ ⟨rfl, allBare_setGen (s := s₁.setGen g gs') (allBare_setGen hb1 hb) rfl, fun _ _ e => e⟩
      | true =>
        simp only [if_true]
        exact wpAny_bind (wpAny_rule (wpAny_pure (hR _ _ (hf rfl _ ⟨rfl, allBare_setGen hb1 hb, fun _ _ e => e⟩))))
    · intro hsz
      obtain ⟨hb1, hq⟩ := hp
      exact wpAny_bind (wpAny_rule (wpAny_pure (hR _ _ (hq _ ⟨rfl, allBare_setGen (s := s₁) hb1 rfl, hk⟩))))
end

/-! ### the generator's own context -/
/-- a generator expression's names: its own, captured ones. M: the slots within: those of N (a name that it has itself is renamed there), then its own x -/
structure GNames (N M : List Str) (sc scope : Scope) (x : Str) : Prop where
  kind : scope.kind = .function
  co : scope.isCoroutine = false
  cell : ∀ y ∈ scope.names, y.2 ≠ .cell
  dot : scope.names.lookup (".0" : Str) = some NameKind.local
  loc : scope.names.lookup x = some .local
  len : M.length = N.length + 1
  last : M[N.length]? = some x
  nd : M.Nodup
  old : ∀ (i : Nat) y, i < N.length → M[i]? = some y → N[i]? = some y ∨ scope.names.lookup y = none
  own : ∀ y ∈ scope.names, y.2 = .local → y.1 = x ∨ y.1 ∉ M
  free : ∀ y ∈ scope.names, y.2 = .free → sc.names.lookup y.1 = some .cell ∨ sc.names.lookup y.1 = some .free
def gNamesB (N M : List Str) (sc scope : Scope) (x : Str) : Bool :=
  decide (scope.kind = .function) && !scope.isCoroutine && decide (scope.names.lookup (".0" : Str) = some NameKind.local) && decide (scope.names.lookup x = some NameKind.local) &&
  decide (M.length = N.length + 1) && decide (M[N.length]? = some x) && decide M.Nodup && ((List.range N.length).all fun i => decide (M[i]? = N[i]?) || (match M[i]? with | some y => decide (scope.names.lookup y = none) | none => true)) &&
  scope.names.all fun y => !decide (y.2 = .cell) && (!decide (y.2 = .local) || decide (y.1 = x) || !M.contains y.1) && (!decide (y.2 = .free) || decide (sc.names.lookup y.1 = some .cell) || decide (sc.names.lookup y.1 = some .free))
theorem gNames_by {N M : List Str} {sc scope : Scope} {x : Str} (h : gNamesB N M sc scope x = true) : GNames N M sc scope x := by
  unfold gNamesB at h
  simp only [Bool.and_eq_true, Bool.or_eq_true, Bool.not_eq_true', decide_eq_true_eq, decide_eq_false_iff_not, List.all_eq_true, List.contains_eq_mem, List.mem_range] at h
  obtain ⟨⟨⟨⟨⟨⟨⟨⟨h1, h2⟩, h3⟩, h4⟩, h5⟩, h7⟩, h8⟩, h9⟩, h6⟩ := h
  refine ⟨h1, h2, fun y hy => (h6 y hy).1.1, h3, h4, h5, h7, h8, fun i y hi e => ?_, fun y hy e => ?_, fun y hy e => ?_⟩
  · rcases h9 i hi with z | z
    · exact .inl (z ▸ e)
    · rw [e] at z
      exact .inr (of_decide_eq_true z)
  · rcases (h6 y hy).1.2 with (z | z) | z
    · exact absurd e z
    · exact .inl z
    · exact .inr z
  · rcases (h6 y hy).2 with (z | z) | z
    · exact absurd e z
    · exact .inl z
    · exact .inr z
abbrev gnv (X : Cx) (scope : Scope) (C : Addr) (code : Value) : Env := genEnv scope (cloFrom X.env.cells scope.names []) C code builtinsNs X.env
/-- the context of the element -/
def gcx (X : Cx) (A : Around) (s : Shared) (H : Hp) (env : Env) (M : List Str) (fp : List Addr) (pn : List (Addr × Obj)) : Cx :=
  { X with A := A, N := M, s_0 := s, H_0 := H, env := env, outer := X.stack, stack := env :: X.stack, ex := fp, fn := fun _ => false, calm := true, pn := pn, xe := fun _ _ => False }
section
variable {X : Cx} {pins : List (Addr × Obj)} {σ : L2.St} {H : Hp} {s : Shared}
theorem GNames.has {M : List Str} {scope : Scope} {x : Str} (L : GNames X.N M X.env.scope scope x) (ok : X.Ok) : ∀ y ∈ scope.names, y.2 = .free → ∃ c, X.env.cells.lookup y.1 = some c := fun y hy e => by
  rcases L.free y hy e with k | k
  · exact ok.has _ (.inl k)
  · exact ok.has _ (.inr k)
theorem gstart {A : Around} {M : List Str} {scope : Scope} {x : Str} {code itv : Value} {fp : List Addr} {pn : List (Addr × Obj)} {h5 : Heap} {g5 : Array GenState} {t5 : Nat} (I : Inv X pins σ H s) (L : GNames X.N M X.env.scope scope x) (hd : A.handled = none)
    (hfr : A.frames = some (gnv X scope s.heap.objs.size code :: X.stack)) (hfp : ∀ b ∈ fp, FpOk X pins H b ∧ b < s.heap.objs.size) (kp : ∀ b o, s.heap.get? b = some o → h5.get? b = some o)
    (hns : h5.Ns s.heap.objs.size (fun y => if y = ".0" then some itv else none)) (hb : AllBare g5) (hpn : ∀ p ∈ pn, h5.get? p.1 = some p.2 ∧ H p.1 = none ∧ p.1 ≠ s.heap.objs.size ∧ p.1 ∉ frs X.stack ∧ ∀ v, p.2.data ≠ .cell v) :
    Inv (gcx X A s H (gnv X scope s.heap.objs.size code) M fp pn) [] (σ ++ [none]) H { s with heap := h5, gens := g5, toks := t5 } := by
  have hfree := L.has I.ok
  have cm : ∀ {y c}, (cloFrom X.env.cells scope.names []).lookup y = some c → X.env.cells.lookup y = some c := fun {y c} e => by
    rcases cloFrom_mem (PySem.mem_of_lookup e) with hm | ⟨h1, h2⟩
    · cases hm
    · obtain ⟨c1, hc⟩ := hfree _ h1 rfl
      have hc : X.env.cells.lookup y = some c1 := hc
      have e2 : c = c1 := by
        rw [h2, hc] <;> rfl
      rw [e2]
      exact hc
  have look : ∀ {y}, scope.names.lookup y = some .free → ∃ c, (cloFrom X.env.cells scope.names []).lookup y = some c := fun {y} hl => by
    have hy : (y, NameKind.free) ∈ scope.names := PySem.mem_of_lookup hl
    exact mem_lookup (cloFrom_has (cells := X.env.cells) (acc := []) hy)
  have ltC : ∀ {y c}, X.env.cells.lookup y = some c → c < s.heap.objs.size := fun {y c} e => let ⟨_, z⟩ := I.cell y c e; z.lt
  refine ⟨⟨I.ok.mod, L.kind, I.ok.glob, rfl, Nat.le_refl _, fun y z c e1 e2 => I.ok.inj y z c (cm e1) (cm e2), fun y hy => ?_, fun y c z _ => ?_, fun _ => hd, hfr, .inr ⟨rfl, rfl⟩, fun b hb => ⟨?_, fun y c e z => ?_⟩, I.bs, Nat.le_trans I.ok.bsz I.sz, fun b o e hb => ?_, fun b hb z => ?_, I.stack, I.stkFree⟩,
    rfl, hb, Un.kept kp, ⟨_, hns, fun i y v e1 e2 e3 => ?_⟩, fun y c e => ?_, I.hok.fresh (Nat.le_refl _), fun y c e => I.freeC y c (cm e), fun p hp => ?_, I.hok.kept kp, ?_⟩
  · have hy : scope.names.lookup y = some .cell ∨ scope.names.lookup y = some .free := hy
    rcases hy with hy | hy
    · exact absurd rfl (L.cell _ (PySem.mem_of_lookup hy))
    · exact look hy
  · have z : false = true := z
    cases z
  · exact Nat.ne_of_lt (hfp b hb).2
  · exact (hfp b hb).1.2.2.2.2.1 y c (cm e) z
  · rcases (hfp b hb).1.2.2.2.1 with z | z
    · exact I.ok.noex b o e z
    · exact absurd (Nat.lt_of_lt_of_le (Heap.lt_size e) (Nat.le_trans I.ok.bsz z)) (Nat.lt_irrefl _)
  · rcases List.mem_cons.mp (I.stkSub b z) with z | z
    · exact (hfp b hb).1.2.1 z
    · exact (hfp b hb).1.2.2.1 z
  · have e2 : (σ ++ [none])[i]? = some (some v) := e2
    have e1 : M[i]? = some y := e1
    have hi : i < σ.length := by
      by_cases hi : i < σ.length
      · exact hi
      · rw [List.getElem?_append_right (by omega)] at e2
        cases q : i - σ.length with
        | zero => rw [q] at e2; cases e2
        | succ n => rw [q] at e2; cases e2
    rw [List.getElem?_append_left hi] at e2
    have e3 : Vis scope y := e3
    have hiN : i < X.N.length := by rw [← I.len]; exact hi
    have hfree : scope.names.lookup y = some .free := by
      rcases e3 with k | k | k
      · rcases L.own _ (PySem.mem_of_lookup k) rfl with z | z
        · have z : y = x := z
          subst z
          exact absurd (nodup_ix L.nd e1 L.last) (Nat.ne_of_lt hiN)
        · exact absurd (List.mem_of_getElem? e1) z
      · exact absurd rfl (L.cell _ (PySem.mem_of_lookup k))
      · exact k
    have e1 : X.N[i]? = some y := (L.old i y hiN e1).elim id fun z => by rw [z] at hfree; cases hfree
    obtain ⟨m, hn, hl⟩ := I.loc
    have hvis : Vis X.env.scope y := (L.free _ (PySem.mem_of_lookup hfree) rfl).elim (fun k => .inr (.inl k)) (fun k => .inr (.inr k))
    obtain ⟨w', r, q⟩ := hl i y v e1 e2 hvis
    obtain ⟨c2, h2⟩ := look hfree
    refine ⟨w', r, .inr ⟨.inr hfree, c2, h2, ?_⟩⟩
    have c1 := cm h2
    rcases q with ⟨k', _⟩ | ⟨_, c3, e', z⟩
    · have k' : X.env.scope.names.lookup y = some .local := k'
      rcases L.free _ (PySem.mem_of_lookup hfree) rfl with k2 | k2 <;> rw [show X.env.scope.names.lookup y = _ from k2] at k' <;> cases k'
    · rw [c1] at e'
      cases e'
      exact z.keeps kp
  · obtain ⟨w', z⟩ := I.cell y c (cm e)
    exact ⟨w', z.keeps kp⟩
  · rcases List.mem_append.mp hp with hp | hp
    · exact hpn p hp
    · cases hp
  · show (σ ++ [none]).length = M.length
    rw [List.length_append, I.len, L.len]
    rfl

theorem Inv.wok {s' : Shared} (I : Inv X pins σ H s) (h : Wok s s') : Inv X pins σ H s' :=
  I.call' (ch := []) h.os (Un.kept h.keep) (I.hok.kept h.keep) h.bare fun b z => by simp at z
end

/-! ### the loop -/
/-- what is asked of the walk and of the element: st: the answer that ends it (false for all, true for any) -/
structure Asks (st : Bool) (J : It) (n : Nat) (telt : TE) (σ : L2.St) (W : Nat → Hp → Prop) (Qb : Bool → Hp → Prop) : Prop where
  turn : ∀ i H, i < n → W i H → J.go i H ∧ ∀ x H', J.yld i H x H' → telt (σ ++ [some x]) H' fun v H'' => ∃ b, v = .bl b ∧ (b ≠ st → W (i + 1) H'') ∧ (b = st → Qb st H'')
  stop : ∀ H, W n H → J.stop n H ∧ Qb (!st) H
theorem seg_loop {X : Cx} {A : Around} {sz : Shared} {Hz : Hp} {code : Value} {M : List Str} {scope : Scope} {x : Str} {px : Pos} {fp : List Addr} {pn : List (Addr × Obj)} {a g : Addr} {it : Addr} {tn : Nat → Heap → Prop} {J : It} {elt iter : Expr} {gpos : Pos} {telt : TE} {σ : L2.St}
    {W : Nat → Hp → Prop} {R : Bool → Shared → Prop} {QH : Bool → Hp → Prop} {st : Bool} {n : Nat} (L : GNames X.N M X.env.scope scope x) (hσ : σ.length = X.N.length) (hh : A.handled = none)
    (T : Turn X.prog X.w X.K (.Name x px) J fp it tn) (hpf : ∀ p ∈ pn, p.1 ∉ fp) (hgen : ∃ go, (a, go) ∈ pn ∧ ∀ h : Heap, h.get? a = some go → h.IsGen a g)
    (he : PE (gcx X (A.over (.compLoop (.GeneratorExp elt [⟨.Name x px, iter, [], 0⟩] scope gpos) 0 (.ref it) .none (gnv X scope sz.heap.objs.size code)) []) sz Hz (gnv X scope sz.heap.objs.size code) M fp pn) elt telt)
    (hq : Asks st J n telt σ W QH)
    (hR : ∀ b σ' H s s', Inv (gcx X (A.over (.compLoop (.GeneratorExp elt [⟨.Name x px, iter, [], 0⟩] scope gpos) 0 (.ref it) .none (gnv X scope sz.heap.objs.size code)) []) sz Hz (gnv X scope sz.heap.objs.size code) M fp pn) [] σ' H s → QH b H → Wok s s' → R b s') :
    ∀ (k i : Nat) (s₀ s : Shared) (y : Option V) (H : Hp), n - i = k → i ≤ n → Inv (gcx X (A.over (.compLoop (.GeneratorExp elt [⟨.Name x px, iter, [], 0⟩] scope gpos) 0 (.ref it) .none (gnv X scope sz.heap.objs.size code)) []) sz Hz (gnv X scope sz.heap.objs.size code) M fp pn) [] (σ ++ [y]) H s →
      tn i s.heap → (∀ b ∈ fp, H b = none) → W i H →
      Seg (model X.prog X.w) A (fun n s₀ r s₁ => r = .ok .next ∧ RA st R n s₀ s₁) (YA st R a g) k s₀
        (.compLoop (.GeneratorExp elt [⟨.Name x px, iter, [], 0⟩] scope gpos) 0 (.ref it) .none (gnv X scope sz.heap.objs.size code))
        ((model X.prog X.w).den (.compLoop (.GeneratorExp elt [⟨.Name x px, iter, [], 0⟩] scope gpos) 0 (.ref it) .none (gnv X scope sz.heap.objs.size code))) [] s := by
  generalize hcode : (Code.compLoop (.GeneratorExp elt [⟨.Name x px, iter, [], 0⟩] scope gpos) 0 (.ref it) .none (gnv X scope sz.heap.objs.size code)) = cd at *
  generalize hG : gcx X (A.over cd []) sz Hz (gnv X scope sz.heap.objs.size code) M fp pn = G at *
  have gp : G.prog = X.prog := by rw [← hG]; rfl
  have gw : G.w = X.w := by rw [← hG]; rfl
  have gK : G.K = X.K := by rw [← hG]; rfl
  have gA : G.A = A.over cd [] := by rw [← hG]; rfl
  have gc : G.calm = true := by rw [← hG]; rfl
  have gN : G.N = M := by rw [← hG]; rfl
  have gE : G.env = gnv X scope sz.heap.objs.size code := by rw [← hG]; rfl
  have gex : G.ex = fp := by rw [← hG]; rfl
  have gpn : G.pn = pn := by rw [← hG]; rfl
  have gxe : ∀ e s, ¬ G.xe e s := by rw [← hG]; exact fun _ _ h => h
  have stat : ∀ {s : Shared} {σ' : L2.St} {H : Hp}, Inv G [] σ' H s → (∀ b ∈ fp, H b = none) → ∀ b ∈ fp, FpOk G [] H b := fun {s σ' H} I hn b hb => by
    have hb' : b ∈ G.ex := by rw [gex]; exact hb
    refine ⟨hn b hb, (I.ok.exf b hb').1, I.ok.exfs b hb', .inl hb', (I.ok.exf b hb').2, fun p hp z => ?_⟩
    rcases List.mem_append.mp hp with hp | hp
    · rw [gpn] at hp
      exact hpf p hp (by rw [z]; exact hb)
    · cases hp
  have isg : ∀ {s : Shared} {σ' : L2.St} {H : Hp} {pl : List (Addr × Obj)}, Inv G pl σ' H s → s.heap.IsGen a g := fun {s σ' H pl} I => by
    obtain ⟨go, hm, hh⟩ := hgen
    exact hh _ (I.pin (a, go) (List.mem_append_left _ (by rw [gpn]; exact hm))).1
  intro k
  induction k with
  | zero =>
    intro i s₀ s y H hk hi I ht hf hw
    have hin : i = n := by omega
    subst hin
    obtain ⟨hstop, hq1⟩ := hq.stop H hw
    subst hcode
    show Seg _ A _ _ _ s₀ _ ((compTurn (.GeneratorExp elt [⟨.Name x px, iter, [], 0⟩] scope gpos) 0 (.ref it) .none (gnv X scope sz.heap.objs.size code)).onRaise (leaving (gnv X scope sz.heap.objs.size code))) [] s
    rw [compTurn_gen, Sem.onRaise_eq_wrap]
    refine seg_bind_wrap (wpAny_standAt ?_)
    have hd := T.done G gp gw gK gc i [] s (σ ++ [y]) H (fun _ _ => False) I (stat I hf) ht hstop
    rw [gA] at hd
    refine seg_bind_wrap (wpAny_mono hd (fun r s1 ⟨hr, I1⟩ => ?_) fun _ _ z => z.elim)
    subst hr
    exact seg_end (.ok .next) ⟨rfl, I1.bare, fun s' hs' => hR _ _ _ _ _ I1 hq1 hs'⟩
  | succ k ih =>
    intro i s₀ s y H hk hi I ht hf hw
    have hlt : i < n := by omega
    obtain ⟨hgo, hturn⟩ := hq.turn i H hlt hw
    have hcode' := hcode
    subst hcode
    show Seg _ A _ _ _ s₀ _ ((compTurn (.GeneratorExp elt [⟨.Name x px, iter, [], 0⟩] scope gpos) 0 (.ref it) .none (gnv X scope sz.heap.objs.size code)).onRaise (leaving (gnv X scope sz.heap.objs.size code))) [] s
    rw [compTurn_gen, Sem.onRaise_eq_wrap]
    refine seg_bind_wrap (wpAny_standAt ?_)
    have hd := T.item G gp gw gK gc i [] s (σ ++ [y]) H (fun _ _ => False) I (stat I hf) ht hgo
    rw [gA] at hd
    refine seg_bind_wrap (wpAny_mono hd (fun r s1 ⟨u, hr, hlet⟩ => ?_) fun _ _ z => z.elim)
    subst hr
    refine seg_bind_wrap (wpAny_mono hlet (fun _ s2 ⟨x1, H2, I2, rv, hy, ht2, hf2⟩ => ?_) fun _ _ z => z.elim)
    have hix : G.N[X.N.length]? = some x := by rw [gN]; exact L.last
    have hnd : G.N.Nodup := by rw [gN]; exact L.nd
    have hlc : G.env.scope.names.lookup x = some .local := by rw [gE]; exact L.loc
    have hst := store_ok2 (M := model X.prog X.w) (A := A.over (.compLoop (.GeneratorExp elt [⟨.Name x px, iter, [], 0⟩] scope gpos) 0 (.ref it) .none (gnv X scope sz.heap.objs.size code)) []) (E := fun _ _ => False) (Q := fun _ s3 => ∃ H2', H2' = H2 ∧ Inv G [] ((σ ++ [y]).set X.N.length (some x1)) H2' s3 ∧ tn (i + 1) s3.heap) I2 hnd hix (.inl hlc) rv (fun s3 I3 hsb => by
      obtain ⟨b, hb, hbe⟩ := hsb
      refine ⟨H2, rfl, I3, T.keep _ _ _ ht2 fun c hc o e => (hb.2 c fun z => ?_).trans e⟩
      rcases hbe with q | q
      · exact (stat I2 hf2 c hc).2.1 (z.trans q)
      · exact (stat I2 hf2 c hc).2.2.2.2.1 x b q z.symm) (.inr hlc)
    rw [gE] at hst
    refine seg_bind_wrap (wpAny_assign_Name (wpAny_mono hst (fun _ s3 ⟨H3, e3, I3, ht3⟩ => ?_) fun _ _ z => z.elim))
    subst e3
    have hset : (σ ++ [y]).set X.N.length (some x1) = σ ++ [some x1] := by
      rw [← hσ, List.set_append_right _ _ (Nat.le_refl _), Nat.sub_self]
      rfl
    rw [hset] at I3
    simp only [List.forIn_nil]
    refine seg_bind_wrap (wpAny_pure ?_)
    simp only [if_true]
    have hyo : ∀ v, yieldOut (gnv X scope sz.heap.objs.size code) v = yieldValue v := fun v => by
      have hco : (gnv X scope sz.heap.objs.size code).scope.isCoroutine = false := L.co
      simp only [yieldOut, hco, Bool.false_eq_true, if_false]
    simp only [hyo]
    rw [Sem.bind_eq_wrap', Sem.bind_eq_wrap', Sem.wrap_wrap, Sem.wrap_wrap]
    have I3' := I3.pinned (stat I3 hf2) (T.obj _ _ ht3)
    have hrun := he.run _ s3 (σ ++ [some x1]) H3 _ I3' (hturn x1 H3 hy)
    rw [gA, gE, gp, gw] at hrun
    refine seg_wrap (wpAny_mono hrun (fun u4 s4 h4 => ?_) fun e s4 z => (gxe e s4 z).elim)
    obtain ⟨v4, H4, I4, r4, b, rfl, hgo4, hst4⟩ := h4
    have e4 : u4 = .bool b := r4
    subst e4
    have keep4 : ∀ c ∈ fp, ∀ o, s3.heap.get? c = some o → s4.heap.get? c = some o ∧ H4 c = none := fun c hc o e => by
      obtain ⟨q1, q2, _⟩ := I4.pin (c, o) (List.mem_append_right _ (List.mem_append_right _ (mem_pinsAt hc e)))
      exact ⟨q1, q2⟩
    have ht4 : tn (i + 1) s4.heap := T.keep _ _ _ ht3 fun c hc o e => (keep4 c hc o e).1
    have hf4 : ∀ c ∈ fp, H4 c = none := fun c hc => by
      obtain ⟨o, e, _⟩ := T.obj _ _ ht3 c hc
      exact (keep4 c hc o e).2
    refine seg_at (seg_yield rfl rfl rfl ⟨I4.nolimit, I4.bare, isg I4, b, rfl, fun hb s'' hw => ?_, fun hb s'' hw => ?_⟩)
    · refine seg_again rfl (ih (i + 1) s'' s'' (some x1) H4 (by omega) hlt (Inv.wok I4.unpinned hw) (T.keep _ _ _ ht4 fun c _ o e => hw.keep c o e) hf4 (hgo4 hb))
    · exact hR _ _ _ _ _ I4.unpinned (hst4 hb) hw

/-! ### the making -/
def Made (X : Cx) (pins : List (Addr × Obj)) (σ : L2.St) (k : Nat) (st : Bool) (Q : VK) (u : Value) (s5 : Shared) : Prop :=
  ∃ (a g : Addr) (n : Nat) (c : Code), u = .ref a ∧ s5.heap.IsGen a g ∧ s5.heap.NoLimit ∧ s5.gens[g]? = some (.fresh c) ∧
    ∀ A : Around, Room k A → A.frames = some X.stack → Seg (model X.prog X.w) A (fun n s₀ r s₁ => r = .ok .next ∧ RA st (fun b s' => ∃ H', Inv X pins σ H' s' ∧ Q (.bl b) H') n s₀ s₁)
      (YA st (fun b s' => ∃ H', Inv X pins σ H' s' ∧ Q (.bl b) H') a g) n (s5.setGen g .running) c ((model X.prog X.w).den c) [] (s5.setGen g .running)
theorem room_gen {k : Nat} {A : Around} {e : Expr} {it v : Value} {env : Env} (h : Room (k + 1) A) (hw : (Code.compLoop e 0 it v env).weight = 1 := by rfl) (hu : (Code.compLoop e 0 it v env).cUnits ≤ 3 := by exact Nat.le_of_eq rfl) : Room k (A.over (.compLoop e 0 it v env) []) := by
  refine ⟨h.hd, ?_, ?_⟩
  · have := h.dp
    show A.depth + frameCount [] + (Code.compLoop e 0 it v env).weight + 3 * k + 5 < _
    have e0 : frameCount [] = 0 := rfl
    omega
  · have := h.un
    show A.units + unitsOf [] + (Code.compLoop e 0 it v env).cUnits + 16 * k + 200 < _
    have e0 : unitsOf [] = 0 := rfl
    omega
/-- the reading: the walk; the table at P may have grown; then what the walk and the element are asked -/
def tGen (st : Bool) (P : Addr) (wi : TI) (telt : TE) : TE := fun σ H Q => wi σ H fun J H1 => GxR.TabG H1 P ∧ ∀ H2, GxR.Tabbed P H1 H2 → ∃ (n : Nat) (W : Nat → Hp → Prop), W 0 H2 ∧ Asks st J n telt σ W fun b H' => Q (.bl b) H'
section
variable {X : Cx} {pins : List (Addr × Obj)} {σ : L2.St} {H : Hp} {s : Shared}
theorem gen_made {c P : Addr} {elt iter : Expr} {x : Str} {M : List Str} {px gpos : Pos} {scope : Scope} {wi : TI} {telt : TE} {k : Nat} {st : Bool} {Q : VK} (hr : Room (k + 1) X.A) (TB : LamX.TabB X.base X.mg c P) (hcode : X.env.code = .ref c) (L : GNames X.N M X.env.scope scope x)
    (hi : PI X (.Name x px) iter wi) (hs : ∀ v, genFold iter X.env v = pure v) (he : ∀ (A : Around) (sz : Shared) (Hz : Hp) (C : Addr) (code : Value) (fp : List Addr) (pn : List (Addr × Obj)), Room k A → PE (gcx X A sz Hz (gnv X scope C code) M fp pn) elt telt)
    (I : Inv X pins σ H s) (h : tGen st P wi telt σ H Q) :
    wpAny (model X.prog X.w) X.A (eval (.GeneratorExp elt [⟨.Name x px, iter, [], 0⟩] scope gpos) X.env) (Made X pins σ (k + 1) st Q) X.xe s := by
  refine wpAny_GeneratorExp_make L.co (closure_ok (L.has I.ok)) L.cell L.dot L.kind hr.depth ?_ hs
  refine wpAny_mono (hi.run pins s σ H _ I h) (fun xv s1 h1 => wpAny_mono h1 (fun itv s2 h2 => ?_) fun _ _ z => z) fun _ _ z => z
  obtain ⟨it, fp, tn, J, H1, rfl, I2, T, ht, hf, ⟨ps, hP, htr⟩, hA⟩ := h2
  have hPs : s2.heap.get? P = some { cls := .none, data := .fields ps } := I2.hok P _ hP
  have hPlt : P < s2.heap.objs.size := Heap.lt_size hPs
  have cd : PySem.W.CodeHd s2.heap c P := TB.code.keeps fun b u e => I2.bk b u e
  refine ⟨I2.nolimit, ?_⟩
  have nt : ∀ b u, H1 b = some u → (∀ q, u ≠ .tbl q) → b ≠ P := fun b u e q z => by
    rw [z, hP] at e
    exact q ps (Option.some.inj e).symm
  have fpP : ∀ b ∈ fp, b ≠ P := fun b hb z => by
    have q := (hf b hb).1
    rw [z, hP] at q
    cases q
  have cont : ∀ (code : Value) (h3 : Heap) (tk : Nat) (ps' : Array Value), Heap.ExtBut P s2.heap h3 → s2.heap.objs.size ≤ h3.objs.size → h3.get? P = some { cls := .none, data := .fields ps' } → (∃ more, ps' = ps ++ more) → TriplesOk ps'.toList →
      wpAny (model X.prog X.w) X.A (builtinsFor X.env.globals X.env.builtins) (fun bi s₄ =>
        ∀ h', h'.Ns s₄.heap.objs.size (fun y => if y = ".0" then some (Value.ref it) else none) → Heap.SameBut s₄.heap.objs.size (s₄.heap.push { cls := .type "frame", data := .dict #[] }) h' →
          Made X pins σ (k + 1) st Q (.ref h'.objs.size) { s₄ with
            gens := s₄.gens.push (.fresh (.compStart (.GeneratorExp elt [⟨.Name x px, iter, [], 0⟩] scope gpos) 0 (.ref it) .none (genEnv scope (cloFrom X.env.cells scope.names []) s₄.heap.objs.size code bi X.env))),
            toks := s₄.toks + 1 + 1 + 1,
            heap := h'.push { cls := .type "generator", data := .fields #[.int s₄.gens.size 0, .str "<genexpr>" (s₄.toks + 1), .str (X.env.qual ++ "<genexpr>") (s₄.toks + 1 + 1)] } }) X.xe { s2 with heap := h3, toks := tk } := by
    intro code h3 tk ps' hx hsz hP3 hmore ht3
    obtain ⟨bm, ob, e1, e2, e3, e4, e5, e6, e7, e8⟩ := TB.bm
    have keep3 : ∀ b u, b ≠ P → s2.heap.get? b = some u → h3.get? b = some u := fun b u hb e => hx b u hb e
    refine wpAny_builtinsFor (m := X.mg) (by rw [I2.ok.glob]; exact (I2.mod.glob.keeps I2.bk).extBut hx TB.gP) e1 e2 (keep3 _ _ e4 (I2.bk _ _ e5)) e6 e7 e8 ?_
    obtain ⟨more, em⟩ := hmore
    have I4 : Inv X pins σ (upd H1 P (.tbl (ps ++ more))) { s2 with heap := h3, toks := tk } :=
      GxR.inv_tab (g' := s2.gens) (d' := s2.drawn) I2 hP keep3 (by rw [← em]; exact hP3) I2.bare
    have tb4 : GxR.Tabbed P H1 (upd H1 P (.tbl (ps ++ more))) := ⟨⟨ps ++ more, upd_same, by rw [← em]; exact ht3⟩, fun b hb => upd_ne hb⟩
    have hf4 : ∀ b ∈ fp, FpOk X pins (upd H1 P (.tbl (ps ++ more))) b ∧ b < h3.objs.size := fun b hb => by
      refine ⟨⟨by rw [upd_ne (fpP b hb)]; exact (hf b hb).1, (hf b hb).2⟩, ?_⟩
      obtain ⟨o, e, _⟩ := T.obj _ _ ht b hb
      exact Heap.lt_size (keep3 b o (fpP b hb) e)
    have ht4 : tn 0 h3 := T.keep _ _ _ ht fun b hb o e => keep3 b o (fpP b hb) e
    intro h' hns hsb
    obtain ⟨n, W, hW, hasks⟩ := hA _ tb4
    have sz' : h'.objs.size = h3.objs.size + 1 := by rw [hsb.1, Heap.size_push]
    have keep' : ∀ b o, h3.get? b = some o → h'.get? b = some o := fun b o e => hsb.extBut b o (Nat.ne_of_lt (Heap.lt_size e)) (Heap.get?_push_of_some _ e)
    have keep5 : ∀ b o, h3.get? b = some o → (h'.push { cls := .type "generator", data := .fields #[.int s2.gens.size 0, .str "<genexpr>" (tk + 1), .str (X.env.qual ++ "<genexpr>") (tk + 1 + 1)] }).get? b = some o := fun b o e => Heap.get?_push_of_some _ (keep' b o e)
    have hgo : (h'.push { cls := .type "generator", data := .fields #[.int s2.gens.size 0, .str "<genexpr>" (tk + 1), .str (X.env.qual ++ "<genexpr>") (tk + 1 + 1)] }).get? h'.objs.size = some { cls := .type "generator", data := .fields #[.int s2.gens.size 0, .str "<genexpr>" (tk + 1), .str (X.env.qual ++ "<genexpr>") (tk + 1 + 1)] } := Heap.get?_push_size _ rfl
    refine ⟨h'.objs.size, s2.gens.size, n, _, rfl, ⟨_, _, _, hgo, rfl, rfl, rfl⟩, I4.nolimit.keeps keep5, Array.getElem?_push_size .., fun A hrA hfr => ?_⟩
    have hh := hrA.hd
    have hfp0 : ∀ b ∈ fp, (upd H1 P (.tbl (ps ++ more))) b = none := fun b hb => (hf4 b hb).1.1
    -- the state in which the generator is woken
    have Ist : Inv (gcx X (A.over (.compLoop (.GeneratorExp elt [⟨.Name x px, iter, [], 0⟩] scope gpos) 0 (.ref it) .none (gnv X scope h3.objs.size code)) []) { s2 with heap := h3, toks := tk } (upd H1 P (.tbl (ps ++ more))) (gnv X scope h3.objs.size code) M fp
        [(h'.objs.size, { cls := .type "generator", data := .fields #[.int s2.gens.size 0, .str "<genexpr>" (tk + 1), .str (X.env.qual ++ "<genexpr>") (tk + 1 + 1)] })]) [] (σ ++ [none]) (upd H1 P (.tbl (ps ++ more)))
        (Shared.setGen { s2 with gens := s2.gens.push (.fresh (.compStart (.GeneratorExp elt [⟨.Name x px, iter, [], 0⟩] scope gpos) 0 (.ref it) .none (gnv X scope h3.objs.size code))), toks := tk + 1 + 1 + 1, heap := h'.push { cls := .type "generator", data := .fields #[.int s2.gens.size 0, .str "<genexpr>" (tk + 1), .str (X.env.qual ++ "<genexpr>") (tk + 1 + 1)] } } s2.gens.size .running) := by
      refine gstart (itv := .ref it) I4 L hh ?_ hf4 keep5 (hns.push _) (allBare_setGen (I2.bare.push rfl) rfl) fun p hp => ?_
      · show pushEnvs [gnv X scope h3.objs.size code] (pushEnvs (envsOf []) A.frames) = _
        rw [hfr]
        rfl
      · rw [List.mem_singleton.mp hp]
        refine ⟨hgo, ?_, ?_, ?_, fun v q => by cases q⟩
        · exact I4.hok.fresh (show h3.objs.size ≤ h'.objs.size by rw [sz']; exact Nat.le_succ _)
        · show h'.objs.size ≠ h3.objs.size
          rw [sz']
          exact Nat.succ_ne_self _
        · intro z
          have hle : h3.objs.size ≤ h'.objs.size := by rw [sz']; exact Nat.le_succ _
          rcases List.mem_cons.mp (I4.stkSub _ z) with q | q
          · have := I4.lt
            have q' : h'.objs.size = X.env.locals := q
            have this' : X.env.locals < h3.objs.size := this
            rw [q'] at hle
            exact absurd this' (Nat.not_lt.mpr hle)
          · exact I4.nofs hle q
    have loop := seg_loop (X := X) (M := M) (A := A) (st := st) (R := fun b s' => ∃ H', Inv X pins σ H' s' ∧ Q (.bl b) H') (a := h'.objs.size) (g := s2.gens.size) L I2.len hh T
      (pn := [(h'.objs.size, { cls := .type "generator", data := .fields #[.int s2.gens.size 0, .str "<genexpr>" (tk + 1), .str (X.env.qual ++ "<genexpr>") (tk + 1 + 1)] })])
      (fun p hp hm => by
        rw [List.mem_singleton.mp hp] at hm
        have := (hf4 _ hm).2
        have h9 : h'.objs.size < h3.objs.size := this
        omega)
      ⟨_, List.mem_singleton.mpr rfl, fun h e => ⟨_, _, _, e, rfl, rfl, rfl⟩⟩
      (he (A.over (.compLoop (.GeneratorExp elt [⟨.Name x px, iter, [], 0⟩] scope gpos) 0 (.ref it) .none (gnv X scope h3.objs.size code)) []) { s2 with heap := h3, toks := tk } (upd H1 P (.tbl (ps ++ more))) h3.objs.size code fp _ (room_gen hrA)) hasks
      (fun b σ' H' s s' Ig hq hw => by
        refine ⟨H', I4.call' (ch := fp) (hw.os.trans Ig.os) (Ig.base.trans (Un.kept hw.keep)) (Ig.hok.kept hw.keep) hw.bare fun b hb => ?_, hq⟩
        obtain ⟨_, f1, f2, f3, f4, f5⟩ := (hf4 b hb).1
        exact ⟨f3, f1, f4, f5⟩)
      n 0 (Shared.setGen { s2 with gens := s2.gens.push (.fresh (.compStart (.GeneratorExp elt [⟨.Name x px, iter, [], 0⟩] scope gpos) 0 (.ref it) .none (gnv X scope h3.objs.size code))), toks := tk + 1 + 1 + 1, heap := h'.push { cls := .type "generator", data := .fields #[.int s2.gens.size 0, .str "<genexpr>" (tk + 1), .str (X.env.qual ++ "<genexpr>") (tk + 1 + 1)] } } s2.gens.size .running)
      _ none _ (Nat.sub_zero _) (Nat.zero_le _) Ist (T.keep _ _ _ ht4 fun b _ o e => keep5 b o e) hfp0 hW
    show Seg _ A _ _ _ _ _ ((compStart (.GeneratorExp elt [⟨.Name x px, iter, [], 0⟩] scope gpos) 0 (.ref it) .none (gnv X scope h3.objs.size code)).onRaise (leaving (gnv X scope h3.objs.size code))) [] _
    unfold compStart
    rw [Sem.onRaise_eq_wrap]
    show Seg _ A _ _ _ _ _ ((ask >>= _).wrap _ _ _ _) [] _
    have ht5 : tn 0 (h'.push { cls := .type "generator", data := .fields #[.int s2.gens.size 0, .str "<genexpr>" (tk + 1), .str (X.env.qual ++ "<genexpr>") (tk + 1 + 1)] }) := T.keep _ _ _ ht4 fun b _ o e => keep5 b o e
    refine seg_bind_wrap (wpAny_askSetting ?_)
    split
    · exact seg_again rfl loop
    · first
        | exact seg_bind_wrap (wpAny_rule (seg_bind_wrap (wpAny_standAt (seg_bind_wrap (T.self _ 0 _ _ _ ht5 (seg_again rfl loop))))))
        | (refine seg_bind_wrap (wpAny_rule ?_); show Seg _ _ _ _ _ _ _ ((standAt iter.pos >>= _).wrap _ _ _ _) [] _; exact seg_bind_wrap (wpAny_standAt (seg_bind_wrap (T.self _ 0 _ _ _ ht5 (seg_again rfl loop)))))
  cases hfnd : codeAmong gpos ps.toList with
  | none =>
    refine wpAny_genexprCodeX hcode (cd.code hPs htr) (cd.tab hPs) hfnd fun c' h' tk hx hge hlt hco' _ htab' _ => ?_
    obtain ⟨o1, vs, f1, tf, fl, tg, inF, tx, tt, op, _, _, _, _, _, _, _, _, _, htr', _⟩ := hco'
    exact cont _ h' tk _ hx (Nat.le_trans hge (Nat.le_of_lt hlt)) htab'.2 ⟨_, rfl⟩ htr'
  | some cv =>
    refine wpAny_genexprCode_hit hcode (cd.code hPs htr) hfnd ?_
    exact cont cv s2.heap s2.toks ps (Heap.ExtBut.refl _ _) (Nat.le_refl _) hPs ⟨#[], by simp⟩ htr
theorem pe_all {c P : Addr} {elt iter : Expr} {x : Str} {M : List Str} {px p pos gpos : Pos} {scope : Scope} {wi : TI} {telt : TE} {k : Nat} (hr : Room (k + 2) X.A) (hg : Gl X "all") (hm : X.mg "all" = none) (TB : LamX.TabB X.base X.mg c P) (hcode : X.env.code = .ref c) (L : GNames X.N M X.env.scope scope x)
    (hi : PI X (.Name x px) iter wi) (he : ∀ (A : Around) (sz : Shared) (Hz : Hp) (C : Addr) (code : Value) (fp : List Addr) (pn : List (Addr × Obj)), Room k A → PE (gcx X A sz Hz (gnv X scope C code) M fp pn) elt telt)
    (hs : ∀ v, genFold iter X.env v = pure v := by intro _; rfl) (hb : bootBuiltins "all" = some (.builtin "all") := by decide +kernel)
    (he2 : starEach [.GeneratorExp elt [⟨.Name x px, iter, [], 0⟩] scope gpos] X.env = (false, eval (.GeneratorExp elt [⟨.Name x px, iter, [], 0⟩] scope gpos) X.env) :: starEach [] X.env := by rfl) :
    PE X (.Call (.Name "all" p) [.GeneratorExp elt [⟨.Name x px, iter, [], 0⟩] scope gpos] [] pos) (tGen false P wi telt) := by
  refine ⟨fun pins s σ H Q I h => ?_⟩
  refine wpAny_Call_Name_kw (ld_blt I hg hm hb ?_)
  refine PyProof.Rows.callWith_builtin1 ?_ he2 (by rfl)
  rw [he2]
  show wpAny _ _ (spliced ((false, eval (.GeneratorExp elt [⟨.Name x px, iter, [], 0⟩] scope gpos) X.env) :: backTo pos (starEach [] X.env))) _ _ s
  have hk1 : Room (k + 1) X.A := hr.mono (Nat.le_succ _)
  refine Calls.spliced_cons (thn (gen_made hk1 TB hcode L hi hs he I h) fun u s5 hM => ?_)
  obtain ⟨a, g, n, cd, rfl, hgen, hl, hgs, hseg⟩ := hM
  refine Calls.spliced_nil ?_
  refine call_function_tree F.kind_all F.plain_all F.entry_all (F.args_all1 _) ?_
  unfold Builtin.«all»
  refine wpAny_bind (m := oneArg "all" _) (wpAny_pure ?_)
  refine wpAny_bind (wpAny_pyIter_gen hgen ?_)
  refine wpAny_pure ⟨plainId_quiet F.plain_all_loop _, all_loop (A := X.A) (R := fun b s' => ∃ H', Inv X pins σ H' s' ∧ Q (.bl b) H') hr.hd hr.depth (fun b s' ⟨H', I', q⟩ => ⟨.bl b, H', I', rfl, q⟩) n s5 hgen hl ⟨_, hgs, rfl, hseg _ ?_ ?_⟩⟩
  · exact ⟨hr.hd, by have := hr.dp; show X.A.depth + 3 * (k + 1) + 5 < _; omega, by have := hr.un; show X.A.units + 1 + 1 + 16 * (k + 1) + 200 < _; omega⟩
  · exact I.ok.frames
theorem pe_any {c P : Addr} {elt iter : Expr} {x : Str} {M : List Str} {px p pos gpos : Pos} {scope : Scope} {wi : TI} {telt : TE} {k : Nat} (hr : Room (k + 2) X.A) (hg : Gl X "any") (hm : X.mg "any" = none) (TB : LamX.TabB X.base X.mg c P) (hcode : X.env.code = .ref c) (L : GNames X.N M X.env.scope scope x)
    (hi : PI X (.Name x px) iter wi) (he : ∀ (A : Around) (sz : Shared) (Hz : Hp) (C : Addr) (code : Value) (fp : List Addr) (pn : List (Addr × Obj)), Room k A → PE (gcx X A sz Hz (gnv X scope C code) M fp pn) elt telt)
    (hs : ∀ v, genFold iter X.env v = pure v := by intro _; rfl) (hb : bootBuiltins "any" = some (.builtin "any") := by decide +kernel)
    (he2 : starEach [.GeneratorExp elt [⟨.Name x px, iter, [], 0⟩] scope gpos] X.env = (false, eval (.GeneratorExp elt [⟨.Name x px, iter, [], 0⟩] scope gpos) X.env) :: starEach [] X.env := by rfl) :
    PE X (.Call (.Name "any" p) [.GeneratorExp elt [⟨.Name x px, iter, [], 0⟩] scope gpos] [] pos) (tGen true P wi telt) := by
  refine ⟨fun pins s σ H Q I h => ?_⟩
  refine wpAny_Call_Name_kw (ld_blt I hg hm hb ?_)
  refine PyProof.Rows.callWith_builtin1 ?_ he2 (by rfl)
  rw [he2]
  show wpAny _ _ (spliced ((false, eval (.GeneratorExp elt [⟨.Name x px, iter, [], 0⟩] scope gpos) X.env) :: backTo pos (starEach [] X.env))) _ _ s
  have hk1 : Room (k + 1) X.A := hr.mono (Nat.le_succ _)
  refine Calls.spliced_cons (thn (gen_made hk1 TB hcode L hi hs he I h) fun u s5 hM => ?_)
  obtain ⟨a, g, n, cd, rfl, hgen, hl, hgs, hseg⟩ := hM
  refine Calls.spliced_nil ?_
  refine call_function_tree F.kind_any F.plain_any F.entry_any (F.args_any1 _) ?_
  unfold Builtin.«any»
  refine wpAny_bind (m := oneArg "any" _) (wpAny_pure ?_)
  refine wpAny_bind (wpAny_pyIter_gen hgen ?_)
  refine wpAny_pure ⟨plainId_quiet F.plain_any_loop _, any_loop (A := X.A) (R := fun b s' => ∃ H', Inv X pins σ H' s' ∧ Q (.bl b) H') hr.hd hr.depth (fun b s' ⟨H', I', q⟩ => ⟨.bl b, H', I', rfl, q⟩) n s5 hgen hl ⟨_, hgs, rfl, hseg _ ?_ ?_⟩⟩
  · exact ⟨hr.hd, by have := hr.dp; show X.A.depth + 3 * (k + 1) + 5 < _; omega, by have := hr.un; show X.A.units + 1 + 1 + 16 * (k + 1) + 200 < _; omega⟩
  · exact I.ok.frames
end
end GA

set_option Elab.async false
set_option linter.all false
set_option maxRecDepth 100000
set_option maxHeartbeats 4000000
/-! what grows, and data without lists -/
namespace TK
open PySem PySem.Spec PyProof.Rows L2

/-- a tracked object stays, or is a table of code objects that stays one -/
def Kp (o : HO) (x : Option HO) : Prop := x = some o ∨ ∃ ps ps' : Array Value, o = .tbl ps ∧ x = some (.tbl ps') ∧ (TriplesOk ps.toList → TriplesOk ps'.toList)
/-- all that was tracked outside of S is kept, tables grow -/
def Gx (S : List Addr) (H H' : Hp) : Prop := ∀ b o, b ∉ S → H b = some o → Kp o (H' b)
abbrev Gr (H H' : Hp) : Prop := Gx [] H H'
variable {S : List Addr} {H H1 H2 H' : Hp} {K : PySem.W.Frag}
theorem Gx.refl : Gx S H H := fun _ _ _ e => .inl e
theorem Gr.refl : Gr H H := Gx.refl
theorem Kp.trans {o : HO} {x y : Option HO} (a : Kp o x) (b : ∀ u, x = some u → Kp u y) : Kp o y := by
  rcases a with a | ⟨ps, ps', rfl, a, k⟩
  · exact b o a
  · rcases b _ a with b | ⟨qs, qs', e, b, k'⟩
    · exact .inr ⟨ps, ps', rfl, b, k⟩
    · cases e
      exact .inr ⟨ps, qs', rfl, b, fun z => k' (k z)⟩
theorem Gx.trans (a : Gx S H H1) (b : Gx S H1 H2) : Gx S H H2 := fun c o hc e => (a c o hc e).trans fun u e' => b c u hc e'
theorem Gx.mono {S' : List Addr} (a : Gx S H H1) (h : ∀ b ∈ S, b ∈ S') : Gx S' H H1 := fun c o hc e => a c o (fun z => hc (h c z)) e
theorem Gr.x (a : Gr H H1) : Gx S H H1 := a.mono fun _ z => by simp at z
theorem Gx.thn (a : Gx S H H1) (b : Gr H1 H2) : Gx S H H2 := a.trans b.x
theorem Gr.thn (a : Gr H H1) (b : Gx S H1 H2) : Gx S H H2 := a.x.trans b
theorem Gx.same (a : Same H H1) : Gx S H H1 := fun b o _ e => .inl (a b o e)
theorem Gx.new {p : Addr} {o : HO} (h : H p = none) : Gx S H (upd H p o) := fun b u _ e => .inl (by rw [upd_ne (ne_of_none e h)]; exact e)
/-- an object that was not tracked at the start is written -/
theorem Gx.wr {p : Addr} {o : HO} (a : Gx S H H1) (h : H p = none) : Gx S H (upd H1 p o) := fun b u hb e => by
  rw [upd_ne (ne_of_none e h)]
  exact a b u hb e
theorem Gx.wrS {p : Addr} {o : HO} (a : Gx S H H1) (h : p ∈ S) : Gx S H (upd H1 p o) := fun b u hb e => by
  rw [upd_ne (fun z => hb (by rw [z]; exact h))]
  exact a b u hb e
theorem Kp.some {o : HO} {x : Option HO} (a : Kp o x) : x ≠ none := by
  rcases a with a | ⟨_, _, _, a, _⟩ <;> rw [a] <;> simp
theorem Gx.freeS (a : Gx S H H1) {p : Addr} (h : H1 p = none) : p ∈ S ∨ H p = none := by
  by_cases hp : p ∈ S
  · exact .inl hp
  · cases q : H p with
    | none => exact .inr rfl
    | some o => exact absurd h (a p o hp q).some
theorem Gx.free (a : Gx [] H H1) {p : Addr} (h : H1 p = none) : H p = none := (Gx.freeS a h).elim (fun z => by simp at z) id
theorem Gr.free (a : Gr H H1) {p : Addr} (h : H1 p = none) : H p = none := (Gx.freeS a h).elim (fun z => by simp at z) id
theorem Gx.at (a : Gx S H H1) {p : Addr} {o : HO} (hp : p ∉ S) (h : H p = some o) (ho : ∀ ps, o ≠ .tbl ps) : H1 p = some o := by
  rcases a p o hp h with z | ⟨ps, _, z, _⟩
  · exact z
  · exact absurd z (ho ps)
theorem Gx.lst (a : Gx [] H H1) {p : Addr} {xs : List V} (h : H p = some (.lst xs)) : H1 p = some (.lst xs) := Gx.at a (by simp) h fun _ z => by cases z
theorem Gr.lst (a : Gr H H1) {p : Addr} {xs : List V} (h : H p = some (.lst xs)) : H1 p = some (.lst xs) := Gx.at a (by simp) h fun _ z => by cases z
/-- the addresses of S hold lists -/
def LS (S : List Addr) (H : Hp) : Prop := ∀ b ∈ S, ∃ xs, H b = some (.lst xs)
theorem LS.nil : LS [] H := fun _ z => by simp at z
theorem Gx.rdT (a : Gx S H H1) (hS : LS S H) {p : Addr} {xs : List V} (h : Rd H p (.tup xs)) : Rd H1 p (.tup xs) := by
  have hp : p ∉ S := fun z => by
    obtain ⟨ys, e⟩ := hS p z
    rcases h with h | ⟨o, h⟩ <;> rw [e] at h <;> cases h
  rcases h with h | ⟨o, h⟩
  · exact .inl (a.at hp h fun _ z => by cases z)
  · exact .inr ⟨o, a.at hp h fun _ z => by cases z⟩
theorem Gx.seqTS (a : Gx S H H1) (hS : LS S H) {p : Addr} {xs : List V} (h : SqT K H p xs) : SqT K H1 p xs := h.elim (fun z => .inl (a.rdT hS z)) .inr
theorem Gx.seqT (a : Gx [] H H1) {p : Addr} {xs : List V} (h : SqT K H p xs) : SqT K H1 p xs := Gx.seqTS a .nil h
theorem Gr.seqT (a : Gr H H1) {p : Addr} {xs : List V} (h : SqT K H p xs) : SqT K H1 p xs := Gx.seqTS a .nil h
theorem Gx.seqL (a : Gx [] H H1) {p : Addr} {xs : List V} (h : SqL K H p xs) : SqL K H1 p xs := by
  rcases h with (h | ⟨o, h⟩) | h
  · exact .inl (.inl (Gx.at a (by simp) h fun _ z => by cases z))
  · exact .inl (.inr ⟨o, Gx.at a (by simp) h fun _ z => by cases z⟩)
  · exact .inr h
theorem Gr.seqL (a : Gr H H1) {p : Addr} {xs : List V} (h : SqL K H p xs) : SqL K H1 p xs := Gx.seqL a h
/-! tables -/
def TT (T : List Addr) (H : Hp) : Prop := ∀ P ∈ T, GxR.TabG H P
theorem Gx.tab {P : Addr} (a : Gx S H H1) (hP : P ∉ S) (h : GxR.TabG H P) : GxR.TabG H1 P := by
  obtain ⟨ps, e, k⟩ := h
  rcases a P _ hP e with z | ⟨qs, qs', z, z', k'⟩
  · exact ⟨ps, z, k⟩
  · cases z
    exact ⟨qs', z', k' k⟩
theorem Gx.ttS {T : List Addr} (a : Gx S H H1) (hS : LS S H) (h : TT T H) : TT T H1 := fun P hP => a.tab (fun z => by
  obtain ⟨xs, e⟩ := hS P z
  obtain ⟨ps, e', _⟩ := h P hP
  rw [e] at e'
  cases e') (h P hP)
theorem Gx.tt {T : List Addr} (a : Gx [] H H1) (h : TT T H) : TT T H1 := Gx.ttS a .nil h
theorem Gr.tt {T : List Addr} (a : Gr H H1) (h : TT T H) : TT T H1 := Gx.ttS a .nil h
theorem Gx.tabbed {P : Addr} (h : GxR.TabG H P) (t : GxR.Tabbed P H H1) : Gx S H H1 := fun b o hb e => by
  by_cases q : b = P
  · subst q
    obtain ⟨ps, e', k⟩ := h
    obtain ⟨⟨ps', e'', k'⟩, _⟩ := t
    rw [e] at e'
    cases e'
    exact .inr ⟨ps, ps', rfl, e'', fun _ => k'⟩
  · exact .inl (by rw [t.2 b q]; exact e)
theorem Gx.ls {S' : List Addr} (a : Gx S H H1) (h : LS S' H) (hd : ∀ b ∈ S', b ∉ S) : LS S' H1 := fun b hb => by
  obtain ⟨xs, e⟩ := h b hb
  exact ⟨xs, a.at (hd b hb) e fun _ z => by cases z⟩

/-! ### data: ints and tuples (None, bools, texts too), no lists -/
inductive DT (K : PySem.W.Frag) (H : Hp) : V → PyData → Prop
  | non : DT K H .non .none
  | bl (b : Bool) : DT K H (.bl b) (.bool b)
  | int (i : Int) : DT K H (.int i) (.int i)
  | str (x : Str) : DT K H (.str x) (.str x)
  | tup {a : Addr} {xs : List V} {ds : List PyData} : H a = some (.tup xs) → (hl : xs.length = ds.length) → (∀ (i : Nat) v d, xs[i]? = some v → ds[i]? = some d → DT K H v d) → DT K H (.ref a) (.tuple ds)
def DTs (K : PySem.W.Frag) (H : Hp) (vs : List V) (ds : List PyData) : Prop := vs.length = ds.length ∧ ∀ (i : Nat) v d, vs[i]? = some v → ds[i]? = some d → DT K H v d
theorem DT.mk {a : Addr} {xs : List V} {ds : List PyData} (h : H a = some (.tup xs)) (q : DTs K H xs ds) : DT K H (.ref a) (.tuple ds) := .tup h q.1 q.2
theorem DT.int_inv {v : V} {n : Int} (h : DT K H v (.int n)) : v = .int n := by
  cases h
  rfl
theorem DT.tup_invS {v : V} {ds : List PyData} (h : DT K H v (.tuple ds)) : ∃ a xs, v = .ref a ∧ H a = some (.tup xs) ∧ DTs K H xs ds := by
  cases h with
  | tup h1 h2 h3 => exact ⟨_, _, rfl, h1, h2, h3⟩
theorem DT.tup_inv {v : V} {ds : List PyData} (h : DT K H v (.tuple ds)) : ∃ a xs, v = .ref a ∧ SqT K H a xs ∧ DTs K H xs ds :=
  let ⟨a, xs, e, h1, h2⟩ := h.tup_invS
  ⟨a, xs, e, .inl (.inl h1), h2⟩
theorem Gx.tupS (a : Gx S H H1) (hS : LS S H) {p : Addr} {xs : List V} (h : H p = some (.tup xs)) : H1 p = some (.tup xs) := by
  refine a.at (fun z => ?_) h fun _ z => by cases z
  obtain ⟨ys, e⟩ := hS p z
  rw [e] at h
  cases h
theorem DT.gx (a : Gx S H H1) (hS : LS S H) {v : V} {d : PyData} (h : DT K H v d) : DT K H1 v d := by
  induction h with
  | non => exact .non
  | bl b => exact .bl b
  | int i => exact .int i
  | str x => exact .str x
  | tup h1 h2 _ ih => exact .tup (Gx.tupS a hS h1) h2 ih
theorem DT.gr (a : Gr H H1) {v : V} {d : PyData} (h : DT K H v d) : DT K H1 v d := DT.gx a .nil h
theorem DTs.gx (a : Gx S H H1) (hS : LS S H) {vs : List V} {ds : List PyData} (h : DTs K H vs ds) : DTs K H1 vs ds := ⟨h.1, fun i v d e e' => (h.2 i v d e e').gx a hS⟩
theorem DTs.gr (a : Gr H H1) {vs : List V} {ds : List PyData} (h : DTs K H vs ds) : DTs K H1 vs ds := h.gx a .nil
theorem DTs.nil : DTs K H [] [] := ⟨rfl, fun i v d e => by simp at e⟩
theorem DTs.cons {v : V} {d : PyData} {vs : List V} {ds : List PyData} (h : DT K H v d) (q : DTs K H vs ds) : DTs K H (v :: vs) (d :: ds) := by
  refine ⟨by rw [List.length_cons, List.length_cons, q.1], fun i w e h1 h2 => ?_⟩
  cases i with
  | zero =>
    cases h1
    cases h2
    exact h
  | succ i => exact q.2 i w e h1 h2
theorem DTs.cons_inv {d : PyData} {vs : List V} {ds : List PyData} (q : DTs K H vs (d :: ds)) : ∃ v vs', vs = v :: vs' ∧ DT K H v d ∧ DTs K H vs' ds := by
  cases vs with
  | nil => cases q.1
  | cons v vs' => exact ⟨v, vs', rfl, q.2 0 v d rfl rfl, by have := q.1; simp at this; exact this, fun i w e h1 h2 => q.2 (i + 1) w e h1 h2⟩
theorem DTs.nil_inv {vs : List V} (q : DTs K H vs []) : vs = [] := List.length_eq_zero_iff.mp q.1
theorem DTs.one {v : V} {d : PyData} (h : DT K H v d) : DTs K H [v] [d] := .cons h .nil
theorem DTs.app {vs ws : List V} {ds es : List PyData} (h : DTs K H vs ds) (q : DTs K H ws es) : DTs K H (vs ++ ws) (ds ++ es) := by
  refine ⟨by rw [List.length_append, List.length_append, h.1, q.1], fun i w e h1 h2 => ?_⟩
  by_cases hi : i < vs.length
  · rw [List.getElem?_append_left hi] at h1
    rw [List.getElem?_append_left (by rw [← h.1]; exact hi)] at h2
    exact h.2 i w e h1 h2
  · rw [List.getElem?_append_right (by omega)] at h1
    rw [List.getElem?_append_right (by rw [← h.1]; omega), ← h.1] at h2
    exact q.2 _ w e h1 h2
theorem DTs.at {vs : List V} {ds : List PyData} (h : DTs K H vs ds) {i : Nat} {d : PyData} (e : ds[i]? = some d) : ∃ v, vs[i]? = some v ∧ DT K H v d := by
  have hi : i < vs.length := by rw [h.1]; exact (List.getElem?_eq_some_iff.mp e).1
  exact ⟨vs[i], List.getElem?_eq_getElem hi, h.2 i _ d (List.getElem?_eq_getElem hi) e⟩
theorem DTs.at' {vs : List V} {ds : List PyData} (h : DTs K H vs ds) {i : Nat} {v : V} (e : vs[i]? = some v) : ∃ d, ds[i]? = some d ∧ DT K H v d := by
  have hi : i < ds.length := by rw [← h.1]; exact (List.getElem?_eq_some_iff.mp e).1
  exact ⟨ds[i], List.getElem?_eq_getElem hi, h.2 i v _ e (List.getElem?_eq_getElem hi)⟩
theorem DTs.ints {vs : List V} {ns : List Int} (h : DTs K H vs (ns.map PyData.int)) : vs = ns.map V.int := by
  induction ns generalizing vs with
  | nil => exact h.nil_inv
  | cons n ns ih =>
    obtain ⟨v, vs', rfl, h1, h2⟩ := h.cons_inv
    rw [h1.int_inv, ih h2]
    rfl
theorem DTs.of_ints (ns : List Int) : DTs K H (ns.map V.int) (ns.map PyData.int) := by
  induction ns with
  | nil => exact .nil
  | cons n ns ih => exact .cons (.int n) ih
/-- to the library's data -/
theorem DT.dp {v : V} {d : PyData} (h : DT K H v d) : Dp K H v d := by
  induction h with
  | non => exact .non
  | bl b => exact .bl b
  | int i => exact .int i
  | str x => exact .str x
  | @tup a xs ds h1 h2 h5 ih =>
    refine .tup (.inl (.inl h1)) ?_
    clear h1 h5
    induction ds generalizing xs with
    | nil =>
      have := List.length_eq_zero_iff.mp h2
      subst this
      exact .nil
    | cons d ds ihd =>
      cases xs with
      | nil => cases h2
      | cons v vs => exact .cons (ih 0 v d rfl rfl) (ihd (by simpa using h2) (fun i w e h3 h4 => ih (i + 1) w e h3 h4))
/-- a row: a tuple of ints -/
def rowD (ns : List Int) : PyData := .tuple (ns.map PyData.int)
def relD (ar : Int) (rows : List (List Int)) : PyData := .tuple [.int ar, .tuple (rows.map rowD)]
theorem DT.row_inv {v : V} {ns : List Int} (h : DT K H v (rowD ns)) : ∃ a, v = .ref a ∧ SqT K H a (ns.map V.int) := by
  obtain ⟨a, xs, e, h1, h2⟩ := h.tup_inv
  have := h2.ints
  subst this
  exact ⟨a, e, h1⟩
theorem DT.row_invS {v : V} {ns : List Int} (h : DT K H v (rowD ns)) : ∃ a, v = .ref a ∧ H a = some (.tup (ns.map V.int)) := by
  obtain ⟨a, xs, e, h1, h2⟩ := h.tup_invS
  have := h2.ints
  subst this
  exact ⟨a, e, h1⟩
theorem DT.row {a : Addr} {ns : List Int} (h : H a = some (.tup (ns.map V.int))) : DT K H (.ref a) (rowD ns) := .mk h (.of_ints ns)
theorem DT.rel_inv {v : V} {ar : Int} {rows : List (List Int)} (h : DT K H v (relD ar rows)) : ∃ a b xs, v = .ref a ∧ SqT K H a [.int ar, .ref b] ∧ SqT K H b xs ∧ DTs K H xs (rows.map rowD) := by
  obtain ⟨a, xs, e, h1, h2⟩ := h.tup_inv
  obtain ⟨v1, r1, rfl, h3, h4⟩ := h2.cons_inv
  obtain ⟨v2, r2, rfl, h5, h6⟩ := h4.cons_inv
  have := h6.nil_inv
  subst this
  obtain ⟨b, ys, rfl, h7, h8⟩ := h5.tup_inv
  rw [h3.int_inv] at h1
  exact ⟨a, b, ys, e, h1, h7, h8⟩
theorem DT.rel {a b : Addr} {xs : List V} {ar : Int} {rows : List (List Int)} (h : H a = some (.tup [.int ar, .ref b])) (h1 : H b = some (.tup xs)) (h2 : DTs K H xs (rows.map rowD)) : DT K H (.ref a) (relD ar rows) :=
  .mk h (.cons (.int ar) (.one (.mk h1 h2)))

/-! ### a def of the text whose code object is known -/
structure FunC (K : PySem.W.Frag) (x : Str) (st : Stmt) (f : Addr) (fd : FuncData) (c : Addr) : Prop where
  ex : ∃ (oc : Value) (od : Option Addr) (kV doc pm : Value) (an : Option Addr) (ct : Value) (osl : Array (Option Value)),
    fd = PySem.W.fnOf x x (defArgs st) (defBody st) (defScope st) .none kV doc pm an (.ref c) ct ∧ K.lookup f = some ⟨oc, od, .func fd, osl⟩ ∧ PySem.W.codeIn K (.ref c) x = true
  kp : PySem.W.keepIn K (.ref f) = true
section
variable {P : Program} {w : World} {mg : Str → Option Value} {base : Heap}
theorem FunC.ok {x : Str} {st : Stmt} {f c : Addr} {fd : FuncData} {N ps : List Str} {k : Nat} {sp : Sp} (F : FunC K x st f fd c) (S : FnScope N ps (defScope st)) (len : ∀ vs H Q E, sp vs H Q E → vs.length = ps.length)
    (hbody : ∀ (A : Around) (outer : List Env) (s : Shared) (H : Hp) (vs : List V) (Q : VK) (E : XK), Room k (A.deeper (envOfC x (defScope st) s.heap.objs.size f (.ref c))) → sp vs H Q E →
      ∃ t, PSs (cxOf CX0 P w K mg base N x (defScope st) f (.ref c) A outer s H E).nox (defBody st) t ∧ t { nx := fun _ H' => Q .non H', rt := Q } (start N vs) H) : FnOk P w K mg base CX0 (k + 1) f fd ps sp := by
  obtain ⟨oc, od, kV, doc, pm, an, ct, osl, rfl, lk, hcd⟩ := F.ex
  refine fn_of lk hcd S len fun A outer s H vs Q E hr hsp => ?_
  obtain ⟨t, h, q⟩ := hbody A outer s H vs Q E hr hsp
  exact ⟨t, h.nox, q⟩
theorem FunC.binds {x : Str} {st : Stmt} {f c : Addr} {fd : FuncData} {ps : List Str} (F : FunC K x st f fd c)
    (h : ∀ (kV doc pm : Value) (an : Option Addr) (cdv ct : Value) (us : List Value), us.length = ps.length → bindArgs (PySem.W.fnOf x x (defArgs st) (defBody st) (defScope st) .none kV doc pm an cdv ct) ⟨us, []⟩ = pure (ps.zip us)) : Binds K fd ps [] := by
  obtain ⟨oc, od, kV, doc, pm, an, ct, osl, rfl, lk, hcd⟩ := F.ex
  exact .all (h kV doc pm an (.ref c) ct)
end
/-- a def of the module: where it stands -/
structure Dfn (K : PySem.W.Frag) (mg : Str → Option Value) (x : Str) (st : Stmt) (ps : List Str) where
  f : Addr
  fd : FuncData
  c : Addr
  F : FunC K x st f fd c
  b : Binds K fd ps []
  g : mg x = some (.ref f)
/-- .. that holds generator expressions: its table -/
structure DfnG (K : PySem.W.Frag) (mg : Str → Option Value) (base : Heap) (x : Str) (st : Stmt) (ps : List Str) extends Dfn K mg x st ps where
  P : Addr
  TB : LamX.TabB base mg c P

/-! the rules that speak of the written part, it given (within comprehensions the context's own is not to be named) -/
section
variable {X : Cx}
theorem op_ltTK (K : PySem.W.Frag) (hu : X.A.units < cLine) (hK : X.K = K := by rfl) : OpR X (compareOp .Lt) (rLtT K) := hK ▸ op_ltT hu
theorem ix_tupK (K : PySem.W.Frag) (hK : X.K = K := by rfl) : IxR X (rIxT K) := hK ▸ ix_tup
theorem ix_listK (K : PySem.W.Frag) (hK : X.K = K := by rfl) : IxR X (rIxL K) := hK ▸ ix_list
theorem pi_tupK (K : PySem.W.Frag) {tg l : Expr} {tl : TE} (hl : PE X l tl) (hK : X.K = K := by rfl) : PI X tg l (iTup K tl) := hK ▸ pi_tup hl
theorem pi_listK (K : PySem.W.Frag) {tg l : Expr} {tl : TE} (hl : PE X l tl) (hK : X.K = K := by rfl) : PI X tg l (iList K tl) := hK ▸ pi_list hl
theorem op_catAK (K : PySem.W.Frag) (hK : X.K = K := by rfl) : OpR X (binaryOp .Add) (rCatA K) := hK ▸ op_catA
def rTupleOf (K : PySem.W.Frag) : List V → Hp → VK → Prop := fun xs H Q => ∃ p ys, xs = [.ref p] ∧ ((SqL K H p ys ∧ ∀ l, H l = none → Q (.ref l) (upd H l (.tup ys))) ∨ (SqT K H p ys ∧ Q (.ref p) H))
theorem call_tuple_ofK (K : PySem.W.Frag) (hK : X.K = K := by rfl) : CallR X (.type "tuple") (rTupleOf K) := hK ▸ call_tuple_of
def rLenSeq (K : PySem.W.Frag) : List V → Hp → VK → Prop := fun xs H Q => ∃ p ys, xs = [.ref p] ∧ (SqL K H p ys ∨ SqT K H p ys) ∧ Q (.int ys.length) H
theorem call_len_seqK (K : PySem.W.Frag) (hK : X.K = K := by rfl) : CallR X (.builtin "len") (rLenSeq K) := hK ▸ call_len_seq
end

/-! a comprehension over zip of two tuples -/
theorem lc_zipT {K : PySem.W.Frag} {a b : Addr} {xs ys : List V} {g : TG} {tt : L2.TT} {te : TE} {vs : List Nat} {σ : L2.St} {H1 : Hp} {D : Addr} {Qd : Hp → Prop} (n : Nat) (hx : n ≤ xs.length) (hy : n ≤ ys.length) (hn : xs.length ≤ n ∨ ys.length ≤ n) (Pv : Nat → Hp → Prop) (h0 : Pv 0 (upd H1 D (.lst []))) (hl : ∀ i H, i ≤ n → Pv i H → SqT K H a xs ∧ SqT K H b ys)
    (hs : ∀ (i : Nat) (x y : V) (T : Addr) (H : Hp), xs[i]? = some x → ys[i]? = some y → Pv i H → H T = none → g (.ref T) (wipe σ vs) (upd H T (.tup [x, y])) fun σ2 H2 => wipe σ2 vs = wipe σ vs ∧ tt σ2 H2 fun b H3 =>
      if b = true then te σ2 H3 fun y H4 => ∃ acc, H4 D = some (.lst acc) ∧ acc.length < sizeLine ∧ Pv (i + 1) (upd H4 D (.lst (acc ++ [y]))) else Pv (i + 1) H3) (hd : ∀ H, Pv n H → Qd H) :
    ∃ W : Nat → Nat → Hp → Prop, (∃ m, W 0 m (upd H1 D (.lst []))) ∧ ∀ i m H, W i m H →
      ((RZ.ItzT K a b).stop i H ∧ Qd H) ∨ ((RZ.ItzT K a b).go i H ∧ ∃ Nx : Hp → Prop, (∀ H', Nx H' → ∃ m', m' < m ∧ W (i + 1) m' H') ∧ ∀ x H', (RZ.ItzT K a b).yld i H x H' → g x (wipe σ vs) H' fun σ2 H2 => wipe σ2 vs = wipe σ vs ∧ tt σ2 H2 fun b H3 =>
        if b = true then te σ2 H3 fun y H4 => ∃ acc, H4 D = some (.lst acc) ∧ acc.length < sizeLine ∧ Nx (upd H4 D (.lst (acc ++ [y]))) else Nx H3) := by
  refine ⟨fun i m H => m = n - i ∧ i ≤ n ∧ Pv i H, ⟨n, by simp, Nat.zero_le _, h0⟩, ?_⟩
  rintro i m H ⟨rfl, hi, p⟩
  obtain ⟨q1, q2⟩ := hl i H hi p
  by_cases hlt : i < n
  · have e1 : xs[i]? = some (xs[i]'(by omega)) := List.getElem?_eq_getElem _
    have e2 : ys[i]? = some (ys[i]'(by omega)) := List.getElem?_eq_getElem _
    refine .inr ⟨⟨xs, ys, _, _, q1, q2, e1, e2⟩, Pv (i + 1), fun H' p' => ⟨n - (i + 1), by omega, rfl, hlt, p'⟩, fun v H' y => ?_⟩
    obtain ⟨T, x1, y1, rfl, hT, rfl, f1, f2⟩ := y
    exact hs i x1 y1 T H (f1 xs q1) (f2 ys q2) p hT
  · have e : i = n := by omega
    subst e
    exact .inl ⟨⟨xs, ys, q1, q2, hn⟩, hd H p⟩
theorem cut1 (xs : List V) : cutV xs (some 1) none = xs.drop 1 := by
  unfold cutV
  rw [show HT.sIx xs.length 0 (some 1) = min 1 xs.length from HT.sIx_nat xs.length 0 1, HT.sIx_none]
  cases xs with
  | nil => rfl
  | cons x r =>
    rw [show min 1 (x :: r).length = 1 by
      rw [List.length_cons]
      omega]
    show (List.take ((x :: r).length - 1) r) = r
    rw [List.length_cons, Nat.add_sub_cancel]
    exact List.take_length
theorem sixZero {n : Nat} (h : HT.sIx n 0 (some 1) = 0) : n = 0 := by
  rw [show HT.sIx n 0 (some 1) = min 1 n from HT.sIx_nat n 0 1] at h
  omega
theorem pair_at {α : Type} {R : α → α → Prop} : ∀ {l : List α}, l.Pairwise R → ∀ {i : Nat} {x y : α}, l[i]? = some x → l[i + 1]? = some y → R x y
  | [], _, _, _, _, h, _ => by simp at h
  | a :: l, h, 0, x, y, h1, h2 => by
    have e : a = x := Option.some.inj h1
    subst e
    exact (List.pairwise_cons.mp h).1 y (List.mem_of_getElem? (show l[0]? = some y from h2))
  | a :: l, h, i + 1, x, y, h1, h2 => pair_at (List.pairwise_cons.mp h).2 (i := i) h1 h2
theorem yesT {σ : L2.St} {H : Hp} {A B : Hp → Prop} (h : A H) : tYes σ H fun b H' => if b = true then A H' else B H' := iteT (A := A H) (B := B H) h
/-! a comprehension over a list, then over range(n) -/
theorem lc2_lr {K : PySem.W.Frag} {a : Addr} {xs : List V} {wi1 : TI} {te : TE} {p q : Nat} {σ : L2.St} {H1 : Hp} {D : Addr} {Qd : Hp → Prop} (n : Nat) (Pv : Nat → Nat → Hp → Prop) (h0 : Pv 0 0 (upd H1 D (.lst []))) (hl : ∀ i H, i ≤ xs.length → Pv i 0 H → SqL K H a xs)
    (hwi : ∀ x H R, R (Itr 0 n) H → wi1 ((wipe σ [p, q]).set p (some x)) H R) (hw1 : ∀ x, wipe ((wipe σ [p, q]).set p (some x)) [p, q] = wipe σ [p, q])
    (hw2 : ∀ x y, wipe ((wipe ((wipe σ [p, q]).set p (some x)) [q]).set q (some y)) [q] = wipe ((wipe σ [p, q]).set p (some x)) [q])
    (hs : ∀ (i j : Nat) x H, xs[i]? = some x → j < n → Pv i j H → te ((wipe ((wipe σ [p, q]).set p (some x)) [q]).set q (some (.int (0 + (j : Int))))) H fun y H4 => ∃ acc, H4 D = some (.lst acc) ∧ acc.length < sizeLine ∧ Pv i (j + 1) (upd H4 D (.lst (acc ++ [y]))))
    (hn : ∀ i H, i < xs.length → Pv i n H → Pv (i + 1) 0 H) (hd : ∀ H, Pv xs.length 0 H → Qd H) :
    ∃ W : Nat → Nat → Hp → Prop, (∃ m, W 0 m (upd H1 D (.lst []))) ∧ ∀ i m H, W i m H →
      ((Itl K a).stop i H ∧ Qd H) ∨ ((Itl K a).go i H ∧ ∃ Nx : Hp → Prop, (∀ H', Nx H' → ∃ m', m' < m ∧ W (i + 1) m' H') ∧ ∀ x H', (Itl K a).yld i H x H' → gName p x (wipe σ [p, q]) H' fun σ2 H2 => wipe σ2 [p, q] = wipe σ [p, q] ∧ tYes σ2 H2 fun b H3 =>
        if b = true then wi1 σ2 H3 fun J1 H4 => ∃ W1 : Nat → Nat → Hp → Prop, (∃ m, W1 0 m H4) ∧ ∀ j k H, W1 j k H →
          (J1.stop j H ∧ Nx H) ∨ (J1.go j H ∧ ∃ Nx1 : Hp → Prop, (∀ H', Nx1 H' → ∃ k', k' < k ∧ W1 (j + 1) k' H') ∧ ∀ x H', J1.yld j H x H' → gName q x (wipe σ2 [q]) H' fun σ3 H5 => wipe σ3 [q] = wipe σ2 [q] ∧ tYes σ3 H5 fun b H6 =>
            if b = true then te σ3 H6 fun y H7 => ∃ acc, H7 D = some (.lst acc) ∧ acc.length < sizeLine ∧ Nx1 (upd H7 D (.lst (acc ++ [y]))) else Nx1 H6)
        else Nx H3) := by
  refine ⟨fun i m H => m = xs.length - i ∧ i ≤ xs.length ∧ Pv i 0 H, ⟨xs.length, by simp, Nat.zero_le _, h0⟩, ?_⟩
  rintro i m H ⟨rfl, hi, pv⟩
  have qs := hl i H hi pv
  by_cases hlt : i < xs.length
  · refine .inr ⟨⟨xs, xs[i], qs, by simp [hlt]⟩, Pv (i + 1) 0, fun H' p' => ⟨xs.length - (i + 1), by omega, rfl, hlt, p'⟩, fun x H' y => ?_⟩
    obtain ⟨rfl, y⟩ := y
    have hx := y xs qs
    refine ⟨hw1 x, yesT (B := fun H3 => Pv (i + 1) 0 H3) (hwi x _ _ ⟨fun j k H => k = n - j ∧ j ≤ n ∧ Pv i j H, ⟨n, by simp, Nat.zero_le _, pv⟩, ?_⟩)⟩
    rintro j k H ⟨rfl, hj, pj⟩
    by_cases hjn : j < n
    · refine .inr ⟨hjn, Pv i (j + 1), fun H' p' => ⟨n - (j + 1), by omega, rfl, hjn, p'⟩, fun x1 H' y1 => ?_⟩
      obtain ⟨rfl, rfl⟩ := y1
      exact ⟨hw2 x _, yesT (B := fun H6 => Pv i (j + 1) H6) (hs i j x _ hx hjn pj)⟩
    · have e : j = n := by omega
      subst e
      exact .inl ⟨Nat.le_refl _, hn i H hlt pj⟩
  · have e : i = xs.length := by omega
    subst e
    exact .inl ⟨⟨xs, qs, Nat.le_refl _⟩, hd H pv⟩
/-! a list is written: data stay -/
theorem LS.one {p : Addr} {xs : List V} (h : H p = some (.lst xs)) : LS [p] H := fun b hb => by
  rw [List.mem_singleton.mp hb]
  exact ⟨xs, h⟩
theorem DT.wr {p : Addr} {xs : List V} {o : HO} (h : H p = some (.lst xs)) {v : V} {d : PyData} (q : DT K H v d) : DT K (upd H p o) v d := q.gx (S := [p]) (Gx.refl.wrS (List.mem_singleton.mpr rfl)) (.one h)
theorem DTs.wr {p : Addr} {xs : List V} {o : HO} (h : H p = some (.lst xs)) {vs : List V} {ds : List PyData} (q : DTs K H vs ds) : DTs K (upd H p o) vs ds := q.gx (S := [p]) (Gx.refl.wrS (List.mem_singleton.mpr rfl)) (.one h)
/-! a comprehension over a tuple, then over another -/
theorem lc2_tt {K : PySem.W.Frag} {a b : Addr} {xs ys : List V} {wi1 : TI} {te : TE} {p q : Nat} {σ : L2.St} {H1 : Hp} {D : Addr} {Qd : Hp → Prop} (Pv : Nat → Nat → Hp → Prop) (h0 : Pv 0 0 (upd H1 D (.lst []))) (hl : ∀ i j H, i ≤ xs.length → j ≤ ys.length → Pv i j H → SqT K H a xs ∧ SqT K H b ys)
    (hwi : ∀ (i : Nat) x H R, i < xs.length → Pv i 0 H → R (Itt K b) H → wi1 ((wipe σ [p, q]).set p (some x)) H R) (hw1 : ∀ x, wipe ((wipe σ [p, q]).set p (some x)) [p, q] = wipe σ [p, q])
    (hw2 : ∀ x y, wipe ((wipe ((wipe σ [p, q]).set p (some x)) [q]).set q (some y)) [q] = wipe ((wipe σ [p, q]).set p (some x)) [q])
    (hs : ∀ (i j : Nat) x y H, xs[i]? = some x → ys[j]? = some y → Pv i j H → te ((wipe ((wipe σ [p, q]).set p (some x)) [q]).set q (some y)) H fun y H4 => ∃ acc, H4 D = some (.lst acc) ∧ acc.length < sizeLine ∧ Pv i (j + 1) (upd H4 D (.lst (acc ++ [y]))))
    (hn : ∀ i H, i < xs.length → Pv i ys.length H → Pv (i + 1) 0 H) (hd : ∀ H, Pv xs.length 0 H → Qd H) :
    ∃ W : Nat → Nat → Hp → Prop, (∃ m, W 0 m (upd H1 D (.lst []))) ∧ ∀ i m H, W i m H →
      ((Itt K a).stop i H ∧ Qd H) ∨ ((Itt K a).go i H ∧ ∃ Nx : Hp → Prop, (∀ H', Nx H' → ∃ m', m' < m ∧ W (i + 1) m' H') ∧ ∀ x H', (Itt K a).yld i H x H' → gName p x (wipe σ [p, q]) H' fun σ2 H2 => wipe σ2 [p, q] = wipe σ [p, q] ∧ tYes σ2 H2 fun b H3 =>
        if b = true then wi1 σ2 H3 fun J1 H4 => ∃ W1 : Nat → Nat → Hp → Prop, (∃ m, W1 0 m H4) ∧ ∀ j k H, W1 j k H →
          (J1.stop j H ∧ Nx H) ∨ (J1.go j H ∧ ∃ Nx1 : Hp → Prop, (∀ H', Nx1 H' → ∃ k', k' < k ∧ W1 (j + 1) k' H') ∧ ∀ x H', J1.yld j H x H' → gName q x (wipe σ2 [q]) H' fun σ3 H5 => wipe σ3 [q] = wipe σ2 [q] ∧ tYes σ3 H5 fun b H6 =>
            if b = true then te σ3 H6 fun y H7 => ∃ acc, H7 D = some (.lst acc) ∧ acc.length < sizeLine ∧ Nx1 (upd H7 D (.lst (acc ++ [y]))) else Nx1 H6)
        else Nx H3) := by
  refine ⟨fun i m H => m = xs.length - i ∧ i ≤ xs.length ∧ Pv i 0 H, ⟨xs.length, by simp, Nat.zero_le _, h0⟩, ?_⟩
  rintro i m H ⟨rfl, hi, pv⟩
  have qs := (hl i 0 H hi (Nat.zero_le _) pv).1
  by_cases hlt : i < xs.length
  · refine .inr ⟨⟨xs, xs[i], qs, by simp [hlt]⟩, Pv (i + 1) 0, fun H' p' => ⟨xs.length - (i + 1), by omega, rfl, hlt, p'⟩, fun x H' y => ?_⟩
    obtain ⟨rfl, y⟩ := y
    have hx := y xs qs
    refine ⟨hw1 x, yesT (B := fun H3 => Pv (i + 1) 0 H3) (hwi i x _ _ hlt pv ⟨fun j k H => k = ys.length - j ∧ j ≤ ys.length ∧ Pv i j H, ⟨ys.length, by simp, Nat.zero_le _, pv⟩, ?_⟩)⟩
    rintro j k H ⟨rfl, hj, pj⟩
    have qy := (hl i j H hi hj pj).2
    by_cases hjn : j < ys.length
    · refine .inr ⟨⟨ys, ys[j], qy, by simp [hjn]⟩, Pv i (j + 1), fun H' p' => ⟨ys.length - (j + 1), by omega, rfl, hjn, p'⟩, fun x1 H' y1 => ?_⟩
      obtain ⟨rfl, y1⟩ := y1
      exact ⟨hw2 x _, yesT (B := fun H6 => Pv i (j + 1) H6) (hs i j x x1 _ hx (y1 ys qy) pj)⟩
    · have e : j = ys.length := by omega
      subst e
      exact .inl ⟨⟨ys, qy, Nat.le_refl _⟩, hn i H hlt pj⟩
  · have e : i = xs.length := by omega
    subst e
    exact .inl ⟨⟨xs, qs, Nat.le_refl _⟩, hd H pv⟩
end TK

set_option Elab.async false
set_option linter.all false
set_option maxRecDepth 100000
set_option maxHeartbeats 4000000
namespace K66
open PySem PySem.Spec PyProof.Rows L2 TK
def topS (i : Nat) : Stmt := PySem.Challenge.pw_templates_k66_whole_two_sides.main.body.getD i (.Pass ⟨0, 0, 0, 0⟩)
abbrev s_is_integer : Stmt := topS 6
abbrev n_is_integer : List Str := ["value", "low", "high"]
abbrev p_is_integer : List Str := ["value", "low", "high"]
theorem sc_is_integer : FnScope n_is_integer p_is_integer (defScope s_is_integer) := ⟨rfl, rfl, rfl, by decide +kernel, rfl, by decide +kernel, by decide +kernel⟩
abbrev s_is_tuple : Stmt := topS 7
abbrev n_is_tuple : List Str := ["value", "low", "high"]
abbrev p_is_tuple : List Str := ["value", "low", "high"]
theorem sc_is_tuple : FnScope n_is_tuple p_is_tuple (defScope s_is_tuple) := ⟨rfl, rfl, rfl, by decide +kernel, rfl, by decide +kernel, by decide +kernel⟩
abbrev s_is_row : Stmt := topS 8
abbrev n_is_row : List Str := ["size", "arity", "value"]
abbrev p_is_row : List Str := ["size", "arity", "value"]
theorem sc_is_row : FnScope n_is_row p_is_row (defScope s_is_row) := ⟨rfl, rfl, rfl, by decide +kernel, rfl, by decide +kernel, by decide +kernel⟩
abbrev s_check_size : Stmt := topS 9
abbrev n_check_size : List Str := ["size"]
abbrev p_check_size : List Str := ["size"]
theorem sc_check_size : FnScope n_check_size p_check_size (defScope s_check_size) := ⟨rfl, rfl, rfl, by decide +kernel, rfl, by decide +kernel, by decide +kernel⟩
abbrev s_all_rows : Stmt := topS 11
abbrev n_all_rows : List Str := ["size", "arity", "rows", "_", "row", "value"]
abbrev p_all_rows : List Str := ["size", "arity"]
theorem sc_all_rows : FnScope n_all_rows p_all_rows (defScope s_all_rows) := ⟨rfl, rfl, rfl, by decide +kernel, rfl, by decide +kernel, by decide +kernel⟩
abbrev s_graph : Stmt := topS 13
abbrev n_graph : List Str := ["size", "edges"]
abbrev p_graph : List Str := ["size", "edges"]
theorem sc_graph : FnScope n_graph p_graph (defScope s_graph) := ⟨rfl, rfl, rfl, by decide +kernel, rfl, by decide +kernel, by decide +kernel⟩
abbrev s_check_graph : Stmt := topS 14
abbrev n_check_graph : List Str := ["size", "edges", "edge", "following"]
abbrev p_check_graph : List Str := ["size", "edges"]
theorem sc_check_graph : FnScope n_check_graph p_check_graph (defScope s_check_graph) := ⟨rfl, rfl, rfl, by decide +kernel, rfl, by decide +kernel, by decide +kernel⟩
abbrev s_is_edge : Stmt := topS 15
abbrev n_is_edge : List Str := ["size", "value"]
abbrev p_is_edge : List Str := ["size", "value"]
theorem sc_is_edge : FnScope n_is_edge p_is_edge (defScope s_is_edge) := ⟨rfl, rfl, rfl, by decide +kernel, rfl, by decide +kernel, by decide +kernel⟩
abbrev s_directed : Stmt := topS 16
abbrev n_directed : List Str := ["edges", "a", "b"]
abbrev p_directed : List Str := ["edges"]
theorem sc_directed : FnScope n_directed p_directed (defScope s_directed) := ⟨rfl, rfl, rfl, by decide +kernel, rfl, by decide +kernel, by decide +kernel⟩
abbrev s_two_sides : Stmt := topS 17
abbrev n_two_sides : List Str := ["size", "edges", "sides", "a", "b"]
abbrev p_two_sides : List Str := ["size", "edges"]
theorem sc_two_sides : FnScope n_two_sides p_two_sides (defScope s_two_sides) := ⟨rfl, rfl, rfl, by decide +kernel, rfl, by decide +kernel, by decide +kernel⟩
abbrev s_odd_walk : Stmt := topS 18
abbrev n_odd_walk : List Str := ["size", "edges", "steps", "length", "values"]
abbrev p_odd_walk : List Str := ["size", "edges"]
theorem sc_odd_walk : FnScope n_odd_walk p_odd_walk (defScope s_odd_walk) := ⟨rfl, rfl, rfl, by decide +kernel, rfl, by decide +kernel, by decide +kernel⟩
abbrev s_is_walk : Stmt := topS 19
abbrev n_is_walk : List Str := ["steps", "walk", "step"]
abbrev p_is_walk : List Str := ["steps", "walk"]
theorem sc_is_walk : FnScope n_is_walk p_is_walk (defScope s_is_walk) := ⟨rfl, rfl, rfl, by decide +kernel, rfl, by decide +kernel, by decide +kernel⟩
abbrev s_shows_odd_walk : Stmt := topS 20
abbrev n_shows_odd_walk : List Str := ["size", "edges", "value"]
abbrev p_shows_odd_walk : List Str := ["size", "edges", "value"]
theorem sc_shows_odd_walk : FnScope n_shows_odd_walk p_shows_odd_walk (defScope s_shows_odd_walk) := ⟨rfl, rfl, rfl, by decide +kernel, rfl, by decide +kernel, by decide +kernel⟩
abbrev s_law_taken : Stmt := topS 22
abbrev n_law_taken : List Str := ["row", "many", "found", "cell"]
abbrev p_law_taken : List Str := ["row", "many"]
theorem sc_law_taken : FnScope n_law_taken p_law_taken (defScope s_law_taken) := ⟨rfl, rfl, rfl, by decide +kernel, rfl, by decide +kernel, by decide +kernel⟩
abbrev s_law_alike : Stmt := topS 23
abbrev n_law_alike : List Str := ["found", "due", "k"]
abbrev p_law_alike : List Str := ["found", "due"]
theorem sc_law_alike : FnScope n_law_alike p_law_alike (defScope s_law_alike) := ⟨rfl, rfl, rfl, by decide +kernel, rfl, by decide +kernel, by decide +kernel⟩
abbrev s_law_whole : Stmt := topS 24
abbrev n_law_whole : List Str := ["value", "least", "most"]
abbrev p_law_whole : List Str := ["value", "least", "most"]
theorem sc_law_whole : FnScope n_law_whole p_law_whole (defScope s_law_whole) := ⟨rfl, rfl, rfl, by decide +kernel, rfl, by decide +kernel, by decide +kernel⟩
abbrev s_law_once : Stmt := topS 25
abbrev n_law_once : List Str := ["values", "found", "value"]
abbrev p_law_once : List Str := ["values"]
theorem sc_law_once : FnScope n_law_once p_law_once (defScope s_law_once) := ⟨rfl, rfl, rfl, by decide +kernel, rfl, by decide +kernel, by decide +kernel⟩
abbrev s_law : Stmt := topS 26
abbrev n_law : List Str := ["script", "row", "size", "edges", "loops", "a", "b", "both", "pair", "walk", "length", "some", "node", "turn", "more", "told", "closed", "sides", "found", "side", "part"]
abbrev p_law : List Str := ["script"]
theorem sc_law : FnScope n_law p_law (defScope s_law) := ⟨rfl, rfl, rfl, by decide +kernel, rfl, by decide +kernel, by decide +kernel⟩
/-- what the top has written: where each def stands, what is still a built-in -/
structure Txt (K : PySem.W.Frag) (mg : Str → Option Value) (base : Heap) where
  is_integer : Dfn K mg "is_integer" s_is_integer p_is_integer
  is_tuple : Dfn K mg "is_tuple" s_is_tuple p_is_tuple
  is_row : DfnG K mg base "is_row" s_is_row p_is_row
  check_size : Dfn K mg "check_size" s_check_size p_check_size
  all_rows : Dfn K mg "all_rows" s_all_rows p_all_rows
  graph : Dfn K mg "graph" s_graph p_graph
  check_graph : DfnG K mg base "_check_graph" s_check_graph p_check_graph
  is_edge : Dfn K mg "_is_edge" s_is_edge p_is_edge
  directed : Dfn K mg "_directed" s_directed p_directed
  two_sides : Dfn K mg "two_sides" s_two_sides p_two_sides
  odd_walk : Dfn K mg "odd_walk" s_odd_walk p_odd_walk
  is_walk : Dfn K mg "_is_walk" s_is_walk p_is_walk
  shows_odd_walk : DfnG K mg base "shows_odd_walk" s_shows_odd_walk p_shows_odd_walk
  law_taken : Dfn K mg "_law_taken" s_law_taken p_law_taken
  law_alike : Dfn K mg "_law_alike" s_law_alike p_law_alike
  law_whole : Dfn K mg "_law_whole" s_law_whole p_law_whole
  law_once : Dfn K mg "_law_once" s_law_once p_law_once
  law : Dfn K mg "law" s_law p_law
  c_MOST_VALUES : ∃ t, mg "MOST_VALUES" = some (.int 4 t)
  b_all : mg "all" = none
  b_bool : mg "bool" = none
  b_int : mg "int" = none
  b_isinstance : mg "isinstance" = none
  b_len : mg "len" = none
  b_list : mg "list" = none
  b_min : mg "min" = none
  b_range : mg "range" = none
  b_set : mg "set" = none
  b_sorted : mg "sorted" = none
  b_str : mg "str" = none
  b_tuple : mg "tuple" = none
  b_zip : mg "zip" = none
variable {P : Program} {w : World} {K : PySem.W.Frag} {mg : Str → Option Value} {base : Heap}
abbrev Txt.tabs (T : Txt K mg base) : List Addr := [T.is_row.P, T.check_graph.P, T.shows_odd_walk.P]
end K66

set_option Elab.async false
set_option linter.all false
set_option maxRecDepth 100000
set_option maxHeartbeats 4000000
namespace K66
open PySem PySem.Spec PyProof.Rows L2 TK
variable {P : Program} {w : World} {K : PySem.W.Frag} {mg : Str → Option Value} {base : Heap}
theorem tyT {H : Hp} {a : Addr} {xs : List V} (h : SqT K H a xs) : TyX K H (.ref a) (.type "tuple") := by
  rcases h with (h | ⟨o, h⟩) | ⟨o, its, n, h1, h2, _⟩
  · exact .base (.tup h)
  · exact .fTuple h
  · exact .kTuple h1 h2
/-! is_integer -/
def sp_is_integer : Sp := fun vs H Q _ => ∃ v lo hi : Int, vs = [.int v, .int lo, .int hi] ∧ Q (.bl (decide (lo ≤ v ∧ v ≤ hi))) H
theorem ok_is_integer (T : Txt K mg base) : FnOk P w K mg base CX0 1 T.is_integer.f T.is_integer.fd p_is_integer sp_is_integer := by
  refine T.is_integer.F.ok sc_is_integer (fun vs H Q E h => ?_) (fun A outer s H vs Q E hr h => ?_)
  · obtain ⟨v, lo, hi, rfl, _⟩ := h
    rfl
  · obtain ⟨v, lo, hi, rfl, q⟩ := h
    refine ⟨_, pss_one (ps_ret (pe_and (pe_callB call_isi (by rfl) T.b_isinstance boot_isinstance (pa_cons (pv 0) (pa_cons (pe_bltn (v := .ty "int") (by rfl) T.b_int boot_int rfl) pa_nil)))
      (pe_and (pe_not (pe_callB call_isi (by rfl) T.b_isinstance boot_isinstance (pa_cons (pv 0) (pa_cons (pe_bltn (v := .ty "bool") (by rfl) T.b_bool boot_bool rfl) pa_nil))))
        (pe_one (pe_chain op_le op_le (pv 1) (pv 0) (pv 2)))))), ?_⟩
    refine ⟨.int v, rfl, .int v, .ty "int", _, _, true, rfl, .ty _, .base (.int v), kit_ty (by decide +kernel), true, rfl, iteT ?_⟩
    refine ⟨.int v, rfl, .int v, .ty "bool", _, _, false, rfl, .ty _, .base (.int v), kit_ty (by decide +kernel), false, rfl, true, rfl, iteT ?_⟩
    refine ⟨.int lo, rfl, .int v, rfl, lo, v, rfl, rfl, _, rfl, ?_⟩
    by_cases h1 : lo ≤ v
    · rw [if_pos (decide_eq_true h1)]
      refine ⟨.int hi, rfl, v, hi, rfl, rfl, ?_⟩
      have e : decide (lo ≤ v ∧ v ≤ hi) = decide (v ≤ hi) := by simp [h1]
      rw [e] at q
      exact q
    · rw [if_neg (by simp [h1])]
      have e : decide (lo ≤ v ∧ v ≤ hi) = false := by simp [h1]
      rw [e] at q
      exact q
/-! is_tuple -/
def sp_is_tuple (K : PySem.W.Frag) : Sp := fun vs H Q _ => ∃ (v : V) (ds : List PyData) (lo hi : Int), vs = [v, .int lo, .int hi] ∧ DT K H v (.tuple ds) ∧ Q (.bl (decide (lo ≤ (ds.length : Int) ∧ (ds.length : Int) ≤ hi))) H
theorem ok_is_tuple (T : Txt K mg base) : FnOk P w K mg base CX0 1 T.is_tuple.f T.is_tuple.fd p_is_tuple (sp_is_tuple K) := by
  refine T.is_tuple.F.ok sc_is_tuple (fun vs H Q E h => ?_) (fun A outer s H vs Q E hr h => ?_)
  · obtain ⟨v, ds, lo, hi, rfl, _⟩ := h
    rfl
  · obtain ⟨v, ds, lo, hi, rfl, hv, q⟩ := h
    obtain ⟨a, xs, rfl, hS, hD⟩ := hv.tup_inv
    refine ⟨_, pss_one (ps_ret (pe_and (pe_callB call_isi (by rfl) T.b_isinstance boot_isinstance (pa_cons (pv 0) (pa_cons (pe_bltn (v := .ty "tuple") (by rfl) T.b_tuple boot_tuple rfl) pa_nil)))
        (pe_one (pe_chain op_le op_le (pv 1) (pe_callB call_len_seq (by rfl) T.b_len PySem.boot_len (pa_cons (pv 0) pa_nil)) (pv 2))))), ?_⟩
    refine ⟨.ref a, rfl, .ref a, .ty "tuple", _, _, true, rfl, .ty _, tyT hS, kit_ty (by decide +kernel), true, rfl, iteT ?_⟩
    refine ⟨.int lo, rfl, .ref a, rfl, a, xs, rfl, .inr hS, lo, _, rfl, rfl, _, rfl, ?_⟩
    rw [hD.1]
    by_cases h1 : lo ≤ (ds.length : Int)
    · rw [if_pos (decide_eq_true h1)]
      refine ⟨.int hi, rfl, _, hi, rfl, rfl, ?_⟩
      have e : decide (lo ≤ (ds.length : Int) ∧ (ds.length : Int) ≤ hi) = decide ((ds.length : Int) ≤ hi) := by simp [h1]
      rw [e] at q
      exact q
    · rw [if_neg (by simp [h1])]
      have e : decide (lo ≤ (ds.length : Int) ∧ (ds.length : Int) ≤ hi) = false := by simp [h1]
      rw [e] at q
      exact q
/-! is_row -/
def sp_is_row (T : Txt K mg base) : Sp := fun vs H Q _ => ∃ (sz ar : Int) (v : V) (ns : List Int), vs = [.int sz, .int ar, v] ∧ DT K H v (rowD ns) ∧ TT T.tabs H ∧ (ns.length : Int) = ar ∧ (∀ x ∈ ns, 0 ≤ x ∧ x ≤ sz - 1) ∧ ∀ H', Gr H H' → Q (.bl true) H'
theorem ok_is_row (T : Txt K mg base) : FnOk P w K mg base CX0 4 T.is_row.f T.is_row.fd p_is_row (sp_is_row T) := by
  refine T.is_row.F.ok sc_is_row (fun vs H Q E h => ?_) (fun A outer s H vs Q E hr h => ?_)
  · obtain ⟨sz, ar, v, ns, rfl, _⟩ := h
    rfl
  · obtain ⟨sz, ar, v, ns, rfl, hv, hT, hl, hn, q⟩ := h
    obtain ⟨a, rfl, hS⟩ := hv.row_inv
    refine ⟨_, pss_one (ps_ret (pe_and (pe_call (ok_is_tuple T) (hr.mono (by decide)) (by rfl) T.is_tuple.g T.is_tuple.F.kp T.is_tuple.b .nil pass0 (pa_cons (pv 2) (pa_cons (pv 1) (pa_cons (pv 1) pa_nil))))
      (pe_one (GA.pe_all (k := 1) hr (by rfl) T.b_all T.is_row.TB rfl (GA.gNames_by (N := n_is_row) (M := ["size", "arity", "value", "entry"]) (sc := defScope s_is_row) (by decide +kernel)) (pi_tup (pv 2))
        (fun A sz Hz C code fp pn hrA => pe_call (ok_is_integer T) hrA (by rfl) T.is_integer.g T.is_integer.F.kp T.is_integer.b .nil pass0 (pa_cons (pv 3) (pa_cons pe_int (pa_cons (pe_op op_sub (pv 0) pe_int) pa_nil)))))))), ?_⟩
    refine ⟨.ref a, rfl, .int ar, rfl, .int ar, rfl, .ref a, _, ar, ar, rfl, hv, _, rfl, ?_⟩
    rw [List.length_map, hl, decide_eq_true ⟨Int.le_refl _, Int.le_refl _⟩]
    refine iteT ⟨.ref a, rfl, a, rfl, ⟨_, hS⟩, hT _ (by simp), fun H2 ht => ⟨ns.length, fun i H' => Gr H H', Gx.tabbed (hT _ (by simp)) ht, fun i H3 hi hw => ?_, fun H3 hw => ?_⟩⟩
    · have e : (ns.map V.int)[i]? = some (.int ns[i]) := by
        rw [List.getElem?_map, List.getElem?_eq_getElem hi]
        rfl
      refine ⟨⟨_, _, hw.seqT hS, e⟩, fun x H4 hy => ?_⟩
      obtain ⟨rfl, hx⟩ := hy
      have ex : x = .int ns[i] := Option.some.inj ((hx _ (hw.seqT hS)).symm.trans e)
      subst ex
      refine ⟨_, rfl, .int sz, rfl, sz, 1, rfl, rfl, ns[i], 0, sz - 1, rfl, _, rfl, fun _ => hw, fun hf => ?_⟩
      have := hn ns[i] (List.getElem_mem hi)
      rw [decide_eq_true this] at hf
      cases hf
    · exact ⟨⟨_, hw.seqT hS, by rw [List.length_map]; exact Nat.le_refl _⟩, q H3 hw⟩

/-! is_relation -/
def iZipK (K : PySem.W.Frag) (v u : V) (H1 : Hp) (R : It → Hp → Prop) : Prop := ∃ a b xs ys, [v, u] = [V.ref a, V.ref b] ∧ ((SqL K H1 a xs ∧ SqL K H1 b ys ∧ R (Itz K a b) H1) ∨ (SqT K H1 a xs ∧ SqT K H1 b ys ∧ R (RZ.ItzT K a b) H1))
/-- right rows, ascending, each once -/
structure RelOk (sz ar : Int) (rows : List (List Int)) : Prop where
  ar1 : 1 ≤ ar
  ar4 : ar ≤ 4
  len : ∀ r ∈ rows, (r.length : Int) = ar
  val : ∀ r ∈ rows, ∀ x ∈ r, 0 ≤ x ∧ x ≤ sz - 1
  asc : rows.Pairwise fun r q => HT.lexLt r q = true
  most : rows.length ≤ 1000
def sp_is_relation (T : Txt K mg base) : Sp := fun vs H Q _ => ∃ (sz ar : Int) (v : V) (rows : List (List Int)), vs = [.int sz, v] ∧ DT K H v (relD ar rows) ∧ TT T.tabs H ∧ RelOk sz ar rows ∧ ∀ H', Gr H H' → Q (.bl true) H'
end K66

set_option Elab.async false
set_option linter.all false
set_option maxRecDepth 100000
set_option maxHeartbeats 4000000
namespace K66
open PySem PySem.Spec PyProof.Rows L2 TK
variable {P : Program} {w : World} {K : PySem.W.Frag} {mg : Str → Option Value} {base : Heap}
/-! are_places -/
def sp_are_places (T : Txt K mg base) : Sp := fun vs H Q _ => ∃ (v : V) (ns : List Int) (lo hi bd : Int), vs = [v, .int lo, .int hi, .int bd] ∧ DT K H v (rowD ns) ∧ TT T.tabs H ∧ (lo ≤ (ns.length : Int) ∧ (ns.length : Int) ≤ hi) ∧ (∀ x ∈ ns, 0 ≤ x ∧ x ≤ bd - 1) ∧ ∀ H', Gr H H' → Q (.bl true) H'
/-! the checks: right values pass -/
def sp_check_size : Sp := fun vs H Q _ => ∃ sz : Int, vs = [.int sz] ∧ (1 ≤ sz ∧ sz ≤ 4) ∧ Q .non H
theorem ok_check_size (T : Txt K mg base) : FnOk P w K mg base CX0 2 T.check_size.f T.check_size.fd p_check_size sp_check_size := by
  refine T.check_size.F.ok sc_check_size (fun vs H Q E h => ?_) (fun A outer s H vs Q E hr h => ?_)
  · obtain ⟨sz, rfl, _⟩ := h
    rfl
  · obtain ⟨sz, rfl, hs, q⟩ := h
    obtain ⟨tp, hMV⟩ := T.c_MOST_VALUES
    refine ⟨_, pss_one (ps_if (pt_not (pt_val (pe_call (ok_is_integer T) hr (by rfl) T.is_integer.g T.is_integer.F.kp T.is_integer.b .nil pass0 (pa_cons (pv 0) (pa_cons pe_int (pa_cons (pe_glob (v := .int 4) rfl hMV ⟨_, rfl⟩) pa_nil)))))) (pss_one ps_never) pss_nil), ?_⟩
    refine ⟨.int sz, rfl, sz, 1, 4, rfl, _, rfl, ?_⟩
    rw [decide_eq_true hs]
    exact iteF q
def sp_check_relation_arity : Sp := fun vs H Q _ => ∃ ar : Int, vs = [.int ar] ∧ (1 ≤ ar ∧ ar ≤ 4) ∧ Q .non H
def sp_check_relation (T : Txt K mg base) : Sp := fun vs H Q _ => ∃ (sz ar : Int) (v : V) (rows : List (List Int)), vs = [.int sz, v] ∧ DT K H v (relD ar rows) ∧ TT T.tabs H ∧ RelOk sz ar rows ∧ ∀ H', Gr H H' → Q .non H'
def sp_check_places (T : Txt K mg base) : Sp := fun vs H Q _ => ∃ (v : V) (ns : List Int) (lo hi bd : Int), vs = [v, .int lo, .int hi, .int bd] ∧ DT K H v (rowD ns) ∧ TT T.tabs H ∧ (lo ≤ (ns.length : Int) ∧ (ns.length : Int) ≤ hi) ∧ (∀ x ∈ ns, 0 ≤ x ∧ x ≤ bd - 1) ∧ ∀ H', Gr H H' → Q .non H'
end K66

set_option Elab.async false
set_option linter.all false
/-! plain mathematics of rows -/
namespace MR
/-- each row with each value behind it -/
def ext (sz : Nat) (rows : List (List Int)) : List (List Int) := rows.flatMap fun r => (List.range sz).map fun (v : Nat) => r ++ [(v : Int)]
def allRows (sz : Nat) : Nat → List (List Int)
  | 0 => [[]]
  | n + 1 => ext sz (allRows sz n)
/-- i rows done, j values of the next one -/
def part (sz : Nat) (rows : List (List Int)) (i j : Nat) : List (List Int) := ext sz (rows.take i) ++ match rows[i]? with
  | some r => (List.range j).map fun (v : Nat) => r ++ [(v : Int)]
  | none => []
theorem ext_len (sz : Nat) (rows : List (List Int)) : (ext sz rows).length = rows.length * sz := by
  induction rows with
  | nil => simp [ext]
  | cons r rows ih =>
    unfold ext at ih ⊢
    rw [List.flatMap_cons, List.length_append, ih, List.length_map, List.length_range, List.length_cons, Nat.add_mul]
    omega
theorem ext_app (sz : Nat) (a b : List (List Int)) : ext sz (a ++ b) = ext sz a ++ ext sz b := by
  unfold ext
  rw [List.flatMap_append]
theorem ext_one (sz : Nat) (r : List Int) : ext sz [r] = (List.range sz).map fun (v : Nat) => r ++ [(v : Int)] := by
  unfold ext
  simp
theorem part_zero (sz : Nat) (rows : List (List Int)) : part sz rows 0 0 = [] := by
  unfold part
  cases rows with
  | nil => rfl
  | cons r rows => rfl
theorem part_step {sz : Nat} {rows : List (List Int)} {i j : Nat} {r : List Int} (h : rows[i]? = some r) : part sz rows i (j + 1) = part sz rows i j ++ [r ++ [(j : Int)]] := by
  unfold part
  rw [h]
  show ext sz (rows.take i) ++ (List.range (j + 1)).map (fun (v : Nat) => r ++ [(v : Int)]) = ext sz (rows.take i) ++ (List.range j).map (fun (v : Nat) => r ++ [(v : Int)]) ++ [r ++ [(j : Int)]]
  rw [List.range_succ, List.map_append, ← List.append_assoc]
  rfl
theorem part_next {sz : Nat} {rows : List (List Int)} {i : Nat} (h : i < rows.length) : part sz rows i sz = part sz rows (i + 1) 0 := by
  unfold part
  have e : rows[i]? = some rows[i] := List.getElem?_eq_getElem h
  have z : (match rows[i + 1]? with | some r => (List.range 0).map fun (v : Nat) => r ++ [(v : Int)] | none => []) = [] := by
    cases rows[i + 1]? <;> rfl
  rw [e, z, List.append_nil, List.take_add_one, e, ext_app]
  show _ = ext sz (rows.take i) ++ ext sz [rows[i]]
  rw [ext_one]
theorem part_end (sz : Nat) (rows : List (List Int)) : part sz rows rows.length 0 = ext sz rows := by
  unfold part
  rw [List.getElem?_eq_none (Nat.le_refl _), List.append_nil, List.take_length]
theorem part_len {sz : Nat} {rows : List (List Int)} {i j : Nat} (hj : j ≤ sz) : (part sz rows i j).length ≤ rows.length * sz := by
  unfold part
  rw [List.length_append, ext_len, List.length_take]
  cases h : rows[i]? with
  | none =>
    have : min i rows.length * sz ≤ rows.length * sz := Nat.mul_le_mul_right _ (Nat.min_le_right _ _)
    simpa using this
  | some r =>
    have hi : i < rows.length := (List.getElem?_eq_some_iff.mp h).1
    show min i rows.length * sz + ((List.range j).map _).length ≤ _
    rw [List.length_map, List.length_range, Nat.min_eq_left (Nat.le_of_lt hi)]
    have : (i + 1) * sz ≤ rows.length * sz := Nat.mul_le_mul_right _ hi
    rw [Nat.add_mul] at this
    omega
theorem allRows_len (sz n : Nat) : (allRows sz n).length = sz ^ n := by
  induction n with
  | zero => rfl
  | succ n ih =>
    show (ext sz (allRows sz n)).length = _
    rw [ext_len, ih, Nat.pow_succ]
theorem allRows_len_le {sz n : Nat} (hs : sz ≤ 4) (hn : n ≤ 4) : (allRows sz n).length ≤ 256 := by
  rw [allRows_len]
  exact Nat.le_trans (Nat.pow_le_pow_left hs n) (Nat.pow_le_pow_right (by omega) hn)
theorem mem_ext {sz : Nat} {rows : List (List Int)} {r : List Int} : r ∈ ext sz rows ↔ ∃ q ∈ rows, ∃ v : Nat, v < sz ∧ r = q ++ [(v : Int)] := by
  unfold ext
  rw [List.mem_flatMap]
  constructor
  · rintro ⟨q, hq, h⟩
    obtain ⟨v, hv, rfl⟩ := List.mem_map.mp h
    exact ⟨q, hq, v, List.mem_range.mp hv, rfl⟩
  · rintro ⟨q, hq, v, hv, rfl⟩
    exact ⟨q, hq, List.mem_map.mpr ⟨v, List.mem_range.mpr hv, rfl⟩⟩
theorem allRows_ok {sz : Nat} : ∀ {n : Nat} {r : List Int}, r ∈ allRows sz n → r.length = n ∧ ∀ x ∈ r, 0 ≤ x ∧ x < (sz : Int)
  | 0, r, h => by
    have : r = [] := by simpa [allRows] using h
    subst this
    exact ⟨rfl, fun x hx => by simp at hx⟩
  | n + 1, r, h => by
    obtain ⟨q, hq, v, hv, rfl⟩ := mem_ext.mp h
    obtain ⟨h1, h2⟩ := allRows_ok hq
    refine ⟨by rw [List.length_append, h1]; rfl, fun x hx => ?_⟩
    rcases List.mem_append.mp hx with hx | hx
    · exact h2 x hx
    · have : x = (v : Int) := by simpa using hx
      subst this
      omega

/-! each row of one with each row of the other behind it -/
def prod (a b : List (List Int)) : List (List Int) := a.flatMap fun f => b.map fun g => f ++ g
def part2 (a b : List (List Int)) (i j : Nat) : List (List Int) := prod (a.take i) b ++ match a[i]? with
  | some f => (b.take j).map fun g => f ++ g
  | none => []
theorem prod_app (a c b : List (List Int)) : prod (a ++ c) b = prod a b ++ prod c b := by
  unfold prod
  rw [List.flatMap_append]
theorem prod_one (f : List Int) (b : List (List Int)) : prod [f] b = b.map fun g => f ++ g := by
  unfold prod
  simp
theorem prod_len (a b : List (List Int)) : (prod a b).length = a.length * b.length := by
  induction a with
  | nil => simp [prod]
  | cons f a ih =>
    unfold prod at ih ⊢
    rw [List.flatMap_cons, List.length_append, ih, List.length_map, List.length_cons, Nat.add_mul]
    omega
theorem part2_zero (a b : List (List Int)) : part2 a b 0 0 = [] := by
  unfold part2
  cases a with
  | nil => rfl
  | cons f a => simp [prod]
theorem part2_step {a b : List (List Int)} {i j : Nat} {f g : List Int} (h : a[i]? = some f) (h2 : b[j]? = some g) : part2 a b i (j + 1) = part2 a b i j ++ [f ++ g] := by
  unfold part2
  rw [h]
  show prod (a.take i) b ++ (b.take (j + 1)).map _ = prod (a.take i) b ++ (b.take j).map _ ++ [_]
  rw [List.take_add_one, h2, List.map_append, ← List.append_assoc]
  rfl
theorem part2_next {a b : List (List Int)} {i : Nat} (h : i < a.length) : part2 a b i b.length = part2 a b (i + 1) 0 := by
  unfold part2
  have e : a[i]? = some a[i] := List.getElem?_eq_getElem h
  have z : (match a[i + 1]? with | some f => (b.take 0).map fun g => f ++ g | none => []) = [] := by
    cases a[i + 1]? <;> rfl
  rw [e, z, List.append_nil, List.take_add_one, e, prod_app]
  show prod (a.take i) b ++ (b.take b.length).map _ = prod (a.take i) b ++ prod [a[i]] b
  rw [prod_one, List.take_length]
theorem part2_end (a b : List (List Int)) : part2 a b a.length 0 = prod a b := by
  unfold part2
  rw [List.getElem?_eq_none (Nat.le_refl _), List.append_nil, List.take_length]
theorem part2_len {a b : List (List Int)} {i j : Nat} : (part2 a b i j).length ≤ a.length * b.length := by
  unfold part2
  rw [List.length_append, prod_len, List.length_take]
  cases h : a[i]? with
  | none =>
    have : min i a.length * b.length ≤ a.length * b.length := Nat.mul_le_mul_right _ (Nat.min_le_right _ _)
    simpa using this
  | some r =>
    have hi : i < a.length := (List.getElem?_eq_some_iff.mp h).1
    show min i a.length * b.length + ((b.take j).map _).length ≤ _
    rw [List.length_map, List.length_take, Nat.min_eq_left (Nat.le_of_lt hi)]
    have : (i + 1) * b.length ≤ a.length * b.length := Nat.mul_le_mul_right _ hi
    rw [Nat.add_mul] at this
    omega

/-! rows with equal entries at two places -/
def glue (rows : List (List Int)) (a b : Nat) : List (List Int) := rows.filter fun r => decide (r.getD a 0 = r.getD b 0)
theorem filter_step {α : Type} {l : List α} {p : α → Bool} {i : Nat} {x : α} (h : l[i]? = some x) : (l.take (i + 1)).filter p = (l.take i).filter p ++ if p x = true then [x] else [] := by
  rw [List.take_add_one, h, List.filter_append]
  by_cases hp : p x = true
  · simp [hp]
  · simp [hp]
end MR

set_option Elab.async false
set_option linter.all false
set_option maxRecDepth 100000
set_option maxHeartbeats 4000000
namespace K66
open PySem PySem.Spec PyProof.Rows L2 TK MR
variable {P : Program} {w : World} {K : PySem.W.Frag} {mg : Str → Option Value} {base : Heap}
/-- a list of rows at p -/
def LR (K : PySem.W.Frag) (H : Hp) (p : Addr) (rows : List (List Int)) : Prop := ∃ vs, H p = some (.lst vs) ∧ DTs K H vs (rows.map rowD)
theorem LR.app {H : Hp} {rows : List (List Int)} {vs : List V} (h : DTs K H vs (rows.map rowD)) {v : V} {r : List Int} (hv : DT K H v (rowD r)) : DTs K H (vs ++ [v]) ((rows ++ [r]).map rowD) := by
  rw [List.map_append]
  exact h.app (.one hv)
/-- a row with one more value: row + (value,) -/
theorem cat_one {H : Hp} {v : V} {r : List Int} {n : Int} {T : Addr} {Q : VK} (hv : DT K H v (rowD r)) (hT : H T = some (.tup [.int n])) (hl : r.length < 1000) (q : ∀ u H', Gr H H' → DT K H' u (rowD (r ++ [n])) → Q u H') : rCatA K v (.ref T) H Q := by
  obtain ⟨a, rfl, hS⟩ := hv.row_inv
  refine ⟨a, T, _, _, rfl, rfl, hS, .inl (.inl hT), ?_, fun e => ?_, fun _ e => (by cases e), fun _ _ p hp => ?_⟩
  · rw [List.length_map]
    have h9 := Nat.le_of_lt (small1000 (n := r.length + 1) (by omega))
    simpa using h9
  · have e : r = [] := by simpa using e
    subst e
    exact q _ _ Gx.refl (.row hT)
  · refine q _ _ (Gx.new hp) (.row ?_)
    rw [List.map_append]
    exact upd_same
/-! all_rows -/
def sp_all_rows (K : PySem.W.Frag) : Sp := fun vs H Q _ => ∃ sz ar : Nat, vs = [.int sz, .int ar] ∧ sz ≤ 4 ∧ ar ≤ 4 ∧ ∀ p H', Gr H H' → H p = none → LR K H' p (allRows sz ar) → Q (.ref p) H'
theorem ok_all_rows (T : Txt K mg base) : FnOk P w K mg base CX0 1 T.all_rows.f T.all_rows.fd p_all_rows (sp_all_rows K) := by
  refine T.all_rows.F.ok sc_all_rows (fun vs H Q E h => ?_) (fun A outer s H vs Q E hr h => ?_)
  · obtain ⟨sz, ar, rfl, _⟩ := h
    rfl
  · obtain ⟨sz, ar, rfl, h1, h2, q⟩ := h
    refine ⟨_, pss_cons (ps_set (i := 2) sc_all_rows.nd rfl (.inl rfl) (pe_lst (pa_cons (pe_tup pa_nil) pa_nil)))
      (pss_cons (ps_for PassesOwn.never rfl (pi_range1 (by rfl) T.b_range (pa_cons (pv 1) pa_nil)) (pg_name (i := 3) sc_all_rows.nd rfl (.inl rfl))
        (pss_one (ps_setLc2 (i := 2) (own := [("row", 4), ("value", 5)]) (vs1 := [5]) (g := gName 4) (g1 := gName 5) (tt := tYes) (tt1 := tYes) rfl sc_all_rows.nd rfl rfl (sw_true rfl rfl rfl (by decide +kernel)) (pi_list (pv 2))
          (blkOk_by (N := n_all_rows) (sc := defScope s_all_rows) (by decide +kernel)) (by simp) (fun _ _ _ _ _ => pg_name (i := 4) sc_all_rows.nd rfl (Or.inl rfl)) (fun _ _ _ _ _ => pts_nil)
          (fun _ _ _ _ _ => pi_range1 (by rfl) T.b_range (pa_cons (pv 0) pa_nil)) (fun _ _ _ _ _ => pg_name (i := 5) sc_all_rows.nd rfl (Or.inl rfl)) (fun _ _ _ _ _ => pts_nil)
          (fun _ _ _ _ _ => pe_op (op_catAK K) (pv 4) (pe_tup (pa_cons (pv 5) pa_nil))))))
      (pss_one (ps_ret (pv 2)))), ?_⟩
    -- rows = [()]
    refine ⟨Nat.zero_le _, fun t nt => ⟨by show 1 ≤ sizeLine; decide, fun p np => ?_⟩⟩
    have np0 : H p = none := Gr.free (Gx.new nt) np
    have g0 : Gr H (upd (upd H t (.tup [])) p (.lst [.ref t])) := (Gx.new nt).trans (Gx.new np)
    have l0 : LR K (upd (upd H t (.tup [])) p (.lst [.ref t])) p (allRows sz 0) := by
      refine ⟨_, upd_same, .one (.row (ns := []) ?_)⟩
      have : t ≠ p := fun e => by
        rw [e, upd_same] at np
        cases np
      rw [upd_ne this, upd_same]
      rfl
    refine ⟨.int ar, rfl, ar, rfl, by omega, by omega, ?_⟩
    refine for_range (n := (ar : Int).toNat) (fun i σ H' => ∃ p y3, σ = [some (.int sz), some (.int ar), some (.ref p), y3, none, none] ∧ Gr H H' ∧ H p = none ∧ LR K H' p (allRows sz i)) ⟨p, none, rfl, g0, np0, l0⟩ (fun i σ H' hi hp => ?_) (fun σ H' hp => ?_)
    · obtain ⟨p1, y3, rfl, g1, n1, vs1, hp1, hd1⟩ := hp
      have hi4 : i < 4 := by omega
      have lr : (allRows sz i).length ≤ 256 := allRows_len_le h1 (by omega)
      have lr4 : (allRows sz i).length * sz ≤ 1000 := by
        have : (allRows sz i).length * sz ≤ 64 * 4 := by
          rw [allRows_len]
          exact Nat.mul_le_mul (Nat.le_trans (Nat.pow_le_pow_left h1 i) (Nat.pow_le_pow_right (show 0 < 4 by omega) (show i ≤ 3 by omega))) h1
        omega
      have lx : vs1.length = (allRows sz i).length := by rw [hd1.1, List.length_map]
      refine ⟨.ref p1, rfl, p1, rfl, ⟨_, .inl (.inl hp1)⟩, fun D nD => ?_⟩
      have nD0 : H D = none := g1.free nD
      refine lc2_lr (K := K) (xs := vs1) sz (fun a b H2 => Gr H' H2 ∧ a ≤ vs1.length ∧ b ≤ sz ∧ LR K H2 D (part sz (allRows sz i) a b)) ⟨Gx.new nD, Nat.zero_le _, Nat.zero_le _, [], upd_same, by rw [part_zero]; exact .nil⟩
        (fun a H2 _ p => p.1.seqL (.inl (.inl hp1))) (fun x H2 R hR => ⟨.int sz, rfl, sz, rfl, by omega, by omega, by simpa using hR⟩) (fun _ => rfl) (fun _ _ => rfl)
        (fun a b x H2 ex hb p => ?_) (fun a H2 ha p => ⟨p.1, ha, Nat.zero_le _, by rw [← part_next (by omega)]; exact p.2.2.2⟩) (fun H2 p => ?_)
      · obtain ⟨g2, ha, hb', ws, hD, hds⟩ := p
        obtain ⟨dx, e1, dv⟩ := hd1.at' ex
        rw [List.getElem?_map] at e1
        obtain ⟨r, er, rfl⟩ := Option.map_eq_some_iff.mp e1
        have hr4 := (allRows_ok (List.mem_of_getElem? er)).1
        refine ⟨x, rfl, .int (0 + (b : Int)), rfl, by show 1 ≤ sizeLine; decide, fun t nt => ?_⟩
        have gt : Gr H2 (upd H2 t (.tup [.int (0 + (b : Int))])) := Gx.new nt
        refine cat_one (r := r) (n := 0 + (b : Int)) ((dv.gr g2).gr gt) upd_same (by omega) fun u H3 g3 du => ?_
        have hD3 : H3 D = some (.lst ws) := (gt.trans g3).lst hD
        refine ⟨ws, hD3, ?_, ?_⟩
        · rw [hds.1, List.length_map]
          exact small1000 (Nat.le_trans (part_len hb') lr4)
        · have gw : Gr H' (upd H3 D (.lst (ws ++ [u]))) := ((g2.trans gt).trans g3).wr nD
          refine ⟨gw, ha, hb, _, upd_same, ?_⟩
          rw [part_step er]
          refine LR.app ((hds.gr (gt.trans g3)).wr hD3) (DT.wr hD3 ?_)
          rw [Int.zero_add] at du
          exact du
      · obtain ⟨g2, _, _, hl⟩ := p
        rw [lx, part_end] at hl
        exact ⟨D, _, rfl, g1.trans g2, nD0, hl⟩
    · obtain ⟨p1, y3, rfl, g1, n1, hl⟩ := hp
      exact ⟨.ref p1, rfl, q p1 H' g1 n1 (by simpa using hl)⟩

end K66

set_option Elab.async false
set_option linter.all false
set_option maxRecDepth 100000
set_option maxHeartbeats 4000000
namespace K66
open PySem PySem.Spec PyProof.Rows L2 TK MR
variable {P : Program} {w : World} {K : PySem.W.Frag} {mg : Str → Option Value} {base : Heap}
/-- a relation laid: (ar, tuple) -/
theorem rel_laid {H : Hp} {p : Addr} {u : V} {ar : Int} {rows : List (List Int)} (hu : DT K H u (.tuple (rows.map rowD))) (hp : H p = none) : DT K (upd H p (.tup [.int ar, u])) (.ref p) (relD ar rows) := by
  obtain ⟨b, xs, rfl, h1, h2⟩ := hu.tup_invS
  exact DT.rel upd_same (Gx.tupS (Gx.new (S := []) hp) .nil h1) (h2.gr (Gx.new hp))
/-- tuple(a list of rows) -/
theorem tup_laid {H : Hp} {p l : Addr} {rows : List (List Int)} (h : LR K H p rows) (hl : H l = none) : ∃ vs, H p = some (.lst vs) ∧ DT K (upd H l (.tup vs)) (.ref l) (.tuple (rows.map rowD)) := by
  obtain ⟨vs, h1, h2⟩ := h
  exact ⟨vs, h1, .mk upd_same (h2.gr (Gx.new hl))⟩
/-! full -/
def sp_full (K : PySem.W.Frag) : Sp := fun vs H Q _ => ∃ sz ar : Nat, vs = [.int sz, .int ar] ∧ (1 ≤ sz ∧ sz ≤ 4) ∧ (1 ≤ ar ∧ ar ≤ 4) ∧ ∀ v H', Gr H H' → DT K H' v (relD ar (allRows sz ar)) → Q v H'
/-- a concatenation of two rows, neither empty -/
theorem cat_rows {H : Hp} {v u : V} {r q : List Int} {Q : VK} (hv : DT K H v (rowD r)) (hu : DT K H u (rowD q)) (hl : r.length + q.length ≤ 1000) (h1 : r ≠ []) (h2 : q ≠ []) (k : ∀ z H', Gr H H' → DT K H' z (rowD (r ++ q)) → Q z H') : rCatA K v u H Q := by
  obtain ⟨a, rfl, hS⟩ := hv.row_inv
  obtain ⟨b, rfl, hS2⟩ := hu.row_inv
  refine ⟨a, b, _, _, rfl, rfl, hS, hS2, ?_, fun e => ?_, fun _ e => ?_, fun _ _ p hp => ?_⟩
  · rw [List.length_map, List.length_map]
    exact Nat.le_of_lt (small1000 hl)
  · exact absurd (by simpa using e) h1
  · exact absurd (by simpa using e) h2
  · refine k _ _ (Gx.new hp) (.row ?_)
    rw [List.map_append]
    exact upd_same
/-- a relation's parts -/
theorem rel_ix0 {H : Hp} {v : V} {ar : Int} {rows : List (List Int)} {Q : VK} (h : DT K H v (relD ar rows)) (q : Q (.int ar) H) : rIxT K v (.int 0) H Q := by
  obtain ⟨a, b, xs, rfl, h1, _, _⟩ := h.rel_inv
  exact ⟨a, _, 0, .int ar, rfl, rfl, h1, atI_nat (j := 0) rfl, q⟩
theorem rel_ix1 {H : Hp} {v : V} {ar : Int} {rows : List (List Int)} {Q : VK} (h : DT K H v (relD ar rows)) (q : ∀ b xs, SqT K H b xs → DTs K H xs (rows.map rowD) → Q (.ref b) H) : rIxT K v (.int 1) H Q := by
  obtain ⟨a, b, xs, rfl, h1, h2, h3⟩ := h.rel_inv
  exact ⟨a, _, 1, .ref b, rfl, rfl, h1, atI_nat (j := 1) rfl, q b xs h2 h3⟩
/-! product -/
def sp_product (T : Txt K mg base) : Sp := fun vs H Q _ => ∃ (sz : Int) (v u : V) (ar br : Int) (r1 r2 : List (List Int)), vs = [.int sz, v, u] ∧ (1 ≤ sz ∧ sz ≤ 4) ∧ DT K H v (relD ar r1) ∧ DT K H u (relD br r2) ∧ TT T.tabs H ∧ RelOk sz ar r1 ∧ RelOk sz br r2 ∧ ar + br ≤ 4 ∧ r1.length * r2.length ≤ 900 ∧
  ∀ z H', Gr H H' → DT K H' z (relD (ar + br) (prod r1 r2)) → Q z H'
end K66

set_option Elab.async false
set_option linter.all false
set_option maxRecDepth 100000
set_option maxHeartbeats 4000000
namespace K66
open PySem PySem.Spec PyProof.Rows L2 TK MR
variable {P : Program} {w : World} {K : PySem.W.Frag} {mg : Str → Option Value} {base : Heap}
/-- row[a] -/
theorem row_ix {H : Hp} {v : V} {r : List Int} {z : Int} {a : Nat} {Q : VK} (h : DT K H v (rowD r)) (ez : z = (a : Int)) (ha : a < r.length) (q : Q (.int (r.getD a 0)) H) : rIxT K v (.int z) H Q := by
  obtain ⟨p, rfl, h1⟩ := h.row_inv
  subst ez
  refine ⟨p, _, (a : Int), .int (r.getD a 0), rfl, rfl, h1, atI_nat ?_, q⟩
  rw [List.getElem?_map, List.getElem?_eq_getElem ha, List.getD_eq_getElem?_getD, List.getElem?_eq_getElem ha]
  rfl
/-! glued -/
def sp_glued (T : Txt K mg base) : Sp := fun vs H Q _ => ∃ (sz : Int) (v u : V) (ar : Int) (rows : List (List Int)) (a b : Nat), vs = [.int sz, v, u] ∧ (1 ≤ sz ∧ sz ≤ 4) ∧ DT K H v (relD ar rows) ∧ DT K H u (rowD [(a : Int), (b : Int)]) ∧ TT T.tabs H ∧ RelOk sz ar rows ∧ (a : Int) < ar ∧ (b : Int) < ar ∧
  ∀ z H', Gr H H' → DT K H' z (relD ar (glue rows a b)) → Q z H'
end K66

set_option Elab.async false
set_option linter.all false
set_option maxRecDepth 100000
set_option maxHeartbeats 4000000
namespace K66
open PySem PySem.Spec PyProof.Rows L2 TK MR
variable {P : Program} {w : World} {K : PySem.W.Frag} {mg : Str → Option Value} {base : Heap}
/-! the draws' own list -/
/-- the script and the place r: apart, or the script stands in the fragment -/
def Sep (K : PySem.W.Frag) (a r : Addr) (ns : List Int) : Prop := a ≠ r ∨ SqL K (fun _ => none) a (ns.map V.int)
theorem seqL_frag {H : Hp} {a : Addr} {xs : List V} (h : SqL K (fun _ => none) a xs) : SqL K H a xs := by
  rcases h with (h | ⟨o', h⟩) | h
  · cases h
  · cases h
  · exact .inr h
theorem seqL_ne {H : Hp} {a r : Addr} {xs : List V} {o : HO} (h : SqL K H a xs) (n : a ≠ r) : SqL K (upd H r o) a xs := by
  rcases h with (h | ⟨o', h⟩) | h
  · exact .inl (.inl (by rw [upd_ne n]; exact h))
  · exact .inl (.inr ⟨o', by rw [upd_ne n]; exact h⟩)
  · exact .inr h
theorem seqL_upd {H : Hp} {a r : Addr} {ns : List Int} {o : HO} (h : SqL K H a (ns.map V.int)) (n : Sep K a r ns) : SqL K (upd H r o) a (ns.map V.int) := n.elim (seqL_ne h) seqL_frag
def RowSt (K : PySem.W.Frag) (H : Hp) (r a : Addr) : Prop := ∃ (ns : List Int) (i st d : Int), H r = some (.lst [.ref a, .int i, .int st, .int d]) ∧ SqL K H a (ns.map V.int) ∧ Sep K a r ns ∧ 0 ≤ i ∧ 0 ≤ st ∧ st < 2147483647
theorem fmod_range {x m : Int} (h : 0 < m) : 0 ≤ Int.fmod x m ∧ Int.fmod x m < m := ⟨Int.fmod_nonneg_of_pos x h, Int.fmod_lt_of_pos x h⟩
theorem RowSt.lst {H : Hp} {r a : Addr} (h : RowSt K H r a) : ∃ xs, H r = some (.lst xs) := let ⟨_, _, _, _, h, _⟩ := h; ⟨_, h⟩
theorem RowSt.ls {H : Hp} {r a : Addr} (h : RowSt K H r a) : LS [r] H := let ⟨_, e⟩ := h.lst; .one e
theorem RowSt.gr {H H' : Hp} {r a : Addr} (g : Gr H H') (h : RowSt K H r a) : RowSt K H' r a := by
  obtain ⟨ns, i, st, d, h1, h2, h3⟩ := h
  exact ⟨ns, i, st, d, g.lst h1, g.seqL h2, h3⟩
/-! _law_taken -/
def sp_law_taken (K : PySem.W.Frag) : Sp := fun vs H Q _ => ∃ (r a : Addr) (m : Int), vs = [.ref r, .int m] ∧ RowSt K H r a ∧ 1 ≤ m ∧ m ≤ 1000 ∧ ∀ (x : Int) H', 0 ≤ x → x < m → Gx [r] H H' → RowSt K H' r a → Q (.int x) H'
theorem ok_law_taken (T : Txt K mg base) : FnOk P w K mg base CX0 1 T.law_taken.f T.law_taken.fd p_law_taken (sp_law_taken K) := by
  refine T.law_taken.F.ok sc_law_taken (fun vs H Q E h => ?_) (fun A outer s H vs Q E hr h => ?_)
  · obtain ⟨_, _, _, rfl, _⟩ := h
    rfl
  · obtain ⟨r, a, m, rfl, ⟨ns, i, st, d, hr0, hS, har, hi, hst, hst2⟩, h1, h2, q⟩ := h
    refine ⟨_, pss_cons (ps_if (pt_cmpR op_gt (pe_ix ix_list (pv 0) pe_int (fun _ _ => rfl)) pe_int (nomark _))
        (pss_cons (ps_set (i := 2) sc_law_taken.nd rfl (.inl rfl) (pe_op op_modN (pe_callTy call_int1 (by rfl) T.b_int boot_int (pa_cons (pe_ix ix_list (pv 0) pe_int (fun _ _ => rfl)) pa_nil)) (pv 1)))
        (pss_cons (ps_asg (pe_op op_fdivN (pe_ix ix_list (pv 0) pe_int (fun _ _ => rfl)) (pv 1)) (pg_sub (pv 0) pe_int set_list))
        (pss_one (ps_ret (pv 2))))) pss_nil)
      (pss_cons (ps_asg (pe_op op_add (pe_ix ix_list (pv 0) pe_int (fun _ _ => rfl)) pe_int) (pg_sub (pv 0) pe_int set_list))
      (pss_cons (ps_if (pt_cmpR op_gt (pe_ix ix_list (pv 0) pe_int (fun _ _ => rfl)) (pe_callB call_len_seq (by rfl) T.b_len PySem.boot_len (pa_cons (pe_ix ix_list (pv 0) pe_int (fun _ _ => rfl)) pa_nil)) (nomark _))
        (pss_cons (ps_asg (pe_op op_modN (pe_callTy call_int1 (by rfl) T.b_int boot_int (pa_cons (pe_op op_add (pe_op op_mul (pe_ix ix_list (pv 0) pe_int (fun _ _ => rfl)) pe_int) pe_int) pa_nil)) pe_int) (pg_sub (pv 0) pe_int set_list))
        (pss_one (ps_ret (pe_op op_modN (pe_callTy call_int1 (by rfl) T.b_int boot_int (pa_cons (pe_op op_fdivN (pe_ix ix_list (pv 0) pe_int (fun _ _ => rfl)) pe_int) pa_nil)) (pv 1))))) pss_nil)
      (pss_cons (ps_set (i := 3) sc_law_taken.nd rfl (.inl rfl) (pe_ix ix_list (pe_ix ix_list (pv 0) pe_int (fun _ _ => rfl)) (pe_op op_sub (pe_ix ix_list (pv 0) pe_int (fun _ _ => rfl)) pe_int) (fun _ _ => rfl)))
      (pss_cons (ps_asg (pe_op op_modN (pe_callTy call_int1 (by rfl) T.b_int boot_int (pa_cons (pe_op op_add (pe_op op_add (pe_op op_mul (pe_ix ix_list (pv 0) pe_int (fun _ _ => rfl)) pe_int) (pv 3)) pe_int) pa_nil)) pe_int) (pg_sub (pv 0) pe_int set_list))
      (pss_cons (ps_if (pt_cmpR op_ge (pv 3) (pe_op op_pow pe_int pe_int) (nomark _)) (pss_one (ps_asg (pe_op op_fdivN (pv 3) (pv 1)) (pg_sub (pv 0) pe_int set_list))) pss_nil)
      (pss_one (ps_ret (pe_op op_modN (pe_callTy call_int1 (by rfl) T.b_int boot_int (pa_cons (pv 3) pa_nil)) (pv 1))))))))), ?_⟩
    have hm0 : m ≠ 0 := by omega
    have hmb : m.natAbs < 1073741824 := by omega
    refine ⟨.ref r, rfl, r, _, 3, .int d, rfl, rfl, .inl (.inl hr0), atI_nat (j := 3) rfl, d, 0, rfl, rfl, _, rfl, ite2 (fun _ => ?_) (fun _ => ?_)⟩
    · -- digits of a great cell
      refine ⟨.ref r, rfl, r, _, 3, .int d, rfl, rfl, .inl (.inl hr0), atI_nat (j := 3) rfl, .inl ⟨d, rfl, .int m, rfl, d, m, rfl, rfl, hm0, ?_⟩⟩
      refine ⟨.ref r, rfl, r, _, 3, .int d, rfl, rfl, .inl (.inl hr0), atI_nat (j := 3) rfl, .int m, rfl, d, m, rfl, rfl, ⟨hm0, hmb⟩, .ref r, rfl, r, _, 3, 3, rfl, rfl, hr0, rfl, ?_⟩
      obtain ⟨f1, f2⟩ := fmod_range (x := d) (show 0 < m by omega)
      exact ⟨_, rfl, q _ _ f1 f2 (Gx.refl.wrS (List.mem_singleton.mpr rfl)) ⟨ns, i, st, d.fdiv m, upd_same, seqL_upd hS har, har, hi, hst, hst2⟩⟩
    · refine ⟨.ref r, rfl, r, _, 1, .int i, rfl, rfl, .inl (.inl hr0), atI_nat (j := 1) rfl, i, 1, rfl, rfl, .ref r, rfl, r, _, 1, 1, rfl, rfl, hr0, rfl, ?_⟩
      have hr1 : upd H r (.lst ([.ref a, .int i, .int st, .int d].set 1 (.int (i + 1)))) r = some (.lst [.ref a, .int (i + 1), .int st, .int d]) := upd_same
      have hS1 : SqL K (upd H r (.lst ([.ref a, .int i, .int st, .int d].set 1 (.int (i + 1))))) a (ns.map V.int) := seqL_upd hS har
      have g1 : Gx [r] H (upd H r (.lst ([.ref a, .int i, .int st, .int d].set 1 (.int (i + 1))))) := Gx.refl.wrS (List.mem_singleton.mpr rfl)
      generalize upd H r (.lst ([.ref a, .int i, .int st, .int d].set 1 (.int (i + 1)))) = H1 at *
      refine ⟨.ref r, rfl, r, _, 1, .int (i + 1), rfl, rfl, .inl (.inl hr1), atI_nat (j := 1) rfl, .ref r, rfl, r, _, 0, .ref a, rfl, rfl, .inl (.inl hr1), atI_nat (j := 0) rfl, a, _, rfl, .inl hS1, i + 1, _, rfl, rfl, _, rfl, ite2 (fun _ => ?_) (fun hlen => ?_)⟩
      · -- behind the script
        refine ⟨.ref r, rfl, r, _, 2, .int st, rfl, rfl, .inl (.inl hr1), atI_nat (j := 2) rfl, st, 48271, rfl, rfl, .inl ⟨by omega, by omega⟩, st * 48271, 11, rfl, rfl, .inl ⟨_, rfl, _, 2147483647, rfl, rfl, (by show (2147483647 : Int) ≠ 0; decide), .ref r, rfl, r, _, 2, 2, rfl, rfl, hr1, rfl, ?_⟩⟩
        obtain ⟨f1, f2⟩ := fmod_range (x := st * 48271 + 11) (show (0 : Int) < 2147483647 by decide)
        have hr2 : upd H1 r (.lst ([.ref a, .int (i + 1), .int st, .int d].set 2 ((.int (Int.fmod (st * 48271 + 11) 2147483647))))) r = some (.lst [.ref a, .int (i + 1), (.int (Int.fmod (st * 48271 + 11) 2147483647)), .int d]) := upd_same
        refine ⟨.ref r, rfl, r, _, 2, (.int (Int.fmod (st * 48271 + 11) 2147483647)), rfl, rfl, .inl (.inl hr2), atI_nat (j := 2) rfl, (Int.fmod (st * 48271 + 11) 2147483647), 7, rfl, rfl, ⟨by decide, by decide⟩, .inl ⟨_, rfl, .int m, rfl, _, m, rfl, rfl, hm0, ?_⟩⟩
        obtain ⟨e1, e2⟩ := fmod_range (x := (Int.fmod (st * 48271 + 11) 2147483647).fdiv 7) (show 0 < m by omega)
        exact q _ _ e1 e2 (g1.wrS (List.mem_singleton.mpr rfl)) ⟨ns, i + 1, _, d, hr2, seqL_upd hS1 har, har, by omega, f1, f2⟩
      · have hl : i < (ns.length : Int) := by
          have hlen' : ¬ (decide (((ns.map V.int).length : Int) < i + 1) = true) := hlen
          rw [List.length_map] at hlen'
          simp at hlen'
          omega
        obtain ⟨k, hk⟩ := Int.eq_ofNat_of_zero_le hi
        subst hk
        have hkl : k < ns.length := by omega
        refine ⟨.ref r, rfl, r, _, 0, .ref a, rfl, rfl, .inl (.inl hr1), atI_nat (j := 0) rfl, .ref r, rfl, r, _, 1, .int ((k : Int) + 1), rfl, rfl, .inl (.inl hr1), atI_nat (j := 1) rfl, (k : Int) + 1, 1, rfl, rfl, a, _, (k : Int) + 1 - 1, .int ns[k], rfl, rfl, hS1, at_of (j := k) (by omega) ?_, ?_⟩
        · rw [List.getElem?_map, List.getElem?_eq_getElem hkl]
          rfl
        generalize ns[k] = cell
        refine ⟨.ref r, rfl, r, _, 2, .int st, rfl, rfl, .inl (.inl hr1), atI_nat (j := 2) rfl, st, 48271, rfl, rfl, .inl ⟨by omega, by omega⟩, .int cell, rfl, st * 48271, cell, rfl, rfl, st * 48271 + cell, 11, rfl, rfl, .inl ⟨_, rfl, _, 2147483647, rfl, rfl, (by show (2147483647 : Int) ≠ 0; decide), .ref r, rfl, r, _, 2, 2, rfl, rfl, hr1, rfl, ?_⟩⟩
        obtain ⟨f1, f2⟩ := fmod_range (x := st * 48271 + cell + 11) (show (0 : Int) < 2147483647 by decide)
        have hr2 : upd H1 r (.lst ([.ref a, .int ((k : Int) + 1), .int st, .int d].set 2 ((.int (Int.fmod (st * 48271 + cell + 11) 2147483647))))) r = some (.lst [.ref a, .int ((k : Int) + 1), (.int (Int.fmod (st * 48271 + cell + 11) 2147483647)), .int d]) := upd_same
        have hS2 := seqL_upd (o := .lst ([.ref a, .int ((k : Int) + 1), .int st, .int d].set 2 ((.int (Int.fmod (st * 48271 + cell + 11) 2147483647))))) hS1 har
        have g2 : Gx [r] H (upd H1 r (.lst ([.ref a, .int ((k : Int) + 1), .int st, .int d].set 2 ((.int (Int.fmod (st * 48271 + cell + 11) 2147483647)))))) := g1.wrS (List.mem_singleton.mpr rfl)
        obtain ⟨e1, e2⟩ := fmod_range (x := cell) (show 0 < m by omega)
        refine ⟨.int cell, rfl, 10, 18, rfl, rfl, ⟨by decide, by decide, by decide⟩, cell, _, rfl, rfl, _, rfl, ite2 (fun _ => ?_) (fun _ => ?_)⟩
        · refine ⟨.int cell, rfl, .int m, rfl, cell, m, rfl, rfl, ⟨hm0, hmb⟩, .ref r, rfl, r, _, 3, 3, rfl, rfl, hr2, rfl, ?_⟩
          exact ⟨.int cell, rfl, .inl ⟨cell, rfl, .int m, rfl, cell, m, rfl, rfl, hm0, q _ _ e1 e2 (g2.wrS (List.mem_singleton.mpr rfl)) ⟨ns, (k : Int) + 1, _, cell.fdiv m, upd_same, seqL_upd hS2 har, har, by omega, f1, f2⟩⟩⟩
        · exact ⟨.int cell, rfl, .inl ⟨cell, rfl, .int m, rfl, cell, m, rfl, rfl, hm0, q _ _ e1 e2 g2 ⟨ns, (k : Int) + 1, _, d, hr2, hS2, har, by omega, f1, f2⟩⟩⟩

end K66

set_option Elab.async false
set_option linter.all false
set_option maxRecDepth 100000
set_option maxHeartbeats 4000000
namespace K66
open PySem PySem.Spec PyProof.Rows L2 TK MR
variable {P : Program} {w : World} {K : PySem.W.Frag} {mg : Str → Option Value} {base : Heap}
theorem Gx.seqLne {H H1 : Hp} {r l : Addr} {xs : List V} (g : Gx [r] H H1) (n : l ≠ r) (h : SqL K H l xs) : SqL K H1 l xs := by
  have nn : l ∉ [r] := fun z => n (List.mem_singleton.mp z)
  rcases h with (h | ⟨o', h⟩) | h
  · exact .inl (.inl (g.at nn h fun _ z => by cases z))
  · exact .inl (.inr ⟨o', g.at nn h fun _ z => by cases z⟩)
  · exact .inr h
/-! _law_pick -/
def sp_law_pick (K : PySem.W.Frag) : Sp := fun vs H Q _ => ∃ (r a l : Addr) (xs : List V), vs = [.ref r, .ref l] ∧ RowSt K H r a ∧ SqL K H l xs ∧ l ≠ r ∧ 1 ≤ xs.length ∧ xs.length ≤ 1000 ∧ ∀ (j : Nat) (v : V) H', xs[j]? = some v → Gx [r] H H' → RowSt K H' r a → Q v H'
/-! _law_rows -/
end K66

set_option Elab.async false
set_option linter.all false
set_option maxRecDepth 100000
set_option maxHeartbeats 4000000
namespace K66
open PySem PySem.Spec PyProof.Rows L2 TK MR
variable {P : Program} {w : World} {K : PySem.W.Frag} {mg : Str → Option Value} {base : Heap}
/-- told + (thing,) of any data -/
theorem cat_oneD {H : Hp} {v u : V} {es : List PyData} {d : PyData} {T : Addr} {Q : VK} (hv : DT K H v (.tuple es)) (hu : DT K H u d) (hT : H T = some (.tup [u])) (hl : es.length < 1000) (q : ∀ z H', Gr H H' → DT K H' z (.tuple (es ++ [d])) → Q z H') : rCatA K v (.ref T) H Q := by
  obtain ⟨a, xs, rfl, hS, hD⟩ := hv.tup_inv
  refine ⟨a, T, _, _, rfl, rfl, hS, .inl (.inl hT), ?_, fun e => ?_, fun _ e => (by cases e), fun _ _ p hp => ?_⟩
  · have h9 := Nat.le_of_lt (small1000 (n := es.length + 1) (by omega))
    rw [hD.1]
    simpa using h9
  · subst e
    have e : es = [] := List.length_eq_zero_iff.mp hD.1.symm
    subst e
    exact q _ _ Gx.refl (.mk hT (.one hu))
  · exact q _ _ (Gx.new hp) (.mk upd_same ((hD.app (.one hu)).gr (Gx.new hp)))
/-- a list of tuples of n things of ds -/
def TLs (K : PySem.W.Frag) (H : Hp) (ds : List PyData) (n : Nat) (ws : List V) : Prop := ∀ w ∈ ws, ∃ es, DT K H w (.tuple es) ∧ es.length = n ∧ ∀ e ∈ es, e ∈ ds
theorem TLs.gr {H H' : Hp} {ds : List PyData} {n : Nat} {ws : List V} (g : Gr H H') (h : TLs K H ds n ws) : TLs K H' ds n ws := fun w hw => let ⟨es, a, b⟩ := h w hw; ⟨es, a.gr g, b⟩
theorem TLs.wr {H : Hp} {ds : List PyData} {n : Nat} {ws : List V} {p : Addr} {xs : List V} {o : HO} (e : H p = some (.lst xs)) (h : TLs K H ds n ws) : TLs K (upd H p o) ds n ws := fun w hw => let ⟨es, a, b⟩ := h w hw; ⟨es, DT.wr e a, b⟩
theorem TLs.app {H : Hp} {ds : List PyData} {n : Nat} {ws us : List V} (h : TLs K H ds n ws) (k : TLs K H ds n us) : TLs K H ds n (ws ++ us) := fun w hw => (List.mem_append.mp hw).elim (h w) (k w)
theorem TLs.nil {H : Hp} {ds : List PyData} {n : Nat} : TLs K H ds n [] := fun w hw => by simp at hw
theorem TLs.one {H : Hp} {ds : List PyData} {n : Nat} {u : V} {es : List PyData} (h : DT K H u (.tuple es)) (hl : es.length = n) (hm : ∀ e ∈ es, e ∈ ds) : TLs K H ds n [u] := fun w hw => by
  rw [List.mem_singleton.mp hw]
  exact ⟨es, h, hl, hm⟩
/-! _law_tuples -/
def sp_law_tuples (K : PySem.W.Frag) : Sp := fun vs H Q _ => ∃ (l : Addr) (xs : List V) (ds : List PyData) (n : Nat), vs = [.ref l, .int n] ∧ SqL K H l xs ∧ DTs K H xs ds ∧ ds.length ≤ 8 ∧ n ≤ 3 ∧ ∀ p H' ws, Gr H H' → H p = none → H' p = some (.lst ws) → ws.length ≤ 512 → TLs K H' ds n ws → Q (.ref p) H'
end K66

set_option Elab.async false
set_option linter.all false
namespace MR
def idxI (sz : Nat) (as : List Int) : Int := as.foldl (fun (a x : Int) => a * (sz : Int) + x) 0
theorem idxI_app (sz : Nat) (as : List Int) (x : Int) : idxI sz (as ++ [x]) = idxI sz as * sz + x := by
  unfold idxI
  rw [List.foldl_append]
  rfl
theorem fold_bd {sz : Nat} : ∀ (as : List Int) (c : Int) (n : Nat), 0 ≤ c → c < (sz : Int) ^ n → (∀ x ∈ as, 0 ≤ x ∧ x < (sz : Int)) → 0 ≤ as.foldl (fun (a x : Int) => a * (sz : Int) + x) c ∧ as.foldl (fun (a x : Int) => a * (sz : Int) + x) c < (sz : Int) ^ (n + as.length)
  | [], c, n, h1, h2, _ => ⟨h1, h2⟩
  | x :: as, c, n, h1, h2, h => by
    obtain ⟨h3, h4⟩ := h x List.mem_cons_self
    have hs : (0 : Int) ≤ sz := Int.natCast_nonneg _
    have e : (c + 1) * (sz : Int) ≤ (sz : Int) ^ n * sz := Int.mul_le_mul_of_nonneg_right (by omega) hs
    rw [Int.add_mul, Int.one_mul] at e
    have q := fold_bd as (c * sz + x) (n + 1) (Int.add_nonneg (Int.mul_nonneg h1 hs) h3) (by rw [Int.pow_succ]; omega) fun y hy => h y (List.mem_cons_of_mem _ hy)
    rw [List.length_cons, show n + (as.length + 1) = n + 1 + as.length by omega]
    exact q
theorem idxI_bd {sz : Nat} (as : List Int) (h : ∀ x ∈ as, 0 ≤ x ∧ x < (sz : Int)) : 0 ≤ idxI sz as ∧ idxI sz as < (sz : Int) ^ as.length := by
  have q := fold_bd as 0 0 (Int.le_refl _) (by rw [Int.pow_zero]; decide) h
  rw [Nat.zero_add] at q
  exact q
theorem idxI_nat {sz : Nat} {as : List Int} (h : ∀ x ∈ as, 0 ≤ x ∧ x < (sz : Int)) : (idxI sz as).toNat < sz ^ as.length := by
  obtain ⟨h1, h2⟩ := idxI_bd as h
  have : ((idxI sz as).toNat : Int) < ((sz ^ as.length : Nat) : Int) := by
    rw [Int.toNat_of_nonneg h1, Int.natCast_pow]
    exact h2
  omega
/-- the row to which an operation with this table carries rows of so many places -/
def carried (sz : Nat) (tab : List Int) (rs : List (List Int)) (ar : Nat) : List Int := (List.range ar).map fun a => tab.getD (idxI sz (rs.map fun r => r.getD a 0)).toNat 0
theorem carried_len (sz : Nat) (tab : List Int) (rs : List (List Int)) (ar : Nat) : (carried sz tab rs ar).length = ar := by
  unfold carried
  rw [List.length_map, List.length_range]
theorem getD_ok {tab : List Int} {sz : Int} (h : ∀ x ∈ tab, 0 ≤ x ∧ x < sz) (hs : 0 < sz) (i : Nat) : 0 ≤ tab.getD i 0 ∧ tab.getD i 0 < sz := by
  rw [List.getD_eq_getElem?_getD]
  cases e : tab[i]? with
  | none => exact ⟨Int.le_refl _, hs⟩
  | some x => exact h x (List.mem_of_getElem? e)
theorem carried_ok {sz : Nat} {tab : List Int} {rs : List (List Int)} {ar : Nat} (h : ∀ x ∈ tab, 0 ≤ x ∧ x < (sz : Int)) (hs : 1 ≤ sz) : ∀ x ∈ carried sz tab rs ar, 0 ≤ x ∧ x < (sz : Int) := fun x hx => by
  unfold carried at hx
  obtain ⟨a, _, rfl⟩ := List.mem_map.mp hx
  exact getD_ok h (by omega) _
end MR

set_option Elab.async false
set_option linter.all false
set_option maxRecDepth 100000
set_option maxHeartbeats 4000000
namespace K66
open PySem PySem.Spec PyProof.Rows L2 TK MR
variable {P : Program} {w : World} {K : PySem.W.Frag} {mg : Str → Option Value} {base : Heap}
/-- an operation: how many arguments, its table -/
def opD (k : Int) (tab : List Int) : PyData := .tuple [.int k, rowD tab]
theorem DT.op_inv {H : Hp} {v : V} {k : Int} {tab : List Int} (h : DT K H v (opD k tab)) : ∃ a b, v = .ref a ∧ SqT K H a [.int k, .ref b] ∧ SqT K H b (tab.map V.int) := by
  obtain ⟨a, xs, e, h1, h2⟩ := h.tup_inv
  obtain ⟨v1, r1, rfl, h3, h4⟩ := h2.cons_inv
  obtain ⟨v2, r2, rfl, h5, h6⟩ := h4.cons_inv
  have := h6.nil_inv
  subst this
  obtain ⟨b, rfl, h7⟩ := DT.row_inv h5
  rw [h3.int_inv] at h1
  exact ⟨a, b, e, h1, h7⟩
/-! _law_value -/
def sp_law_value (K : PySem.W.Frag) : Sp := fun vs H Q _ => ∃ (sz : Nat) (v : V) (l : Addr) (as tab : List Int) (k : Int), vs = [.int sz, v, .ref l] ∧ sz ≤ 4 ∧ DT K H v (opD k tab) ∧ SqL K H l (as.map V.int) ∧ (∀ x ∈ as, 0 ≤ x ∧ x < (sz : Int)) ∧ as.length ≤ 3 ∧ tab.length = sz ^ as.length ∧ Q (.int (tab.getD (idxI sz as).toNat 0)) H
/-! _law_carried -/
def sp_law_carried (K : PySem.W.Frag) : Sp := fun vs H Q _ => ∃ (sz : Nat) (v u : V) (rs : List (List Int)) (tab : List Int) (k : Int) (ar : Nat), vs = [.int sz, v, u] ∧ sz ≤ 4 ∧ DT K H v (opD k tab) ∧ DT K H u (.tuple (rs.map rowD)) ∧ rs ≠ [] ∧ rs.length ≤ 3 ∧ (∀ r ∈ rs, r.length = ar ∧ ∀ x ∈ r, 0 ≤ x ∧ x < (sz : Int)) ∧ ar ≤ 4 ∧ tab.length = sz ^ rs.length ∧
  ∀ z H', Gr H H' → DT K H' z (rowD (carried sz tab rs ar)) → Q z H'
end K66

set_option Elab.async false
set_option linter.all false
set_option maxRecDepth 100000
namespace MR
def minOf : List Int → Int
  | [] => 0
  | n :: ns => ns.foldl min n
def maxOf : List Int → Int
  | [] => 0
  | n :: ns => ns.foldl max n
/-- the ascending arrangement -/
def ins (x : Int) : List Int → List Int
  | [] => [x]
  | y :: ys => if x ≤ y then x :: y :: ys else y :: ins x ys
def isort : List Int → List Int
  | [] => []
  | x :: xs => ins x (isort xs)
theorem ins_perm (x : Int) : ∀ l, (ins x l).Perm (x :: l)
  | [] => List.Perm.refl _
  | y :: ys => by
    unfold ins
    split
    · exact List.Perm.refl _
    · exact ((ins_perm x ys).cons y).trans (List.Perm.swap x y ys)
theorem isort_perm : ∀ l, (isort l).Perm l
  | [] => List.Perm.refl _
  | x :: xs => (ins_perm x _).trans ((isort_perm xs).cons x)
theorem ins_asc (x : Int) : ∀ {l : List Int}, l.Pairwise (· ≤ ·) → (ins x l).Pairwise (· ≤ ·)
  | [], _ => List.pairwise_singleton ..
  | y :: ys, h => by
    obtain ⟨h1, h2⟩ := List.pairwise_cons.mp h
    unfold ins
    split
    · rename_i hxy
      exact List.pairwise_cons.mpr ⟨fun z hz => (List.mem_cons.mp hz).elim (fun e => e ▸ hxy) fun hz => Int.le_trans hxy (h1 z hz), h⟩
    · rename_i hxy
      refine List.pairwise_cons.mpr ⟨fun z hz => ?_, ins_asc x h2⟩
      rcases List.mem_cons.mp ((ins_perm x ys).subset hz) with e | hz
      · rw [e]
        omega
      · exact h1 z hz
theorem isort_asc : ∀ l, (isort l).Pairwise (· ≤ ·)
  | [] => List.Pairwise.nil
  | x :: xs => ins_asc x (isort_asc xs)
/-- the second of the ascending list -/
def mid (r : List Int) : Int := (isort r).getD 1 0
def dif (sz : Nat) (r : List Int) : Int := Int.fmod (r.getD 0 0 - r.getD 1 0 + r.getD 2 0) sz
def pix (r : List Int) : Int := if r.getD 1 0 = r.getD 2 0 then r.getD 1 0 else r.getD 0 0
def named (sz : Nat) : List (Nat × List Int) :=
  [(2, (allRows sz 2).map minOf), (2, (allRows sz 2).map maxOf), (3, (allRows sz 3).map mid), (3, (allRows sz 3).map (dif sz)), (1, List.replicate sz 0), (3, (allRows sz 3).map pix)]
/-- two ascending arrangements are one -/
theorem sorted_one : ∀ {l m : List Int}, l.Perm m → l.Pairwise (· ≤ ·) → m.Pairwise (· ≤ ·) → l = m
  | [], m, h, _, _ => (List.nil_perm.mp h).symm
  | a :: l, [], h, _, _ => absurd h.length_eq (by simp)
  | a :: l, b :: m, h, h1, h2 => by
    have ha : a ∈ b :: m := h.subset List.mem_cons_self
    have hb : b ∈ a :: l := h.symm.subset List.mem_cons_self
    have e : a = b := by
      rcases List.mem_cons.mp ha with e | ha
      · exact e
      · rcases List.mem_cons.mp hb with e | hb
        · exact e.symm
        · exact Int.le_antisymm ((List.pairwise_cons.mp h1).1 b hb) ((List.pairwise_cons.mp h2).1 a ha)
    subst e
    rw [sorted_one (List.perm_cons a |>.mp h) (List.pairwise_cons.mp h1).2 (List.pairwise_cons.mp h2).2]
theorem mid_eq {r l : List Int} (h : l.Perm r) (hs : l.Pairwise (· ≤ ·)) : l.getD 1 0 = mid r := by
  unfold mid
  rw [sorted_one (h.trans (isort_perm r).symm) hs (isort_asc r)]
/-- an operation of so many arguments: its table -/
structure OpOk (sz k : Nat) (tab : List Int) : Prop where
  k1 : 1 ≤ k
  k3 : k ≤ 3
  len : tab.length = sz ^ k
  val : ∀ x ∈ tab, 0 ≤ x ∧ x < (sz : Int)
  /-- equal arguments give themselves, or all give zero -/
  own : (∀ v : Nat, v < sz → tab.getD (idxI sz (List.replicate k (v : Int))).toNat 0 = v) ∨ (∀ x ∈ tab, x = 0)
def opB (sz : Nat) (o : Nat × List Int) : Bool :=
  decide (1 ≤ o.1) && decide (o.1 ≤ 3) && decide (o.2.length = sz ^ o.1) && (o.2.all fun x => decide (0 ≤ x) && decide (x < (sz : Int))) &&
    (((List.range sz).all fun v => decide (o.2.getD (idxI sz (List.replicate o.1 (v : Int))).toNat 0 = v)) || o.2.all fun x => decide (x = 0))
theorem op_by {sz : Nat} {o : Nat × List Int} (h : opB sz o = true) : OpOk sz o.1 o.2 := by
  unfold opB at h
  simp only [Bool.and_eq_true, Bool.or_eq_true, decide_eq_true_eq, List.all_eq_true, List.mem_range] at h
  obtain ⟨⟨⟨⟨h1, h2⟩, h3⟩, h4⟩, h5⟩ := h
  exact ⟨h1, h2, h3, h4, h5⟩
theorem named_ok1 : (named 1).all (opB 1) = true := by decide +kernel
theorem named_ok2 : (named 2).all (opB 2) = true := by decide +kernel
theorem named_ok3 : (named 3).all (opB 3) = true := by decide +kernel
theorem named_ok4 : (named 4).all (opB 4) = true := by decide +kernel
theorem named_ok {sz : Nat} (h1 : 1 ≤ sz) (h4 : sz ≤ 4) : ∀ o ∈ named sz, OpOk sz o.1 o.2 := fun o ho => by
  have e : sz = 1 ∨ sz = 2 ∨ sz = 3 ∨ sz = 4 := by omega
  rcases e with rfl | rfl | rfl | rfl
  · exact op_by (List.all_eq_true.mp named_ok1 o ho)
  · exact op_by (List.all_eq_true.mp named_ok2 o ho)
  · exact op_by (List.all_eq_true.mp named_ok3 o ho)
  · exact op_by (List.all_eq_true.mp named_ok4 o ho)
end MR

set_option Elab.async false
set_option linter.all false
set_option maxRecDepth 100000
set_option maxHeartbeats 4000000
/-! min, max, sorted of a tuple of ints; tuple * 1 -/
namespace PyProof.Rows
open PySem
open Sem (wp)
section
variable {prog : Program} {w : World} {A : Around} {E : Value → Shared → Prop} {s : Shared}
theorem collect_tupleI {l : Addr} {vs : List Value} {Q : List Value → Shared → Prop} (hl : IsTup s.heap l vs.toArray)
    (h : Q vs { s with heap := (s.heap.push (seqObj "list" #[] 0)).update s.heap.objs.size (Obj.mapSeq (· ++ vs.toArray)) }) (hsz : vs.length ≤ sizeLine) :
    wpAny (model prog w) A (collect (.ref l)) Q E s := by
  obtain ⟨o, ho, hc, n, hd⟩ := id hl
  unfold collect
  refine wpAny_bind (wpAny_runValue (codeAny_builtin entry_proto_collect' ?_))
  show wpAny _ _ (do again (.builtin "list.__iadd__" ⟨[← newList [], .ref l], []⟩)) _ _ s
  refine wpAny_bind (wpAny_newList (wpAny_pure ⟨Code.quiet_builtin _ (by decide +kernel), codeAny_builtin entry_list_iadd' ?_⟩))
  show wpAny _ _ (Builtin.List.listExtendWith (.ref s.heap.objs.size) (.ref l) (.ref s.heap.objs.size)) _ _ { s with heap := s.heap.push (seqObj "list" #[] 0) }
  unfold Builtin.List.listExtendWith
  have ho' : (s.heap.push (seqObj "list" #[] 0)).get? l = some o := Heap.get?_push_of_some _ ho
  refine wpAny_bind (wpAny_typeOf (T := "tuple") ⟨o, ho', hc⟩ ?_)
  have ht : (Value.type "tuple" == Value.type "tuple") = true := by rfl
  rw [if_pos (by rw [ht]; simp)]
  refine wpAny_bind (listItems_at ho' hd ?_)
  refine wpAny_bind (listItems_at (xs := #[]) (n := 0) (Heap.get?_push_size _ rfl) rfl ?_)
  rw [if_neg (by simp)]
  refine wpAny_bind (listUpdate_at (xs := #[]) (n := 0) (Heap.get?_push_size _ rfl) rfl ?_ (Nat.zero_le _) (by show (#[] ++ vs.toArray).size ≤ sizeLine + 1; simp only [Array.size_append, List.size_toArray, List.length_nil]; omega))
  refine wpAny_pure ?_
  show wpAny (model prog w) A (do
      let o ← load s.heap.objs.size
      match o.data with
      | .seq xs _ => pure xs.toList
      | _ => unsupported "internal:collect") Q E { s with heap := (s.heap.push (seqObj "list" #[] 0)).update s.heap.objs.size (Obj.mapSeq (· ++ vs.toArray)) }
  refine wpAny_bind (wpAny_load (get?_update_seq (Heap.get?_push_size _ rfl) _) ?_)
  show wpAny _ _ (pure ((#[] : Array Value) ++ vs.toArray).toList) Q E _
  rw [show ((#[] : Array Value) ++ vs.toArray).toList = vs by simp]
  exact wpAny_pure h
theorem sorted_intsT {l : Addr} {vs : List Value} {ns : List Int} {Q : Value → Shared → Prop} (hl : IsTup s.heap l vs.toArray) (hI : IntsAre vs ns) (h64 : vs.length < 64)
    (h : ∀ (out : Array Value) (ns' : List Int), IntsAre out.toList ns' → ns'.Perm ns → ns'.Pairwise (· ≤ ·) → Q (.ref (s.heap.objs.size + 1)) { s with heap := sortedAll s.heap vs out }) :
    wpAny (model prog w) A (call (.builtin "sorted") [.ref l]) Q E s := by
  refine Calls.call_function_entry kind_sorted plain_sorted entry_sorted (args_sorted1 _) ?_
  unfold Builtin.«sorted»
  refine wpAny_bind (m := checkCount "sorted" 1 1 _) (wpAny_pure ?_)
  refine wpAny_bind (collect_tupleI hl ?_ (by rw [sizeLine_eq]; omega))
  refine wpAny_bind (wpAny_newList ?_)
  have hsz : ((s.heap.push (seqObj "list" #[] 0)).update s.heap.objs.size (Obj.mapSeq (· ++ vs.toArray))).objs.size = s.heap.objs.size + 1 := by
    rw [Heap.size_update, size_push']
  have hoL : (((s.heap.push (seqObj "list" #[] 0)).update s.heap.objs.size (Obj.mapSeq (· ++ vs.toArray))).push (seqObj "list" vs.toArray 0)).get? (s.heap.objs.size + 1) = some (seqObj "list" vs.toArray 0) := by
    rw [← hsz]; exact Heap.get?_push_size _ rfl
  show wpAny _ _ _ _ _ { s with heap := ((s.heap.push (seqObj "list" #[] 0)).update s.heap.objs.size (Obj.mapSeq (· ++ vs.toArray))).push (seqObj "list" vs.toArray 0) }
  rw [hsz]
  refine wpAny_bind (wpAny_holding (wpAny_call_entry slot_list_sort ⟨_, hoL, rfl⟩ entry_list_sort (list_sort_tree hoL hI h64 fun out ns' a1 a2 a3 => ⟨_, rfl, ?_⟩) (args_list_sort _)))
  exact wpAny_pure ⟨_, rfl, h out ns' a1 a2 a3⟩
end
end PyProof.Rows
namespace TK
open PySem PySem.Spec PyProof.Rows L2
section
variable {X : Cx}
theorem dpAll_ints {K : PySem.W.Frag} {H : Hp} : ∀ ns : List Int, DpAll K H (ns.map V.int) (ns.map PyData.int)
  | [] => .nil
  | n :: ns => .cons (.int n) (dpAll_ints ns)
theorem alikeInts (ns : List Int) : PySem.W.AlikeAll (ns.map PyData.int) := by
  refine ⟨fun x hx y hy => ?_, fun x hx => ?_⟩
  · obtain ⟨n, _, rfl⟩ := List.mem_map.mp hx
    obtain ⟨m, _, rfl⟩ := List.mem_map.mp hy
    rfl
  · obtain ⟨n, _, rfl⟩ := List.mem_map.mp hx
    exact fun z => by cases z
theorem depthInts : ∀ ns : List Int, PyData.depthAll (ns.map PyData.int) ≤ 1
  | [] => Nat.zero_le _
  | n :: ns => Nat.max_le.mpr ⟨by show PyData.depth (.int n) ≤ 1; simp [PyData.depth], depthInts ns⟩
/-- sorted(a tuple of ints) -/
def rSortedTI (K : PySem.W.Frag) : List V → Hp → VK → Prop := fun vs H Q => ∃ (a : Addr) (ns : List Int), vs = [V.ref a] ∧ SqT K H a (ns.map V.int) ∧ ns.length < 64 ∧ ∀ (ns' : List Int) (p : Addr), ns'.Perm ns → ns'.Pairwise (· ≤ ·) → H p = none → Q (.ref p) (upd H p (.lst (ns'.map V.int)))
theorem cr_sortedTI (K : PySem.W.Frag) (hK : X.K = K := by rfl) : CallR X (.builtin "sorted") (rSortedTI K) := by
  subst hK
  intro pins s σ H vs us Q I r h
  obtain ⟨a, ns, rfl, hs, h64, q⟩ := h
  obtain ⟨its, rv, hl, _⟩ := I.tuple hs
  rw [Vals.ref1 r]
  have hi := rv.ints
  refine PyProof.Rows.sorted_intsT hl hi (by rw [hi.length]; exact h64) fun out ns' h1 h2 h3 => ?_
  obtain ⟨ep, he'⟩ := PyProof.Rows.sortedAll_at s.heap its out
  have hlen : (ns'.map V.int).length ≤ sizeLine := by rw [List.length_map, h2.length_eq]; exact small64 h64
  exact ⟨.ref _, upd H (s.heap.objs.size + 1) (.lst (ns'.map V.int)), I.laid (t' := s.toks) (fun _ _ => PyProof.Rows.sortedAll_old) (Nat.le_succ _) ⟨hlen, out.toList, ep, vals_of_ints h1, he'⟩, rfl, q ns' _ h2 h3 (I.hok.fresh (Nat.le_succ _))⟩
/-- min, max of a tuple of ints -/
def rMinT (K : PySem.W.Frag) : List V → Hp → VK → Prop := fun vs H Q => ∃ (a : Addr) (n : Int) (ns : List Int), vs = [V.ref a] ∧ SqT K H a ((n :: ns).map V.int) ∧ Q (.int (ns.foldl min n)) H
def rMaxT (K : PySem.W.Frag) : List V → Hp → VK → Prop := fun vs H Q => ∃ (a : Addr) (n : Int) (ns : List Int), vs = [V.ref a] ∧ SqT K H a ((n :: ns).map V.int) ∧ Q (.int (ns.foldl max n)) H
theorem cr_minT (K : PySem.W.Frag) (hc : X.calm = true) (hu : X.A.units + 8 < cLine) (hK : X.K = K := by rfl) : CallR X (.builtin "min") (rMinT K) := by
  subst hK
  intro pins s σ H vs us Q I r h
  obtain ⟨a, n, ns, rfl, hs, q⟩ := h
  obtain ⟨its, rv, hl, _⟩ := I.tuple hs
  rw [Vals.ref1 r]
  obtain ⟨as, hr⟩ := Dp.readsAll I ((n :: ns).map PyData.int) _ its (dpAll_ints _) rv
  refine PySem.W.min_tuple_data (I.ok.hd hc) hl (by simpa using hr) (alikeInts (n :: ns)) (by have := depthInts (n :: ns); have e : PyData.depthAll (PyData.int n :: ns.map PyData.int) ≤ 1 := this; omega) fun i v h' tk bs _ hrd hk => ?_
  rw [PySem.W.minD_ints] at hrd
  cases hrd with
  | int i t => exact ⟨.int _, H, I.kept hk, ⟨t, rfl⟩, q⟩
theorem cr_maxT (K : PySem.W.Frag) (hc : X.calm = true) (hu : X.A.units + 8 < cLine) (hK : X.K = K := by rfl) : CallR X (.builtin "max") (rMaxT K) := by
  subst hK
  intro pins s σ H vs us Q I r h
  obtain ⟨a, n, ns, rfl, hs, q⟩ := h
  obtain ⟨its, rv, hl, _⟩ := I.tuple hs
  rw [Vals.ref1 r]
  obtain ⟨as, hr⟩ := Dp.readsAll I ((n :: ns).map PyData.int) _ its (dpAll_ints _) rv
  refine PySem.W.max_tuple_data (I.ok.hd hc) hl (by simpa using hr) (alikeInts (n :: ns)) (by have := depthInts (n :: ns); have e : PyData.depthAll (PyData.int n :: ns.map PyData.int) ≤ 1 := this; omega) fun i v h' tk bs _ hrd hk => ?_
  rw [PySem.W.maxD_ints] at hrd
  cases hrd with
  | int i t => exact ⟨.int _, H, I.kept hk, ⟨t, rfl⟩, q⟩
end
end TK

set_option Elab.async false
set_option linter.all false
set_option maxRecDepth 100000
set_option maxHeartbeats 4000000
/-! a tuple of one int, times k (1 to 4) -/
namespace TK
open PySem PySem.Spec PyProof.Rows L2
theorem tuple_mul1 (l : Addr) (items : Array Value) (n : Nat) (dd : Option Addr) (sl : Array (Option Value)) (u : Tok) :
    Meets (Builtin.«tuple.__mul__» ⟨[.ref l, .int 1 u], []⟩) (fun _ R s => s.heap.get? l = some { cls := .type "tuple", dict := dd, data := .seq items n, slots := sl } ∧ R (.ok (.ret (Value.ref l))) s) :=
  .of_wp fun prog w A R s h => by
    obtain ⟨hp, g, d, tk, os⟩ := s
    obtain ⟨hl, h⟩ := h
    have f1 := AutoSeq1.idx_int
    wp_walk using wpAny_loadPart' hl
    repeat (first
      | (refine wpAny_ite_false (decide_eq_false (by decide)) ?_; wp_walk using wpAny_loadPart' hl)
      | (refine wpAny_ite_true (decide_eq_true (by simp)) ?_; wp_walk using wpAny_loadPart' hl))
    exact ⟨_, rfl, h⟩
def rRepA (K : PySem.W.Frag) : R2 := fun x y H Q => ∃ l k xs, x = .ref l ∧ y = .int k ∧ SqT K H l xs ∧ xs ≠ [] ∧ 1 ≤ k ∧ k ≤ 1000 ∧ xs.length ≤ 1000 ∧ (k = 1 → Q (.ref l) H) ∧ (2 ≤ k → ∀ p, H p = none → Q (.ref p) (upd H p (.tup (List.replicate k.toNat xs).flatten)))
theorem op_repA {X : Cx} (K : PySem.W.Frag) (hK : X.K = K := by rfl) : OpR X (binaryOp .Mult) (rRepA K) := by
  subst hK
  intro pins s σ H x y v u Q I rx ry h
  obtain ⟨l, k, xs, rfl, rfl, hT, hne, h1, h2, hz, q1, q2⟩ := h
  by_cases hk : k = 1
  · subst hk
    cases rx
    obtain ⟨t, rfl⟩ := ry
    obtain ⟨its, r, ⟨⟨cls, dd, data, sl⟩, ho, hc, n, hd⟩, hs⟩ := I.tuple hT
    simp only at hc hd
    subst hc hd
    refine wpAny_binaryOp_repeat_ref (T := "tuple") (U := "int") (by decide) ⟨_, ho, rfl⟩ (fun s' => typeIs_int s' 1 t) noFill_tuple_mul F.fills_int_mul F.slot_int_rmul repeat_tuple F.slot_int_index.lookup
      (call_meets F.slot_int_rmul (typeIs_int s 1 t) F.entry_int_rmul (F.args_int_rmul_2 _ _) (int_rmul_tuple 1 t l its.toArray n dd sl)
        ⟨ho, rfl, ⟨_, ho, rfl⟩, call_meets F.slot_tuple_mul ⟨_, ho, rfl⟩ F.entry_tuple_mul (F.args_tuple_mul_2 _ _) (tuple_mul1 l its.toArray n dd sl t) ⟨ho, ?_⟩⟩)
    exact ⟨.ref l, H, I, rfl, q1 rfl⟩
  · exact op_repT pins s σ H (.ref l) (.int k) v u Q I rx ry ⟨l, k, xs, rfl, rfl, hT, hne, by omega, h2, hz, q2 (by omega)⟩
end TK

set_option Elab.async false
set_option linter.all false
set_option maxRecDepth 100000
set_option maxHeartbeats 4000000
namespace K66
open PySem PySem.Spec PyProof.Rows L2 TK MR
variable {P : Program} {w : World} {K : PySem.W.Frag} {mg : Str → Option Value} {base : Heap}
/-- [f(told) for told in a list of rows], f an int -/
theorem lc_ints {a : Addr} {xs : List V} {rows : List (List Int)} {te : TE} {j : Nat} {vs : List Nat} {σ : L2.St} {H1 : Hp} {D : Addr} {Qd : Hp → Prop} (f : List Int → Int) (hx : DTs K H1 xs (rows.map rowD)) (ha : SqL K H1 a xs) (hl : rows.length ≤ 900) (nD : H1 D = none)
    (hw : ∀ x, wipe ((wipe σ vs).set j (some x)) vs = wipe σ vs)
    (ht : ∀ x r H2 (k : VK), r ∈ rows → Gr H1 H2 → DT K H2 x (rowD r) → (∀ H3, Gr H2 H3 → k (.int (f r)) H3) → te ((wipe σ vs).set j (some x)) H2 k)
    (hd : ∀ H2, Gr H1 H2 → H2 D = some (.lst ((rows.map f).map V.int)) → Qd H2) :
    ∃ W : Nat → Nat → Hp → Prop, (∃ m, W 0 m (upd H1 D (.lst []))) ∧ ∀ i m H, W i m H →
      ((Itl K a).stop i H ∧ Qd H) ∨ ((Itl K a).go i H ∧ ∃ Nx : Hp → Prop, (∀ H', Nx H' → ∃ m', m' < m ∧ W (i + 1) m' H') ∧ ∀ x H', (Itl K a).yld i H x H' → gName j x (wipe σ vs) H' fun σ2 H2 => wipe σ2 vs = wipe σ vs ∧ tYes σ2 H2 fun b H3 =>
        if b = true then te σ2 H3 fun y H4 => ∃ acc, H4 D = some (.lst acc) ∧ acc.length < sizeLine ∧ Nx (upd H4 D (.lst (acc ++ [y]))) else Nx H3) := by
  have lx : xs.length = rows.length := by rw [hx.1, List.length_map]
  refine lc_list (K := K) (a := a) (xs := xs) (fun i H' => Gr H1 H' ∧ H' D = some (.lst (((rows.take i).map f).map V.int))) ⟨Gx.new nD, upd_same⟩ (fun i H' _ p => p.1.seqL ha) (fun i x H' ex p => ?_) (fun H' p => ?_)
  · obtain ⟨g, hD⟩ := p
    obtain ⟨dx, e1, dv⟩ := hx.at' ex
    rw [List.getElem?_map] at e1
    obtain ⟨r, er, rfl⟩ := Option.map_eq_some_iff.mp e1
    refine ⟨hw x, yesT (ht x r H' _ (List.mem_of_getElem? er) g (dv.gr g) fun H3 g3 => ⟨_, g3.lst hD, ?_, (g.trans g3).wr nD, ?_⟩)⟩
    · rw [List.length_map, List.length_map, List.length_take]
      exact small1000 (by omega)
    · rw [upd_same, List.take_add_one, er, List.map_append, List.map_append]
      rfl
  · obtain ⟨g, hD⟩ := p
    rw [lx, List.take_length] at hD
    exact hd H' g hD
/-- (k, tuple) laid -/
theorem op_laid {H : Hp} {l t : Addr} {k : Int} {tab : List Int} (h : H l = some (.tup (tab.map V.int))) (ht : H t = none) : DT K (upd H t (.tup [.int k, .ref l])) (.ref t) (opD k tab) :=
  .mk upd_same (.cons (.int k) (.one (.row (Gx.tupS (Gx.new (S := []) ht) .nil h))))
/-- a list of operations at p -/
def LO (K : PySem.W.Frag) (H : Hp) (p : Addr) (os : List (Nat × List Int)) : Prop := ∃ vs, H p = some (.lst vs) ∧ DTs K H vs (os.map fun o => opD o.1 o.2)
theorem LO.gr {H H' : Hp} {p : Addr} {os : List (Nat × List Int)} (g : Gr H H') (h : LO K H p os) : LO K H' p os := let ⟨vs, a, b⟩ := h; ⟨vs, g.lst a, b.gr g⟩
/-- found.append(op) -/
theorem LO.add {H : Hp} {p : Addr} {os : List (Nat × List Int)} (h : LO K H p os) (hl : os.length ≤ 900) {v : V} {o : Nat × List Int} (hv : DT K H v (opD o.1 o.2)) (Q : VK) (q : ∀ H', (∀ b, b ≠ p → H' b = H b) → LO K H' p (os ++ [o]) → Q .non H') : rAppend (.ref p) [v] H Q := by
  obtain ⟨vs, a, b⟩ := h
  refine ⟨p, vs, v, rfl, rfl, a, ?_, q _ (fun c hc => upd_ne hc) ⟨_, upd_same, ?_⟩⟩
  · rw [b.1, List.length_map]
    exact small1000 (by omega)
  · rw [List.map_append]
    exact (b.wr a).app (.one (DT.wr a hv))
theorem grBut {H H1 H2 : Hp} {p : Addr} (g : Gr H H1) (n : H p = none) (h : ∀ b, b ≠ p → H2 b = H1 b) : Gr H H2 := fun b o hb e => by
  rw [h b (ne_of_none e n)]
  exact g b o hb e
/-- (k, tuple([f(told) for told in a list of rows])) -/
theorem pair_ints {wi : TI} {te : TE} {σ : L2.St} {H : Hp} {Q : VK} {rows : List (List Int)} (k : Int) (f : List Int → Int) (hwi : ∀ R : It → Hp → Prop, (∀ p xs H1, Gr H H1 → SqL K H1 p xs → DTs K H1 xs (rows.map rowD) → R (Itl K p) H1) → wi σ H R) (hl : rows.length ≤ 900)
    (ht : ∀ x r H2 (k : VK), r ∈ rows → Gr H H2 → DT K H2 x (rowD r) → (∀ H3, Gr H2 H3 → k (.int (f r)) H3) → te ((wipe σ [2]).set 2 (some x)) H2 k)
    (q : ∀ v H', Gr H H' → DT K H' v (opD k (rows.map f)) → Q v H') (hw : ∀ x, wipe ((wipe σ [2]).set 2 (some x)) [2] = wipe σ [2] := by intro _; rfl) : tTup (tCons (tC (.int k)) (tCons (tCB (rTupleOf K) (tCons (tLc wi (gName 2) tYes te [2]) tNil)) tNil)) σ H Q := by
  refine hwi _ fun p xs H1 g1 hS hD D nD => ?_
  refine lc_ints (K := K) (xs := xs) (rows := rows) f hD hS hl nD hw (fun x r H2 k hr g dv kk => ht x r H2 k hr (g1.trans g) dv kk) fun H2 g2 hD2 => ?_
  refine ⟨D, _, rfl, .inl ⟨.inl (.inl hD2), fun l nl => ⟨by show 2 ≤ sizeLine; decide, fun t nt => ?_⟩⟩⟩
  exact q _ _ (((g1.trans g2).trans (Gx.new nl)).trans (Gx.new nt)) (op_laid upd_same nt)
/-- found.append(such a pair) -/
theorem app_op {te : TE} {u : TS} {D : Ends} {σ : L2.St} {H0 H : Hp} {p : Addr} {os : List (Nat × List Int)} (o : Nat × List Int) (hσ : σ[1]? = some (some (.ref p))) (hl : LO K H p os) (hn : os.length ≤ 900) (g : Gr H0 H) (np : H0 p = none)
    (hp : ∀ Q : VK, (∀ v H', Gr H H' → DT K H' v (opD o.1 o.2) → Q v H') → te σ H Q) (q : ∀ H', Gr H0 H' → Gx [p] H H' → LO K H' p (os ++ [o]) → u D σ H') : tSeq (tDrop (tBM K "list" rAppend (tVar 1) (tCons te tNil))) u D σ H := by
  refine ⟨.ref p, hσ, .inl ⟨rfl, _, .inl (.inl hl.choose_spec.1)⟩, hp _ fun v H' g' dv => ?_⟩
  exact (hl.gr g').add hn dv (fun _ H2 => u D σ H2) fun H2 hb hl2 => q H2 (grBut (g.trans g') np hb) (fun b o hb' e => by
    rw [hb b (fun z => hb' (List.mem_singleton.mpr z))]
    exact g' b o (by simp) e) hl2
/-- found = [such a pair] -/
theorem first_op {te : TE} {u : TS} {D : Ends} {σ : L2.St} {H : Hp} (o : Nat × List Int) (hp : ∀ Q : VK, (∀ v H', Gr H H' → DT K H' v (opD o.1 o.2) → Q v H') → te σ H Q)
    (q : ∀ p H', Gr H H' → H p = none → LO K H' p [o] → u D (σ.set 1 (some (.ref p))) H') : tSeq (tAsg (tLst (tCons te tNil)) (gName 1)) u D σ H :=
  hp _ fun v H1 g1 dv => ⟨by show 1 ≤ sizeLine; decide, fun p np => q p _ (g1.trans (Gx.new np)) (g1.free np) ⟨_, upd_same, .one (dv.gr (Gx.new np))⟩⟩
/-- return found + [such a pair] -/
theorem ret_op {te : TE} {D : Ends} {σ : L2.St} {H0 H : Hp} {p : Addr} {os : List (Nat × List Int)} (o : Nat × List Int) (hσ : σ[1]? = some (some (.ref p))) (hl : LO K H p os) (hn : os.length ≤ 900) (g : Gr H0 H)
    (hp : ∀ Q : VK, (∀ v H', Gr H H' → DT K H' v (opD o.1 o.2) → Q v H') → te σ H Q) (q : ∀ l H', Gr H0 H' → H0 l = none → LO K H' l (os ++ [o]) → D.rt (.ref l) H') : tRet (tOp rCat (tVar 1) (tLst (tCons te tNil))) D σ H := by
  refine ⟨.ref p, hσ, hp _ fun v H7 g7 dv => ⟨by show 1 ≤ sizeLine; decide, fun p7 np7 => ?_⟩⟩
  obtain ⟨vs, ev, dvs⟩ := hl
  have ev7 := g7.lst ev
  have hpp : p ≠ p7 := fun z => by
    rw [z] at ev7
    rw [ev7] at np7
    cases np7
  refine ⟨p, p7, vs, [v], rfl, rfl, by rw [upd_ne hpp]; exact ev7, upd_same, ?_, fun p8 np8 => ?_⟩
  · rw [dvs.1, List.length_map]
    exact Nat.le_of_lt (small1000 (n := os.length + 1) (by omega))
  · have gl : Gr H0 (upd (upd H7 p7 (.lst [v])) p8 (.lst (vs ++ [v]))) := ((g.trans g7).trans (Gx.new np7)).trans (Gx.new np8)
    refine q p8 _ gl (((g.trans g7).trans (Gx.new np7)).free np8) ⟨_, upd_same, ?_⟩
    have g8 : Gr H (upd (upd H7 p7 (.lst [v])) p8 (.lst (vs ++ [v]))) := (g7.trans (Gx.new np7)).trans (Gx.new np8)
    rw [List.map_append]
    exact (dvs.gr g8).app (.one (dv.gr ((Gx.new np7).trans (Gx.new np8))))
/-- told[a] -/
theorem ixc {σ : L2.St} {H : Hp} {i a : Nat} {x : V} {r : List Int} {Q : VK} (hσ : σ[i]? = some (some x)) (hd : DT K H x (rowD r)) (hc : a < r.length) (q : Q (.int (r.getD a 0)) H) : tOp (rIxT K) (tVar i) (tC (.int (a : Int))) σ H Q := by
  refine ⟨x, hσ, ?_⟩
  dsimp only [tC]
  exact row_ix hd rfl hc q
/-! _law_named -/
def sp_law_named (K : PySem.W.Frag) : Sp := fun vs H Q _ => ∃ sz : Nat, vs = [.int sz] ∧ 1 ≤ sz ∧ sz ≤ 4 ∧ ∀ p H', Gr H H' → H p = none → LO K H' p (named sz) → Q (.ref p) H'
end K66

set_option Elab.async false
set_option linter.all false
set_option maxRecDepth 100000
set_option maxHeartbeats 4000000
/-! sorted(d), d a dict whose keys are tuples of ints -/
namespace TK
open PySem PySem.Spec PyProof.Rows L2
section
variable {X : Cx} {pins : List (Addr × Obj)} {σ : L2.St} {H : Hp} {s : Shared}
def rSortedDT (d : Nat) (B : Int) : List V → Hp → VK → Prop := fun vs H Q => ∃ (a : Addr) (kvs : List (List Key × V)), vs = [.ref a] ∧ H a = some (.dT kvs) ∧ kvs.length < 64 ∧ (∀ p ∈ kvs, ∃ ns : List Int, p.1 = ns.map Sum.inl ∧ ns.length = d ∧ TS.Bd B ns) ∧
  ∀ (bs : List Addr) (ys : List V) (p : Addr), IsKeys H kvs bs → ys.Perm (bs.map V.ref) → ys.Pairwise (fun x y => ∀ n m : List Int, (∃ t, x = .ref t ∧ H t = some (.tup (n.map V.int))) → (∃ t, y = .ref t ∧ H t = some (.tup (m.map V.int))) → TS.code B n ≤ TS.code B m) → H p = none → Q (.ref p) (upd H p (.lst ys))
theorem keys_ints (ns : List Int) : (ns.map Sum.inl : List Key).map kV = ns.map V.int := by
  rw [List.map_map]
  rfl
theorem paired_mem {α β : Type} {F : α → β → Prop} : ∀ {l : List α} {m : List β}, Paired F l m → ∀ y ∈ m, ∃ x ∈ l, F x y := by
  intro l m h
  induction h with
  | nil => intro y hy; cases hy
  | @cons p q ps qs hq t ih =>
    intro y hy
    rcases List.mem_cons.mp hy with e | hy
    · subst e
      exact ⟨p, List.mem_cons_self, hq⟩
    · obtain ⟨x, hx, e⟩ := ih y hy
      exact ⟨x, List.mem_cons_of_mem _ hx, e⟩
theorem tupI_rawS (I : Inv X pins σ H s) {t : Addr} {ns : List Int} (h : H t = some (.tup (ns.map V.int))) : TS.TupInts s.heap (.ref t) ns := tupI_raw I (.inl (.inl h))
theorem cr_sortedDT {d : Nat} {B : Int} (hd1 : 1 ≤ d) (hc : X.calm = true) : CallR X (.builtin "sorted") (rSortedDT d B) := by
  intro pins s σ H vs us Q I r h
  obtain ⟨a, kvs, rfl, ha, h64, hk, q⟩ := h
  obtain ⟨u, eu, rx⟩ := vals1 r
  subst eu
  cases rx
  obtain ⟨z, hs, ks, pr, o, es, ep, ho, hx, hdt, he, hn⟩ := (show ObjOk X.prog X.w H s.heap a (.dT kvs) from I.hok a _ ha)
  have l1 : es.size = ks.length := size_of_entries he
  have l2 : kvs.length = ks.length := Paired.length pr
  refine Calls.call_function_entry PyProof.Rows.kind_sorted PyProof.Rows.plain_sorted PyProof.Rows.entry_sorted (PyProof.Rows.args_sorted1 _) ?_
  unfold Builtin.«sorted»
  refine wpAny_bind (m := checkCount "sorted" 1 1 _) (wpAny_pure ?_)
  refine wpAny_bind (PySem.W.kdu_collect (A := X.A.in1) (kdl_raw hs hx hdt) (I.ok.hd hc) ho (by omega) fun h' tk acc kp it => ?_)
  have ea : acc.toList = (ks.map fun x => x.2.1).map Value.ref := by
    have hl : acc.toList.length = ks.length := by rw [Array.length_toList, it.1]; exact l1
    apply List.ext_getElem?
    intro j
    rw [List.map_map, List.getElem?_map]
    cases hj : acc.toList[j]? with
    | none =>
      have h1 := List.getElem?_eq_none_iff.mp hj
      rw [List.getElem?_eq_none (by omega)]
      all_goals rfl
    | some v =>
      obtain ⟨en, hen, hv⟩ := it.2 j v (by rw [← Array.getElem?_toList]; exact hj)
      have qe := entry_at he j
      rw [hen] at qe
      cases hb : ks[j]? with
      | none =>
        rw [hb] at qe
        exact nomatch (show some en = none from qe)
      | some b =>
        rw [hb] at qe
        have e2 : en = entryOfKey (tupleKind (mixKind X.prog X.w)) b := Option.some.inj qe
        rw [hv, e2]
        all_goals rfl
  have hal : acc.toList.length = ks.length := by rw [ea, List.length_map, List.length_map]
  have I1 : Inv X pins σ H { s with heap := h', toks := tk } := I.kept kp
  have key : ∀ v ∈ acc.toList, ∃ (t : Addr) (ns : List Int), v = Value.ref t ∧ H t = some (.tup (ns.map V.int)) ∧ ns.length = d ∧ TS.Bd B ns := fun v hv => by
    rw [ea, List.map_map] at hv
    obtain ⟨x, hx1, rfl⟩ := List.mem_map.mp hv
    obtain ⟨p, hp, e1, e2, _⟩ := paired_mem pr x hx1
    obtain ⟨ns, e3, e4, e5⟩ := hk p hp
    refine ⟨x.2.1, ns, rfl, ?_, e4, e5⟩
    rw [e3, keys_ints] at e2
    exact e2
  refine wpAny_bind (wpAny_newList ?_ (by rw [hal, sizeLine_eq]; omega))
  have hoL : (h'.push (seqObj "list" acc.toList.toArray 0)).get? h'.objs.size = some (seqObj "list" acc.toList.toArray 0) := Heap.get?_push_size _ rfl
  show wpAny _ _ _ _ _ { s with heap := h'.push (seqObj "list" acc.toList.toArray 0), toks := tk }
  have tk2 : ∀ (t : Addr) (ns : List Int), H t = some (.tup (ns.map V.int)) → TS.TupInts (h'.push (seqObj "list" acc.toList.toArray 0)) (.ref t) ns := fun t ns e =>
    (tupI_rawS I1 e).keeps fun b o e _ => Heap.get?_push_of_some _ e
  have x : TS.TupsOk (h'.push (seqObj "list" acc.toList.toArray 0)) d B acc.toList := fun v hv => by
    obtain ⟨t, ns, rfl, e, e4, e5⟩ := key v hv
    exact ⟨ns, tk2 t ns e, e4, e5⟩
  refine wpAny_bind (wpAny_holding (TS.call_sort_tups (s := { s with heap := h'.push (seqObj "list" acc.toList.toArray 0), toks := tk }) hoL (by rw [hal]; omega) hd1 x fun out a1 a2 => ?_))
  obtain ⟨c, he'⟩ := sortedHeap_at (vs := acc.toList) (out := out) hoL
  have h3 : ∀ u ∈ out.toList, ∃ a, u = Value.ref a := fun u hu => by
    obtain ⟨t, _, e, _⟩ := key u (a1.mem_iff.mp hu)
    exact ⟨t, e⟩
  have hp : (out.toList.map bkV).Perm ((ks.map fun x => x.2.1).map V.ref) := by
    have e := a1.map bkV
    rw [ea, List.map_map] at e
    exact e
  have hlen : (out.toList.map bkV).length ≤ sizeLine := by
    rw [hp.length_eq, List.length_map, List.length_map, sizeLine_eq]
    omega
  refine wpAny_pure ⟨_, rfl, .ref h'.objs.size, upd H h'.objs.size (.lst (out.toList.map bkV)), I1.laid (t' := tk) (fun b u e => ?_) (Nat.le_refl _)
    (show ObjOk X.prog X.w _ _ _ (.lst (out.toList.map bkV)) from ⟨hlen, out.toList, c, bkV_vals h3, he'⟩), rfl, q _ _ _ (isKeys_of pr) hp ?_ (I1.hok.fresh (Nat.le_refl _))⟩
  · have hb : b < h'.objs.size := Heap.lt_size e
    rw [PyProof.Rows.sortedHeap_old (Nat.ne_of_lt hb) (by rw [size_push']; exact Nat.lt_succ_of_lt hb)]
    exact Heap.get?_push_of_some _ e
  · rw [List.pairwise_map]
    refine List.Pairwise.imp (fun {u v} huv n m hn hm => ?_) a2
    obtain ⟨t, et, ht⟩ := hn
    obtain ⟨t', et', ht'⟩ := hm
    have eu := bkV_ref et
    have ev := bkV_ref et'
    have i1 := (tk2 t n ht).ints
    have i2 := (tk2 t' m ht').ints
    rw [← i1, ← i2, ← eu, ← ev]
    exact huv
end
end TK

set_option linter.all false
set_option maxRecDepth 100000
/-! the order of rows, equality of rows -/
namespace MR
open PySem PySem.Spec PyProof.Rows L2 TK
theorem lex_of_code {B : Int} : ∀ {r q : List Int}, r.length = q.length → TS.Bd B r → TS.Bd B q → TS.code B r ≤ TS.code B q → r ≠ q → HT.lexLt r q = true
  | [], [], _, _, _, _, ne => absurd rfl ne
  | [], _ :: _, hl, _, _, _, _ => by simp at hl
  | _ :: _, [], hl, _, _, _, _ => by simp at hl
  | d :: r, e :: q, hl, h1, h2, hc, ne => by
    have hl' : r.length = q.length := by simpa using hl
    rw [HT.lexLt_cons]
    by_cases hde : d = e
    · subst hde
      rw [if_pos rfl]
      refine lex_of_code hl' h1.tail h2.tail ?_ fun z => ne (by rw [z])
      have := TS.code_same (B := B) (d := d) hl'.symm
      omega
    · rw [if_neg hde]
      refine decide_eq_true ?_
      rcases Int.lt_trichotomy d e with y | y | y
      · exact y
      · exact absurd y hde
      · have := TS.code_lt (B := B) hl'.symm h2.tail h1.tail y
        omega
theorem eqvAll_ints : ∀ (a b : List Int), PyData.eqvAll (a.map PyData.int) (b.map PyData.int) = decide (a = b)
  | [], [] => by simp [PyData.eqvAll]
  | [], _ :: _ => by simp [PyData.eqvAll]
  | _ :: _, [] => by simp [PyData.eqvAll]
  | x :: a, y :: b => by
    rw [List.map_cons, List.map_cons, PyData.eqvAll, eqvAll_ints a b, PyData.eqv]
    by_cases h : x = y
    · subst h
      by_cases h2 : a = b
      · subst h2; simp
      · simp [h2]
    · simp [h]
theorem row_eqv (a b : List Int) : PyData.eqv (rowD a) (rowD b) = decide (a = b) := by
  unfold rowD
  rw [PyData.eqv, eqvAll_ints]
theorem any_eqv (rows : List (List Int)) (r : List Int) : ((rows.map rowD).any fun z => PyData.eqv z (rowD r)) = decide (r ∈ rows) := by
  induction rows with
  | nil => rfl
  | cons q rows ih =>
    rw [List.map_cons, List.any_cons, ih, row_eqv]
    by_cases h : q = r
    · subst h; simp
    · have h' : ¬ r = q := fun z => h z.symm
      simp [h, h']
theorem row_lay (r : List Int) : (rowD r).canLay0 = true := by
  have : ∀ ns : List Int, PyData.canLayAll0 (ns.map PyData.int) = true := fun ns => by
    induction ns with
    | nil => simp [PyData.canLayAll0]
    | cons n ns ih => simp only [List.map_cons, PyData.canLayAll0, ih, PyData.canLay0, Bool.and_self]
  unfold rowD
  rw [PyData.canLay0]
  exact this r
theorem ints_depth : ∀ ns : List Int, PyData.depthAll (ns.map PyData.int) ≤ 1
  | [] => by simp [PyData.depthAll]
  | n :: ns => by
    have := ints_depth ns
    simp only [List.map_cons, PyData.depthAll, PyData.depth]
    omega
theorem row_depth (r : List Int) : (rowD r).depth ≤ 2 := by
  have := ints_depth r
  unfold rowD
  simp only [PyData.depth]
  omega
theorem row_shaped (r : List Int) : SeqAt.shaped (rowD r) = true := by
  have h := row_depth r
  show ((rowD r).canLay0 && decide ((rowD r).depth ≤ 64)) = true
  rw [Bool.and_eq_true]
  exact ⟨row_lay r, decide_eq_true (by omega)⟩
theorem rows_lay : ∀ rows : List (List Int), PyData.canLayAll0 (rows.map rowD) = true
  | [] => by simp [PyData.canLayAll0]
  | r :: rows => by simp [PyData.canLayAll0, row_lay r, rows_lay rows]
theorem rows_depth : ∀ rows : List (List Int), PyData.depthAll (rows.map rowD) ≤ 2
  | [] => by simp [PyData.depthAll]
  | r :: rows => by
    have h1 := rows_depth rows
    have h2 := row_depth r
    simp only [List.map_cons, PyData.depthAll]
    omega
theorem rows_shaped (rows : List (List Int)) : SeqAt.shaped (.list (rows.map rowD)) = true := by
  have h1 := rows_depth rows
  have h2 : PyData.depth (.list (rows.map rowD)) ≤ 64 := by
    simp only [PyData.depth]
    omega
  show (PyData.canLay0 (.list (rows.map rowD)) && decide (PyData.depth (.list (rows.map rowD)) ≤ 64)) = true
  rw [Bool.and_eq_true]
  exact ⟨by simp only [PyData.canLay0]; exact rows_lay rows, decide_eq_true h2⟩
end MR
namespace TK
open PySem PySem.Spec PyProof.Rows L2 MR
variable {K : PySem.W.Frag} {H : Hp}
theorem dpAll_of : ∀ {vs : List V} {ds : List PyData}, DTs K H vs ds → DpAll K H vs ds
  | [], [], _ => .nil
  | [], _ :: _, h => by have := h.1; simp at this
  | _ :: _, [], h => by have := h.1; simp at this
  | v :: vs, d :: ds, h => by
    obtain ⟨w, ws, e, h1, h2⟩ := h.cons_inv
    cases e
    exact .cons h1.dp (dpAll_of h2)
theorem dp_rows {p : Addr} {vs : List V} {rows : List (List Int)} (h : H p = some (.lst vs)) (d : DTs K H vs (rows.map rowD)) : Dp K H (.ref p) (.list (rows.map rowD)) := .lst (.inl (.inl h)) (dpAll_of d)
def unI : V → Int
  | .int n => n
  | _ => 0
/-- the ints of a row, read off the heap -/
def rowOf (H : Hp) : V → List Int
  | .ref a => match H a with
    | some (.tup xs) => xs.map unI
    | _ => []
  | _ => []
theorem unI_ints (ns : List Int) : (ns.map V.int).map unI = ns := by
  rw [List.map_map]
  induction ns with
  | nil => rfl
  | cons n ns ih => rw [List.map_cons, ih]; rfl
theorem rowOf_eq {v : V} {r : List Int} (h : DT K H v (rowD r)) : rowOf H v = r := by
  obtain ⟨a, rfl, e⟩ := h.row_invS
  show (match H a with | some (.tup xs) => xs.map unI | _ => []) = r
  rw [e]
  exact unI_ints r
theorem rows_read {xs : List V} {rows : List (List Int)} (h : DTs K H xs (rows.map rowD)) : rows = xs.map (rowOf H) := by
  induction rows generalizing xs with
  | nil => rw [h.nil_inv]; rfl
  | cons r rows ih =>
    obtain ⟨w, ws, rfl, h1, h2⟩ := h.cons_inv
    rw [List.map_cons, ← ih h2, rowOf_eq h1]
theorem rows_each {xs : List V} {rows : List (List Int)} (h : DTs K H xs (rows.map rowD)) : ∀ x ∈ xs, DT K H x (rowD (rowOf H x)) ∧ rowOf H x ∈ rows := by
  induction rows generalizing xs with
  | nil => rw [h.nil_inv]; intro x hx; simp at hx
  | cons r rows ih =>
    obtain ⟨w, ws, rfl, h1, h2⟩ := h.cons_inv
    intro x hx
    rcases List.mem_cons.mp hx with e | hx
    · subst e
      rw [rowOf_eq h1]
      exact ⟨h1, List.mem_cons_self⟩
    · exact ⟨(ih h2 x hx).1, List.mem_cons_of_mem _ (ih h2 x hx).2⟩
theorem rows_of {ys : List V} (h : ∀ y ∈ ys, DT K H y (rowD (rowOf H y))) : DTs K H ys ((ys.map (rowOf H)).map rowD) := by
  induction ys with
  | nil => exact .nil
  | cons y ys ih => exact .cons (h y List.mem_cons_self) (ih fun z hz => h z (List.mem_cons_of_mem _ hz))
/-- sorted rows -/
theorem sorted_rows {B : Int} {d : Nat} {xs ys : List V} {rows : List (List Int)} (hx : DTs K H xs (rows.map rowD)) (hp : ys.Perm xs) (nd : rows.Nodup) (ok : ∀ r ∈ rows, r.length = d ∧ TS.Bd B r)
    (hw : ys.Pairwise fun x y => ∀ n m : List Int, (∃ t, x = .ref t ∧ H t = some (.tup (n.map V.int))) → (∃ t, y = .ref t ∧ H t = some (.tup (m.map V.int))) → TS.code B n ≤ TS.code B m) :
    ∃ qs : List (List Int), DTs K H ys (qs.map rowD) ∧ qs.Perm rows ∧ qs.Pairwise fun r q => HT.lexLt r q = true := by
  have hr := rows_read hx
  have he : ∀ y ∈ ys, DT K H y (rowD (rowOf H y)) ∧ rowOf H y ∈ rows := fun y hy => rows_each hx y (hp.mem_iff.mp hy)
  have pm : (ys.map (rowOf H)).Perm rows := by
    rw [hr]
    exact hp.map _
  refine ⟨ys.map (rowOf H), rows_of fun y hy => (he y hy).1, pm, ?_⟩
  have ndy : (ys.map (rowOf H)).Nodup := pm.nodup_iff.mpr nd
  rw [List.Nodup, List.pairwise_map] at ndy
  rw [List.pairwise_map]
  refine List.Pairwise.imp_of_mem ?_ (hw.and ndy)
  rintro x y hx' hy' ⟨c, ne⟩
  obtain ⟨a, ea, ha⟩ := (he x hx').1.row_invS
  obtain ⟨b, eb, hb⟩ := (he y hy').1.row_invS
  obtain ⟨l1, b1⟩ := ok _ (he x hx').2
  obtain ⟨l2, b2⟩ := ok _ (he y hy').2
  exact lex_of_code (by rw [l1, l2]) b1 b2 (c _ _ ⟨a, ea, ha⟩ ⟨b, eb, hb⟩) ne
end TK
namespace MR
theorem lex_irr : ∀ r : List Int, HT.lexLt r r = false
  | [] => rfl
  | x :: r => by rw [HT.lexLt_cons, if_pos rfl, lex_irr r]
theorem lex_asymm : ∀ {r q : List Int}, HT.lexLt r q = true → HT.lexLt q r = false
  | [], [], h => rfl
  | [], _ :: _, _ => rfl
  | _ :: _, [], h => by cases h
  | x :: r, y :: q, h => by
    rw [HT.lexLt_cons] at h ⊢
    by_cases e : x = y
    · subst e
      rw [if_pos rfl] at h ⊢
      exact lex_asymm h
    · rw [if_neg e] at h
      rw [if_neg fun z => e z.symm]
      have := of_decide_eq_true h
      exact decide_eq_false (by omega)
/-- two ascending lists of the same rows are the same -/
theorem asc_unique : ∀ {l m : List (List Int)}, l.Pairwise (fun r q => HT.lexLt r q = true) → m.Pairwise (fun r q => HT.lexLt r q = true) → (∀ x, x ∈ l ↔ x ∈ m) → l = m
  | [], [], _, _, _ => rfl
  | [], y :: m, _, _, h => by
    have := (h y).mpr List.mem_cons_self
    cases this
  | x :: l, [], _, _, h => by
    have := (h x).mp List.mem_cons_self
    cases this
  | x :: l, y :: m, hl, hm, h => by
    obtain ⟨l1, l2⟩ := List.pairwise_cons.mp hl
    obtain ⟨m1, m2⟩ := List.pairwise_cons.mp hm
    have e : x = y := by
      rcases List.mem_cons.mp ((h x).mp List.mem_cons_self) with e | e
      · exact e
      · rcases List.mem_cons.mp ((h y).mpr List.mem_cons_self) with e2 | e2
        · exact e2.symm
        · have a := l1 y e2
          have b := lex_asymm (m1 x e)
          rw [a] at b
          cases b
    subst e
    have nl : x ∉ l := fun z => by
      have := l1 x z
      rw [lex_irr] at this
      cases this
    have nm : x ∉ m := fun z => by
      have := m1 x z
      rw [lex_irr] at this
      cases this
    refine congrArg (x :: ·) (asc_unique l2 m2 fun z => ⟨fun hz => ?_, fun hz => ?_⟩)
    · rcases List.mem_cons.mp ((h z).mp (List.mem_cons_of_mem _ hz)) with e | e
      · subst e
        exact absurd hz nl
      · exact e
    · rcases List.mem_cons.mp ((h z).mpr (List.mem_cons_of_mem _ hz)) with e | e
      · subst e
        exact absurd hz nm
      · exact e
end MR

set_option Elab.async false
set_option linter.all false
set_option maxRecDepth 100000
set_option maxHeartbeats 4000000
/-! x in s, s a set of tuples of ints; set(t), t a tuple of such -/
namespace TK
open PySem PySem.Spec PyProof.Rows L2
/-- the c-th probe for the hash h -/
abbrev wk (t : SetTable) (h : Int) (c : Nat) : SetTable.Probe := nth t.mask (runAt t.mask (SetTable.bits h % (t.mask + 1)) (SetTable.bits h)) c
theorem wk_add (t : SetTable) (h : Int) (c q : Nat) : nth t.mask (wk t h c) q = wk t h (c + q) := (nth_add t.mask c _ q).symm
theorem wk_clean (t : SetTable) (h : Int) (c : Nat) : (wk t h c).dummy = none := by
  have all : ∀ (n : Nat) (p : SetTable.Probe), p.dummy = none → (nth t.mask p n).dummy = none := by
    intro n
    induction n with
    | zero => exact fun p e => e
    | succ n ih => exact fun p e => ih (adv t.mask p) (by unfold adv; split <;> exact e)
  exact all c _ rfl
section
variable {P : Program} {w : World} {A : Around} {E : Value → Shared → Prop} {s : Shared} {a : Addr} {L : List (Addr × List Int)} {es : Array (Int × Value)} {ep : Nat} {t : SetTable}
theorem ask_from (R : SetTR P w s.heap a L es ep t) {x : Addr} {k : List Int} (hx : IsT P w s.heap k x) (hu : A.units < cLine) {M : Nat} (hM : M < 10 * SetTable.turns t.mask)
    (free : (wk t (thash P w k) M).j ∉ t.place.toList) (full : ∀ c, c < M → (wk t (thash P w k) c).j ∈ t.place.toList) {Q : SetFound → Shared → Prop}
    (yes : k ∈ L.map (·.2) → ∀ i, Q (.there (some i)) s) (no : k ∉ L.map (·.2) → ∀ j, Q (.free j false) s) (f : Nat) :
    ∀ (c : Nat) (stand : Option SetTable.Probe), stand.getD (t.probeStart (thash P w k)) = wk t (thash P w k) c → c ≤ M → M - c < f →
      (∀ (i : Nat) p, L[i]? = some p → p.2 = k → ∃ c', c ≤ c' ∧ c' < M ∧ t.place.toList[i]? = some (wk t (thash P w k) c').j) →
      wpAny (model P w) A (setSearchFrom a (.ref x) (thash P w k) false f stand) Q E s := by
  have sz : t.place.toList.length = L.length := by
    have h2 := R.tab.sz
    rw [List.length_map] at h2
    rw [Array.length_toList]
    exact h2
  obtain ⟨o, ho, hex, hd⟩ := R.ob
  have fits := R.fits
  have hash_of : ∀ {i : Nat} {p : Addr × List Int}, L[i]? = some p → ((es[i]?.map (·.1)).getD 0 : Int) = thash P w p.2 := fun hp => by
    rw [R.entry hp]
    rfl
  induction f with
  | zero => exact fun c _ _ _ hf => absurd hf (Nat.not_lt_zero _)
  | succ f ih =>
    intro c stand hst hc hf left
    rw [setSearchFrom_succ]
    refine wpAny_bind (wpAny_setState_of ho hd fits ?_)
    dsimp only
    refine wp_if_neg R.gw ?_
    try refine wpAny_bind (wpAny_pure ?_)
    have at_ : ∀ q, (nth t.mask (wk t (thash P w k) c) q).j = (wk t (thash P w k) (c + q)).j := fun q => congrArg SetTable.Probe.j (wk_add t _ c q)
    rcases go_spec t R.tab.ris R.tab.dm (fun i => (es[i]?.map (·.1)).getD 0) (thash P w k) (10 * SetTable.turns t.mask) (M - c) (wk t (thash P w k) c) (wk_clean t _ c) (by omega)
      (fun q hq => by rw [at_]; exact full (c + q) (by omega)) (by rw [at_, show c + (M - c) = M by omega]; exact free) with ⟨q, i, hq, hi, hh, before, e⟩ | ⟨before, e⟩
    · have met : t.probe (fun i => (es[i]?.map (·.1)).getD 0) (thash P w k) (stand.getD (t.probeStart (thash P w k))) = some (.candidate (wk t (thash P w k) (c + q)).j i (wk t (thash P w k) (c + (q + 1)))) := by
        rw [hst, ← at_, ← wk_add t _ c (q + 1)]
        exact e
      rw [met]
      dsimp only
      rw [at_] at hi
      have hil : i < L.length := by
        rw [← sz]
        exact (List.getElem?_eq_some_iff.mp hi).1
      obtain ⟨p, hp⟩ : ∃ p, L[i]? = some p := ⟨_, List.getElem?_eq_getElem hil⟩
      have mem : p ∈ L := List.mem_of_getElem? hp
      have live := slot_live R.tab.ris hi
      have after : wpAny (model P w) A (searchRest a (.ref x) (thash P w k) false f es t (wk t (thash P w k) (c + q)).j i (wk t (thash P w k) (c + (q + 1)))) Q E s := by
        unfold searchRest
        rw [R.entry hp]
        dsimp only
        refine wpAny_bind (wpAny_holding (wpAny_eqBool_tuple hu (R.tup p mem) hx (wpAny_bind (wpAny_setState_of ho hd fits ?_))))
        dsimp only
        refine wp_if_neg (by simp) ?_
        try refine wpAny_bind (wpAny_pure ?_)
        rw [sameMem]
        dsimp only
        simp only [if_true, live, R.entry hp]
        refine wpAny_bind (wpAny_isSame_ref_self (wpAny_bind (wpAny_pure ?_)))
        simp only [if_true]
        rcases Classical.em (p.2 = k) with same | other
        · exact wp_if_pos (by simp [same]) (wpAny_pure (yes (List.mem_map.mpr ⟨p, mem, same⟩) i))
        · refine wp_if_neg (by simp [other]) (ih (c + (q + 1)) _ rfl (by omega) (by omega) fun i0 p0 h0 hk0 => ?_)
          obtain ⟨c', b1, b2, b3⟩ := left i0 p0 h0 hk0
          refine ⟨c', ?_, b2, b3⟩
          rcases Nat.lt_trichotomy c' (c + q) with l | l | l
          · refine absurd ((hash_of h0).trans (congrArg (thash P w) hk0)) (before (c' - c) i0 (by omega) ?_)
            rw [at_, show c + (c' - c) = c' by omega]
            exact b3
          · rw [l] at b3
            have two := (slot_live R.tab.ris b3).symm.trans live
            injection two with two
            rw [two, hp] at h0
            exact absurd ((congrArg Prod.snd (Option.some.inj h0)).trans hk0) other
          · omega
      rcases Classical.em (t.led = true) with l | l
      · refine wp_if_neg (by simp [l]) ?_
        try refine wpAny_bind (wpAny_pure ?_)
        exact after
      · refine wp_if_pos (by simp [l]) (wpAny_bind (seen_tup hx (fun y hy => ?_) (wp_if_neg (by decide) ?_)))
        · obtain ⟨e0, h0, ee⟩ := List.mem_map.mp hy
          have h1 : e0 ∈ es.toList := by
            have z : e0 ∈ es ∧ e0.1 = thash P w k := by simpa using h0
            simpa using z.1
          rw [R.rows] at h1
          obtain ⟨p2, m2, e2⟩ := List.mem_map.mp h1
          exact ⟨p2.2, p2.1, by rw [← ee, ← e2], R.tup p2 m2⟩
        · try refine wpAny_bind (wpAny_pure ?_)
          exact after
    · have met : t.probe (fun i => (es[i]?.map (·.1)).getD 0) (thash P w k) (stand.getD (t.probeStart (thash P w k))) = some (.empty (wk t (thash P w k) M).j none) := by
        have e2 : (wk t (thash P w k) M).j = (nth t.mask (wk t (thash P w k) c) (M - c)).j := by
          rw [at_, show c + (M - c) = M by omega]
        rw [hst, e2]
        exact e
      rw [met]
      dsimp only
      refine wpAny_pure (no (fun hm => ?_) _)
      obtain ⟨p0, m0, hk0⟩ := List.mem_map.mp hm
      obtain ⟨i0, hi0, e0⟩ := List.getElem_of_mem m0
      have h00 : L[i0]? = some p0 := by rw [List.getElem?_eq_getElem hi0, e0]
      obtain ⟨c', b1, b2, b3⟩ := left i0 p0 h00 hk0
      refine before (c' - c) i0 (by omega) ?_ ((hash_of h00).trans (congrArg (thash P w) hk0))
      rw [at_, show c + (c' - c) = c' by omega]
      exact b3
theorem find_tup (R : SetTR P w s.heap a L es ep t) {x : Addr} {k : List Int} (hx : IsT P w s.heap k x) (hu : A.units < cLine) {Q : Option Nat → Shared → Prop}
    (h : ∀ r : Option Nat, r.isSome = decide (k ∈ L.map (·.2)) → Q r s) : wpAny (model P w) A (setFind a (.ref x) (thash P w k)) Q E s := by
  obtain ⟨o, ho, hex, hd⟩ := R.ob
  have room := R.room
  obtain ⟨M, hM, free, full⟩ := R.tab.first (by rw [List.length_map]; omega) (thash P w k)
  have big : M < 100000 := by
    have : 10 * SetTable.turns t.mask ≤ 1420 := by
      unfold SetTable.turns
      rcases R.tab.mok with e | e | e <;> omega
    omega
  unfold setFind setFindIn
  refine wpAny_bind (wpAny_setState_of ho hd R.fits ?_)
  dsimp only
  refine wp_if_neg (by simp [byScan, Value.scannable]) ?_
  try refine wpAny_bind (wpAny_pure ?_)
  unfold setSearch
  refine wpAny_bind (ask_from R hx hu hM free full (fun hm i => ?_) (fun hm j => ?_) 100000 0 none rfl (Nat.zero_le _) (by omega) fun i p hp hk => ?_)
  · exact wpAny_pure (h _ (by simp [hm]))
  · exact wpAny_pure (h _ (by simp [hm]))
  · have hi : (L.map fun p => thash P w p.2)[i]? = some (thash P w k) := by
      rw [List.getElem?_map, hp, ← hk]
      rfl
    have hil : i < t.place.toList.length := by
      have h1 : i < L.length := (List.getElem?_eq_some_iff.mp hp).1
      have h2 := R.tab.sz
      rw [List.length_map] at h2
      rw [Array.length_toList]
      omega
    have hj := List.getElem?_eq_getElem hil
    obtain ⟨c, hc, e⟩ := R.tab.before free hi hj
    exact ⟨c, Nat.zero_le _, hc, by rw [hj, ← e]⟩
theorem in_tup (R : SetTR P w s.heap a L es ep t) {x : Addr} {k : List Int} (hx : IsT P w s.heap k x) (hu : A.units + 8 < cLine) {Q : Value → Shared → Prop}
    (h : ∀ tk, Q (.bool (decide (k ∈ L.map (·.2)))) { s with toks := tk }) : wpAny (model P w) A (compareOp .In (.ref x) (.ref a)) Q E s := by
  obtain ⟨o, ho, hex, hd⟩ := R.ob
  have ty : s.TypeIs (.ref a) "set" := ⟨o, ho, hex.1⟩
  show wpAny _ _ (do return .bool (← contains (.ref a) (.ref x))) Q E s
  refine wpAny_bind ?_
  unfold contains
  try with_reducible refine wpAny_holding ?_
  refine wpAny_bind (wpAny_specialOf ty F.slot_set_contains.lookup ?_)
  show wpAny _ _ (if (some (Value.builtin "set.__contains__") == some Value.none) = true then _ else _) _ E s
  rw [if_neg (by rw [beq_builtin_none]; exact Bool.false_ne_true)]
  refine wpAny_bind (wpAny_callSpecialUnlessNone?_slot (name := Str.ofString "__contains__") ty F.slot_set_contains (wpAny_call_entry F.slot_set_contains ty entry_set_contains ?_ (F.args_set_contains_2 _ _)))
  unfold Builtin.«frozenset.__contains__» Builtin.Frozenset.oneOther
  simp only [List.isEmpty_nil, bind_assoc]
  unfold Builtin.Frozenset.addrOf Builtin.Frozenset.withSetAsKey setContains
  refine wpAny_bind (wpAny_pure ?_)
  try dsimp only
  refine wpAny_bind (wpAny_pure ?_)
  try dsimp only
  refine wpAny_bind (wpAny_tryCatch (wpAny_holding (wpAny_bind (wpAny_pyHash_tuple ?_ hx (wpAny_bind (find_tup (s := { s with toks := s.toks + (k.length + 1) }) (R.keep (fun _ e => e) R.tup) hx ?_ fun r hr => wpAny_pure ?_))))))
  · show A.units + 1 < cLine
    omega
  · show A.units + 1 < cLine
    omega
  · show wpAny _ _ (ret (Value.bool r.isSome)) _ _ _
    rw [hr]
    exact wpAny_pure ⟨_, rfl, wpAny_truthy_bool (wpAny_pure (h _))⟩
end
section
variable {X : Cx}
/-- t in s, s the set of the tuples L -/
def rInSetT (K : PySem.W.Frag) (P : Program) (w : World) : R2 := fun x y H Q => ∃ (b a : Addr) (k : List Int) (L : List (Addr × List Int)), x = .ref b ∧ y = .ref a ∧ SqT K H b (k.map V.int) ∧ H a = some (SetTO P w a L) ∧ (∀ p ∈ L, SqT K H p.1 (p.2.map V.int)) ∧ Q (.bl (decide (k ∈ L.map (·.2)))) H
theorem op_inSetT (K : PySem.W.Frag) (P : Program) (w : World) (hu : X.A.units + 8 < cLine) (hK : X.K = K := by rfl) (hP : X.prog = P := by rfl) (hw : X.w = w := by rfl) : OpR X (compareOp .In) (rInSetT K P w) := by
  subst hK hP hw
  intro pins s σ H x y v u Q I rx ry h
  obtain ⟨b, a, k, L, rfl, rfl, hb, ha, hL, q⟩ := h
  cases rx
  cases ry
  have R0 : SetT0 X.prog X.w s.heap a L := (I.hok a _ ha).1
  obtain ⟨es, ep, t, R⟩ := R0.full fun p hp => I.isT (hL p hp)
  exact in_tup R (I.isT hb) hu fun tk => ⟨.bl _, H, I.tok tk, rfl, q⟩
end
end TK

set_option Elab.async false
set_option linter.all false
set_option maxRecDepth 100000
set_option maxHeartbeats 4000000
/-! set(t), t a tuple of tuples of ints -/
namespace TK
open PySem PySem.Spec PyProof.Rows L2
/-- a set that was just made -/
abbrev bareSet (w : World) : Obj := { cls := .type "set", dict := none, data := .set #[] 0 (.fresh 0 0 (!w.params.followText "set-order")) }
section
variable {P : Program} {w : World} {A : Around} {E : Value → Shared → Prop} {s : Shared}
theorem set_of_tuple {l : Addr} {items : Array Value} (ks : List (Addr × List Int)) {Q : Value → Shared → Prop} (hh : A.handled = none) (hl : s.heap.IsTuple l items) (hit : items.toList = ks.map fun p => Value.ref p.1)
    (hk : ∀ p ∈ ks, IsT P w s.heap p.2 p.1) (few : ks.length < 64) (hu : A.units + 3 < cLine)
    (h : ∀ (h' : Heap) (tk : Nat) L es ep t, SetTR P w h' s.heap.objs.size L es ep t → Got ks ks.length L → (∀ b o, s.heap.get? b = some o → h'.get? b = some o) → Q (.ref s.heap.objs.size) { s with heap := h', toks := tk }) :
    wpAny (model P w) A (call (.type "set") [.ref l]) Q E s := by
  have many : items.size = ks.length := by
    have q := congrArg List.length hit
    rw [Array.length_toList, List.length_map] at q
    exact q
  obtain ⟨c, tl, hmro⟩ := F.called_set.mro
  have hmade := F.called_set.made
  have hsub := F.called_set.sub
  refine wpAny_call (codeAny_of_tree ?_)
  show wpAny _ _ (callAny (.type "set") _) _ _ _
  refine wpAny_pure ⟨Code.quiet_builtin _ (by decide +kernel), codeAny_builtin F.entry_type_call ?_⟩
  rw [Around.under_plain (weight_type_call_type "set" [.ref l] []) rfl]
  have h1 := F.called_set.notType
  have h2 := F.called_set.canCreate
  have hct := F.typeCall_set_1 (.ref l)
  repeat (any_goals (first | assumption | wp_step))
  refine codeAny_mono (code_set_led1 (.ref l) (E := E) (Q₁ := fun obj s₁ => obj = .ref s.heap.objs.size ∧ s₁ = { s with heap := s.heap.push (bareSet w) }) ⟨rfl, rfl⟩) fun r s₁ hr => ?_
  cases r with
  | error e => exact hr
  | ok fl =>
    cases fl with
    | ret obj =>
      obtain ⟨rfl, rfl⟩ := hr
      have hS : (s.heap.push (bareSet w)).get? s.heap.objs.size = some (bareSet w) := Heap.get?_push_size _ rfl
      have hT : Shared.TypeIs { s with heap := s.heap.push (bareSet w) } (.ref s.heap.objs.size) "set" := ⟨_, hS, rfl⟩
      have hli := F.called_set.init.lookup
      have hbi := F.called_set.init.bind (.ref s.heap.objs.size)
      repeat (any_goals (first | assumption | wp_step))
      refine codeAny_mono (codeAny_call_builtin (R := wants (fun r s₂ => r = .none ∧ ∃ h' tk L es ep t, s₂ = { s with heap := h', toks := tk } ∧ SetTR P w h' s.heap.objs.size L es ep t ∧ Got ks ks.length L ∧ (∀ b o, s.heap.get? b = some o → h'.get? b = some o)) E)
        F.called_set.init.plain F.entry_set_init (check_set_init_1 hT ?_)) fun r₂ s₂ hr₂ => ?_
      · obtain ⟨ol, hol, hcl, nl, hdl⟩ := hl
        obtain ⟨ocls, odict, odata, oslots⟩ := ol
        simp only at hcl hdl
        subst hcl; subst hdl
        have hol' : (s.heap.push (bareSet w)).get? l = some { cls := .type "tuple", dict := odict, data := .seq items nl, slots := oslots } := Heap.get?_push_of_some _ hol
        have hsls := F.sub_tuple_set
        have hslf := F.sub_tuple_frozenset
        have hne : (Value.type "tuple" == Value.type "dict") = false := by decide
        have hl1 : (s.heap.push (bareSet w)).IsTuple l items := ⟨_, hol', rfl, nl, rfl⟩
        unfold Builtin.«set.__init__» noKeywords Builtin.Frozenset.updateFrom
        generalize hPI : pyIter = PI
        wp_walk
        subst hPI
        refine wpAny_pyIter_tuple hl1 (wpAny_bind (wpAny_runValue ?_))
        have lt : l < s.heap.objs.size := Heap.lt_size hol
        have hh3 : A.in1.in1.in1.handled = none := by simp [hh]
        have z1 : (s.heap.push (bareSet w)).objs.size = s.heap.objs.size + 1 := Heap.size_push ..
        have apart : l ≠ (s.heap.push (bareSet w)).objs.size := by
          rw [Heap.size_push]
          exact Nat.ne_of_lt (Nat.lt_succ_of_lt lt)
        have away : s.heap.objs.size ∉ [(s.heap.push (bareSet w)).objs.size, l] := by
          simp only [List.mem_cons, List.not_mem_nil, or_false, not_or]
          rw [Heap.size_push]
          exact ⟨Nat.ne_of_lt (Nat.lt_succ_self _), Nat.ne_of_gt lt⟩
        have val : ∀ (i : Nat) (v : Value), items[i]? = some v → ∃ p, ks[i]? = some p ∧ v = .ref p.1 := fun i v hv => by
          have q : items.toList[i]? = some v := by rw [Array.getElem?_toList]; exact hv
          rw [hit, List.getElem?_map] at q
          obtain ⟨p, hp, e⟩ := Option.map_eq_some_iff.mp q
          exact ⟨p, hp, e.symm⟩
        have none_of : ∀ b, s.heap.objs.size ≤ b → s.heap.get? b = none := fun b hb => by
          cases q : s.heap.get? b with
          | none => rfl
          | some o => exact absurd (Nat.lt_of_lt_of_le (Heap.lt_size q) hb) (Nat.lt_irrefl _)
        refine set_update_tups ((Walks.tuple hh3 _ l apart items).toS) s.heap.objs.size away ks many few val s.heap hk (none_of _ (Nat.le_refl _)) (fun b hb => none_of b (by
            rw [List.mem_singleton.mp hb, Heap.size_push]
            exact Nat.le_succ _)) hu (items.size - 0) 0 _ (by omega) (Nat.zero_le _)
          ⟨⟨_, Heap.get?_push_size _ rfl, rfl, rfl⟩, (hl1.push _)⟩ (fun b o e => Heap.get?_push_of_some _ (Heap.get?_push_of_some _ e)) ?start ?stop
        case start =>
          exact ⟨[], #[], 0, _, setTR_fresh (Heap.get?_push_of_some _ hS), Got.zero ks⟩
        case stop =>
          intro s' L es ep t hm hS' g' hkp
          obtain ⟨h', g2, d', tk', os'⟩ := s'
          have eg : g2 = s.gens := hm.gens
          have ed : d' = s.drawn := hm.drawn
          have eo : os' = s.os := hm.os
          subst eg; subst ed; subst eo
          rw [many] at g'
          exact wpAny_pure (wpAny_pure ⟨rfl, h', tk', L, es, ep, t, rfl, hS', g', hkp⟩)
      · cases r₂ with
        | error e => exact hr₂
        | ok fl₂ =>
          cases fl₂ with
          | ret r =>
            obtain ⟨rfl, h', tk, L, es, ep, t, rfl, hS', g', hk'⟩ := hr₂
            repeat (any_goals (first | assumption | wp_step))
            exact h _ _ _ _ _ _ hS' g' hk'
          | _ => exact hr₂.elim
    | _ => exact hr.elim
end
section
variable {X : Cx}
/-- set(t), t a tuple of tuples of ints -/
def rSetOfTT (K : PySem.W.Frag) (P : Program) (w : World) : List V → Hp → VK → Prop := fun xs H Q => ∃ (l : Addr) (ks : List (Addr × List Int)), xs = [V.ref l] ∧ SqT K H l (ks.map fun p => V.ref p.1) ∧ (∀ p ∈ ks, SqT K H p.1 (p.2.map V.int)) ∧ ks.length < 64 ∧
  ∀ a L, H a = none → (∀ p ∈ L, p ∈ ks) → (∀ p ∈ ks, p.2 ∈ L.map (·.2)) → Q (.ref a) (upd H a (SetTO P w a L))
theorem cr_setOfTT (K : PySem.W.Frag) (P : Program) (w : World) (hc : X.calm = true) (hu : X.A.units + 64 < cLine) (hK : X.K = K := by rfl) (hP : X.prog = P := by rfl) (hw : X.w = w := by rfl) : CallR X (.type "set") (rSetOfTT K P w) := by
  subst hK hP hw
  intro pins s σ H xs us Q I r h
  obtain ⟨l, ks, rfl, hl, hk, hf, q⟩ := h
  rw [Vals.ref1 r]
  obtain ⟨its, rv, pl, hz⟩ := I.tuple hl
  have hn : H s.heap.objs.size = none := I.hok.fresh (Nat.le_refl _)
  refine set_of_tuple (P := X.prog) (w := X.w) ks (I.ok.hd hc) pl (by simpa using refs_of_vals rv) (fun p hp => I.isT (hk p hp)) hf (by omega) fun h' tk L es ep t R g k => ?_
  exact ⟨.ref s.heap.objs.size, upd H s.heap.objs.size (SetTO X.prog X.w s.heap.objs.size L), I.laid (t' := tk) k (Nat.le_refl _) (setTO_new R.t0), rfl, q _ L hn (fun p hp => List.mem_of_mem_take (g.sub p hp)) fun p hp => g.all p (by rw [List.take_length]; exact hp)⟩
end
end TK

set_option Elab.async false
set_option linter.all false
set_option maxRecDepth 100000
set_option maxHeartbeats 4000000
namespace K66
open PySem PySem.Spec PyProof.Rows L2 TK MR
variable {P : Program} {w : World} {K : PySem.W.Frag} {mg : Str → Option Value} {base : Heap}
theorem op_notInDK (K : PySem.W.Frag) {X : Cx} (hu : X.A.units + 65 < cLine) (hK : X.K = K := by rfl) : OpR X (compareOp .NotIn) (rNotInD K) := hK ▸ op_notInD hu
theorem cr_sortTK (K : PySem.W.Frag) {X : Cx} {d : Nat} {B : Int} (hd : 1 ≤ d) (hK : X.K = K := by rfl) : CallR X (.builtin "sorted") (rSortU K d B) := hK ▸ cr_sortT hd
theorem LR.gx {S : List Addr} {H H' : Hp} {p : Addr} {rows : List (List Int)} (g : Gx S H H') (hS : LS S H) (n : p ∉ S) (h : LR K H p rows) : LR K H' p rows := let ⟨vs, a, b⟩ := h; ⟨vs, g.at n a (fun _ z => by cases z), b.gx g hS⟩
theorem LR.gr {H H' : Hp} {p : Addr} {rows : List (List Int)} (g : Gr H H') (h : LR K H p rows) : LR K H' p rows := h.gx g .nil (by simp)
theorem LR.wr {H : Hp} {p q : Addr} {xs : List V} {o : HO} {rows : List (List Int)} (e : H q = some (.lst xs)) (n : p ≠ q) (h : LR K H p rows) : LR K (upd H q o) p rows := let ⟨vs, a, b⟩ := h; ⟨vs, by rw [upd_ne n]; exact a, b.wr e⟩
/-- the script stands somewhere -/
def Lv (K : PySem.W.Frag) (H : Hp) (c : Addr) : Prop := H c ≠ none ∨ ∃ ns : List Int, SqL K (fun _ => none) c (ns.map V.int)
theorem RowSt.wr {H : Hp} {r c p : Addr} {o : HO} (h : RowSt K H r c) (n : r ≠ p) (nc : c ≠ p ∨ ∃ ns : List Int, SqL K (fun _ => none) c (ns.map V.int)) : RowSt K (upd H p o) r c := by
  obtain ⟨ns, i, st, d, h1, h2, h3, h4⟩ := h
  rcases nc with nc | ⟨ms, k⟩
  · exact ⟨ns, i, st, d, by rw [upd_ne n]; exact h1, seqL_ne h2 nc, h3, h4⟩
  · exact ⟨ms, i, st, d, by rw [upd_ne n]; exact h1, seqL_frag k, .inr k, h4⟩
theorem Lv.gx {H H' : Hp} {r c : Addr} (g : Gx [r] H H') (hR : RowSt K H' r c) (h : Lv K H c) : Lv K H' c := by
  rcases h with h | h
  · by_cases e : c = r
    · subst e
      obtain ⟨xs, e⟩ := hR.lst
      exact .inl (by rw [e]; intro z; cases z)
    · obtain ⟨o, e1⟩ := Option.ne_none_iff_exists'.mp h
      exact .inl (g c o (fun z => e (List.mem_singleton.mp z)) e1).some
  · exact .inr h
theorem live_ne {H : Hp} {c p : Addr} (h : Lv K H c) (n : H p = none) : c ≠ p ∨ ∃ ns : List Int, SqL K (fun _ => none) c (ns.map V.int) := h.imp_left fun h z => h (by rw [z]; exact n)
/-! _law_some_rows -/
def sp_law_some_rows (K : PySem.W.Frag) : Sp := fun vs H Q _ => ∃ (r c : Addr) (sz ar most : Nat), vs = [.ref r, .int sz, .int ar, .int most] ∧ RowSt K H r c ∧ Lv K H c ∧ (1 ≤ sz ∧ sz ≤ 4) ∧ (1 ≤ ar ∧ ar ≤ 4) ∧ (1 ≤ most ∧ most ≤ 9) ∧
  ∀ (v : V) (rows : List (List Int)) H', Gx [r] H H' → RowSt K H' r c → DT K H' v (.tuple (rows.map rowD)) → rows ≠ [] → rows.length ≤ most → RelOk sz ar rows → Q v H'
end K66

set_option linter.all false
set_option maxRecDepth 100000
/-! rows that an operation closes; a dict of rows -/
namespace MR
open PySem PySem.Spec PyProof.Rows L2 TK
theorem nodup_le : ∀ {l S : List (List Int)}, l.Nodup → (∀ x ∈ l, x ∈ S) → l.length ≤ S.length
  | [], _, _, _ => Nat.zero_le _
  | x :: l, S, nd, h => by
    obtain ⟨n1, n2⟩ := List.nodup_cons.mp nd
    have hx := h x List.mem_cons_self
    have : l.length ≤ (S.erase x).length := nodup_le n2 fun y hy => by
      have hy' := h y (List.mem_cons_of_mem _ hy)
      exact (List.mem_erase_of_ne (by rintro rfl; exact n1 hy)).mpr hy'
    rw [List.length_erase_of_mem hx] at this
    have p : 0 < S.length := List.length_pos_of_mem hx
    rw [List.length_cons]
    omega
/-- some rows within S, which the operation closes -/
structure Clo (sz k : Nat) (tab : List Int) (ar : Nat) (rows S : List (List Int)) : Prop where
  few : S.length ≤ 8
  sub : ∀ r ∈ rows, r ∈ S
  shut : ∀ rs : List (List Int), rs.length = k → (∀ r ∈ rs, r ∈ S) → carried sz tab rs ar ∈ S
theorem all_same {rs : List (List Int)} {r : List Int} (h : ∀ q ∈ rs, q = r) : rs = List.replicate rs.length r := by
  induction rs with
  | nil => rfl
  | cons q rs ih =>
    have e : q = r := h q List.mem_cons_self
    subst e
    rw [List.length_cons, List.replicate_succ, ← ih fun p hp => h p (List.mem_cons_of_mem _ hp)]
theorem clo_one {sz k ar : Nat} {tab : List Int} (O : OpOk sz k tab) {r : List Int} (hl : r.length = ar) (hv : ∀ x ∈ r, 0 ≤ x ∧ x < (sz : Int)) : ∃ S, Clo sz k tab ar [r] S := by
  rcases O.own with own | zero
  · refine ⟨[r], by show 1 ≤ 8; omega, fun q hq => hq, fun rs hk hs => ?_⟩
    have e := all_same (rs := rs) (r := r) fun q hq => List.mem_singleton.mp (hs q hq)
    rw [hk] at e
    refine List.mem_singleton.mpr ?_
    rw [e]
    unfold carried
    apply List.ext_getElem
    · rw [List.length_map, List.length_range, hl]
    · intro i h1 h2
      have hi : i < r.length := h2
      rw [List.getElem_map, List.getElem_range, List.map_replicate]
      have g : r.getD i 0 = r[i] := by rw [List.getD_eq_getElem?_getD, List.getElem?_eq_getElem hi]; rfl
      obtain ⟨b1, b2⟩ := hv r[i] (List.getElem_mem hi)
      obtain ⟨v, ev⟩ := Int.eq_ofNat_of_zero_le b1
      rw [g, ev]
      rw [ev] at b2
      exact own v (by omega)
  · refine ⟨[r, List.replicate ar 0], by show 2 ≤ 8; omega, fun q hq => by rw [List.mem_singleton.mp hq]; exact List.mem_cons_self, fun rs _ _ => ?_⟩
    have e : carried sz tab rs ar = List.replicate ar 0 := by
      unfold carried
      apply List.ext_getElem
      · rw [List.length_map, List.length_range, List.length_replicate]
      · intro i h1 h2
        rw [List.getElem_map, List.getElem_replicate, List.getD_eq_getElem?_getD]
        cases h : tab[(idxI sz (rs.map fun r => r.getD ((List.range ar)[i]'(by rw [List.length_map] at h1; exact h1)) 0)).toNat]? with
        | none => rfl
        | some x => exact zero x (List.mem_of_getElem? h)
    rw [e]
    exact List.mem_cons_of_mem _ List.mem_cons_self
/-- the dict whose keys are these rows, each True -/
def kd (rows : List (List Int)) : List (List Key × V) := rows.map fun r => (r.map Sum.inl, V.bl true)
theorem inl_inj {a b : List Int} : (a.map Sum.inl : List Key) = b.map Sum.inl ↔ a = b := by
  constructor
  · intro h
    have e := congrArg (List.map kV) h
    rw [keys_ints, keys_ints] at e
    have e2 := congrArg (List.map unI) e
    rw [unI_ints, unI_ints] at e2
    exact e2
  · intro h
    rw [h]
theorem kd_any (rows : List (List Int)) (r : List Int) : ((kd rows).any fun kv => decide (kv.1 = r.map Sum.inl)) = decide (r ∈ rows) := by
  induction rows with
  | nil => rfl
  | cons q rows ih =>
    show (decide ((q.map Sum.inl : List Key) = r.map Sum.inl) || (kd rows).any fun kv => decide (kv.1 = r.map Sum.inl)) = _
    rw [ih]
    have e : decide ((q.map Sum.inl : List Key) = r.map Sum.inl) = decide (q = r) := decide_eq_decide.mpr inl_inj
    rw [e]
    by_cases h : q = r
    · subst h; simp
    · have h' : ¬ r = q := fun z => h z.symm
      simp [h, h']
theorem kd_has (rows : List (List Int)) (r : List Int) : (valV (kd rows) (r.map Sum.inl)).isSome = decide (r ∈ rows) := by
  rw [← valV_any, kd_any]
theorem kd_old {rows : List (List Int)} {r : List Int} (h : r ∈ rows) : putK (kd rows) (r.map Sum.inl) (V.bl true) = kd rows := by
  unfold putK
  rw [kd_any, if_pos (decide_eq_true h)]
  have : ∀ l : List (List Int), (kd l).map (fun kv => if kv.1 = (r.map Sum.inl : List Key) then (kv.1, V.bl true) else kv) = kd l := fun l => by
    induction l with
    | nil => rfl
    | cons q l ih =>
      show (if (q.map Sum.inl : List Key) = r.map Sum.inl then _ else _) :: (kd l).map _ = _
      rw [ih]
      have e : (if (q.map Sum.inl : List Key) = r.map Sum.inl then ((q.map Sum.inl : List Key), V.bl true) else ((q.map Sum.inl : List Key), V.bl true)) = ((q.map Sum.inl : List Key), V.bl true) := ite_self _
      rw [e]
      rfl
  exact this rows
theorem kd_new {rows : List (List Int)} {r : List Int} (h : r ∉ rows) : putK (kd rows) (r.map Sum.inl) (V.bl true) = kd (rows ++ [r]) := by
  unfold putK
  rw [kd_any, if_neg (by simpa using h)]
  show kd rows ++ [_] = _
  unfold kd
  rw [List.map_append]
  rfl
theorem kd_len (rows : List (List Int)) : (kd rows).length = rows.length := by
  unfold kd
  rw [List.length_map]
end MR

set_option Elab.async false
set_option linter.all false
set_option maxRecDepth 100000
set_option maxHeartbeats 4000000
namespace K66
open PySem PySem.Spec PyProof.Rows L2 TK MR
variable {P : Program} {w : World} {K : PySem.W.Frag} {mg : Str → Option Value} {base : Heap}
/-- tuples stand, so data stand -/
theorem DT.keep {H H1 : Hp} (k : ∀ a xs, H a = some (.tup xs) → H1 a = some (.tup xs)) {v : V} {d : PyData} (h : DT K H v d) : DT K H1 v d := by
  induction h with
  | non => exact .non
  | bl b => exact .bl b
  | int i => exact .int i
  | str x => exact .str x
  | tup h1 h2 _ ih => exact .tup (k _ _ h1) h2 ih
theorem DTs.keep {H H1 : Hp} (k : ∀ a xs, H a = some (.tup xs) → H1 a = some (.tup xs)) {vs : List V} {ds : List PyData} (h : DTs K H vs ds) : DTs K H1 vs ds := ⟨h.1, fun i v d e e' => DT.keep k (h.2 i v d e e')⟩
/-- all but p stands -/
def But (p : Addr) (H H1 : Hp) : Prop := ∀ b, b ≠ p → H1 b = H b
theorem But.tups {p : Addr} {H H1 : Hp} (h : But p H H1) {o : HO} (e : H p = some o) (n : ∀ xs, o ≠ .tup xs) : ∀ a xs, H a = some (.tup xs) → H1 a = some (.tup xs) := fun a xs ea => by
  rw [h a fun z => by
    rw [z, e] at ea
    exact n xs (Option.some.inj ea)]
  exact ea
theorem But.upd {p : Addr} {H H1 : Hp} {o : HO} (h : But p H H1) : But p H (upd H1 p o) := fun b hb => by rw [upd_ne hb, h b hb]
theorem But.refl {p : Addr} {H : Hp} : But p H H := fun _ _ => rfl
theorem grB {H H1 H2 : Hp} {p : Addr} (g : Gr H H1) (n : H p = none) (h : But p H1 H2) : Gr H H2 := grBut g n h
theorem Gx.but {H H1 H2 : Hp} {p : Addr} (g : Gr H H1) (n : H p = none) (h : Gx [p] H1 H2) : Gr H H2 := fun b o hb e => by
  have hbp : b ≠ p := ne_of_none e n
  exact (g b o hb e).trans fun u e' => h b u (fun z => hbp (List.mem_singleton.mp z)) e'
theorem keys_DTs {H : Hp} {keys : List (List Int)} {bs : List Addr} (h : IsKeys H (kd keys) bs) : DTs K H (bs.map V.ref) (keys.map rowD) := by
  unfold IsKeys at h
  induction keys generalizing bs with
  | nil =>
    cases h
    exact .nil
  | cons r keys ih =>
    cases h with
    | cons h t =>
      refine .cons (.row ?_) (ih t)
      have e : (r.map Sum.inl : List Key).map kV = r.map V.int := keys_ints r
      rw [← e]
      exact h
/-- a row of so many values below sz -/
def Good (sz ar : Nat) (r : List Int) : Prop := r.length = ar ∧ ∀ x ∈ r, 0 ≤ x ∧ x < (sz : Int)
theorem Good.bd {sz ar : Nat} {r : List Int} (h : Good sz ar r) (s4 : sz ≤ 4) : r.length = ar ∧ TS.Bd 4 r := ⟨h.1, fun m hm => by have := h.2 m hm; omega⟩
/-- (arity, tuple(sorted(known))) -/
theorem closed_end {D : Ends} {σ : L2.St} {H' : Hp} {d : Addr} {sz ar : Nat} {keys : List (List Int)} (h2 : σ[2]? = some (some (.int ar))) (h4 : σ[4]? = some (some (.ref d))) (hd : H' d = some (.dT (kd keys))) (nd : keys.Nodup) (hl : keys.length ≤ 8) (ok : ∀ r ∈ keys, Good sz ar r)
    (s4 : sz ≤ 4) (a1 : 1 ≤ ar) (a4 : ar ≤ 4) (q : ∀ v rs H2, Gr H' H2 → DT K H2 v (relD ar rs) → RelOk sz ar rs → rs.Perm keys → D.rt v H2) :
    tRet (tTup (tCons (tVar 2) (tCons (tCB (rTupleOf K) (tCons (tCB (rSortedDT ar 4) (tCons (tVar 4) tNil)) tNil)) tNil))) D σ H' := by
  refine ⟨.int ar, h2, .ref d, h4, d, kd keys, rfl, hd, by rw [kd_len]; omega, fun p hp => ?_, fun bs ys p2 hk pm pw np2 => ?_⟩
  · obtain ⟨r, hr, rfl⟩ := List.mem_map.mp hp
    exact ⟨r, rfl, (ok r hr).bd s4⟩
  · obtain ⟨qs, qd, qp, qw⟩ := sorted_rows (B := 4) (d := ar) (keys_DTs (K := K) hk) pm nd (fun r hr => (ok r hr).bd s4) pw
    refine ⟨p2, ys, rfl, .inl ⟨.inl (.inl upd_same), fun l nl => ⟨by show 2 ≤ sizeLine; decide, fun t nt => ?_⟩⟩⟩
    have g2 : Gr H' (upd (upd H' p2 (.lst ys)) l (.tup ys)) := (Gx.new np2).trans (Gx.new nl)
    refine q _ qs _ (g2.trans (Gx.new nt)) (rel_laid (.mk upd_same (qd.gr g2)) nt) ?_ qp
    exact ⟨by omega, by omega, fun z hz => by have := (ok z (qp.mem_iff.mp hz)).1; omega, fun z hz x hx => by have := (ok z (qp.mem_iff.mp hz)).2 x hx; omega, qw, by rw [qp.length_eq]; omega⟩
theorem asc_nodup {l : List (List Int)} (h : l.Pairwise fun r q => HT.lexLt r q = true) : l.Nodup := h.imp fun {a b} h z => by
  rw [z, lex_irr] at h
  cases h
theorem RelOk.good {sz ar : Nat} {rows : List (List Int)} (h : RelOk sz ar rows) : ∀ r ∈ rows, Good sz ar r := fun r hr => ⟨by have := h.len r hr; omega, fun x hx => by have := h.val r hr x hx; omega⟩
theorem any_nil (rows : List (List Int)) : PyData.eqv (.list (rows.map rowD)) (.list []) = decide (rows = []) := by
  cases rows with
  | nil => simp [PyData.eqv, PyData.eqvAll]
  | cons r rows => simp [PyData.eqv, PyData.eqvAll]
/-- known[told] = True -/
theorem put_row {H : Hp} {d b : Addr} {keys : List (List Int)} {r : List Int} (hd : H d = some (.dT (kd keys))) (hb : H b = some (.tup (r.map V.int))) (hl : keys.length ≤ 900) : DPut H d (.ref b) (.bl true) (upd H d (.dT (putK (kd keys) (r.map Sum.inl) (.bl true)))) :=
  DPut.t hd (by rw [keys_ints]; exact hb) (by rw [kd_len]; exact small1000 (by omega))
theorem get_row {H : Hp} {d b : Addr} {keys : List (List Int)} {r : List Int} (hd : H d = some (.dT (kd keys))) (hb : H b = some (.tup (r.map V.int))) : DGet H d (.ref b) (valV (kd keys) (r.map Sum.inl)) :=
  DGet.t hd (by rw [keys_ints]; exact hb)
theorem rows_in {qs : List (List Int)} : ∀ {es : List PyData}, (∀ e ∈ es, e ∈ qs.map rowD) → ∃ rs : List (List Int), es = rs.map rowD ∧ ∀ r ∈ rs, r ∈ qs
  | [], _ => ⟨[], rfl, fun r hr => by simp at hr⟩
  | e :: es, h => by
    obtain ⟨r, hr, e1⟩ := List.mem_map.mp (h e List.mem_cons_self)
    obtain ⟨rs, e2, h2⟩ := rows_in fun e he => h e (List.mem_cons_of_mem _ he)
    exact ⟨r :: rs, by rw [List.map_cons, e1, ← e2], fun q hq => by
      rcases List.mem_cons.mp hq with z | z
      · rw [z]; exact hr
      · exact h2 q z⟩
/-! _law_closed -/
def sp_law_closed (K : PySem.W.Frag) : Sp := fun vs H Q _ => ∃ (sz ar k : Nat) (v u : V) (tab : List Int) (rows : List (List Int)), vs = [.int sz, v, .int ar, u] ∧ (1 ≤ sz ∧ sz ≤ 4) ∧ (1 ≤ ar ∧ ar ≤ 4) ∧ DT K H v (opD k tab) ∧ OpOk sz k tab ∧ DT K H u (.tuple (rows.map rowD)) ∧ rows ≠ [] ∧ rows.length ≤ 8 ∧ RelOk sz ar rows ∧
  (∀ H', Gr H H' → (¬ ∃ S, Clo sz k tab ar rows S) → Q .non H') ∧ ∀ z rs H', Gr H H' → DT K H' z (relD ar rs) → RelOk sz ar rs → rs.length ≤ 8 → rs ≠ [] → Q z H'
end K66

set_option Elab.async false
set_option linter.all false
set_option maxRecDepth 100000
set_option maxHeartbeats 4000000
namespace K66
open PySem PySem.Spec PyProof.Rows L2 TK MR
variable {P : Program} {w : World} {K : PySem.W.Frag} {mg : Str → Option Value} {base : Heap}
theorem cut_first {x : V} {xs : List V} : cutV (x :: xs) none (some 1) = [x] := by
  unfold cutV
  rw [show HT.sIx (x :: xs).length (x :: xs).length (some 1) = min 1 (x :: xs).length from HT.sIx_nat (x :: xs).length _ 1, HT.sIx_none]
  rw [show min 1 (x :: xs).length = 1 by rw [List.length_cons]; omega]
  rfl
theorem not_whole {n : Nat} (h : 2 ≤ n) : ¬ (HT.sIx n 0 none = 0 ∧ HT.sIx n n (some 1) = n) := by
  rw [show HT.sIx n n (some 1) = min 1 n from HT.sIx_nat n n 1]
  omega
theorem DT.op_gx {S : List Addr} {H H' : Hp} (g : Gx S H H') (hS : LS S H) {v : V} {k : Int} {tab : List Int} (h : DT K H v (opD k tab)) : DT K H' v (opD k tab) := h.gx g hS
/-! _law_kept -/
def sp_law_kept (K : PySem.W.Frag) : Sp := fun vs H Q _ => ∃ (r c : Addr) (sz ar k : Nat) (v : V) (tab : List Int), vs = [.ref r, .int sz, v, .int ar] ∧ RowSt K H r c ∧ Lv K H c ∧ (1 ≤ sz ∧ sz ≤ 4) ∧ (1 ≤ ar ∧ ar ≤ 4) ∧ DT K H v (opD k tab) ∧ OpOk sz k tab ∧
  ∀ z (rs : List (List Int)) H', Gx [r] H H' → RowSt K H' r c → DT K H' z (relD ar rs) → rs ≠ [] → rs.length ≤ 9 → RelOk sz ar rs → Q z H'
end K66

set_option Elab.async false
set_option linter.all false
set_option maxRecDepth 100000
set_option maxHeartbeats 4000000
namespace K66
open PySem PySem.Spec PyProof.Rows L2 TK MR
variable {P : Program} {w : World} {K : PySem.W.Frag} {mg : Str → Option Value} {base : Heap}
/-! _law_relation -/
def sp_law_relation (K : PySem.W.Frag) : Sp := fun vs H Q _ => ∃ (r c : Addr) (sz ar most : Nat), vs = [.ref r, .int sz, .int ar, .int most] ∧ RowSt K H r c ∧ Lv K H c ∧ (1 ≤ sz ∧ sz ≤ 4) ∧ (1 ≤ ar ∧ ar ≤ 4) ∧ (1 ≤ most ∧ most ≤ 9) ∧
  ∀ z (rs : List (List Int)) H', Gx [r] H H' → RowSt K H' r c → DT K H' z (relD ar rs) → rs ≠ [] → rs.length ≤ 9 → RelOk sz ar rs → Q z H'
end K66

set_option Elab.async false
set_option linter.all false
set_option maxRecDepth 100000
set_option maxHeartbeats 4000000
namespace K66
open PySem PySem.Spec PyProof.Rows L2 TK MR
variable {P : Program} {w : World} {K : PySem.W.Frag} {mg : Str → Option Value} {base : Heap}
/-- ints, and tuples of such, so deep -/
def IT : Nat → PyData → Prop
  | _ + 1, .int _ => True
  | n + 1, .tuple ds => ds.length ≤ 1000 ∧ ∀ e ∈ ds, IT n e
  | _, _ => False
theorem IT.cases {n : Nat} {d : PyData} (h : IT (n + 1) d) : (∃ i, d = .int i) ∨ ∃ ds, d = .tuple ds ∧ ds.length ≤ 1000 ∧ ∀ e ∈ ds, IT n e := by
  cases d with
  | int i => exact .inl ⟨i, rfl⟩
  | tuple ds => exact .inr ⟨ds, rfl, h⟩
  | _ => exact h.elim
theorem IT.none {d : PyData} (h : IT 0 d) : False := by cases d <;> exact h
theorem isiTL {H : Hp} {t : Addr} {x : V} {T : Value} {b : Bool} {Q : VK} (hx : TyX K H x T) (ht : H t = some (.tup [.ty "tuple", .ty "list"])) (hk : PySem.W.kitAny K T [.type "tuple", .type "list"] = some b) (q : Q (.bl b) H) : rIsiT K [x, .ref t] H Q :=
  ⟨x, t, _, T, _, b, rfl, ht, .cons (.ty _) (.cons (.ty _) .nil), hx, hk, q⟩
theorem anyT : PySem.W.kitAny K (.type "tuple") [.type "tuple", .type "list"] = some true := kitAny_cons (b := true) (kit_ty (by decide +kernel)) (fun z => by cases z) fun _ => rfl
theorem anyI : PySem.W.kitAny K (.type "int") [.type "tuple", .type "list"] = some false := kitAny_cons (b := false) (kit_ty (by decide +kernel)) (fun _ => kitAny_cons (b := false) (kit_ty (by decide +kernel)) (fun _ => kitAny_nil) fun z => by cases z) fun z => by cases z
theorem tyI {H : Hp} (n : Int) : TyX K H (.int n) (.type "int") := .base (.int n)
/-! _law_alike -/
def sp_law_alike (K : PySem.W.Frag) (n : Nat) : Sp := fun vs H Q _ => ∃ (v u : V) (d : PyData), vs = [v, u] ∧ DT K H v d ∧ DT K H u d ∧ IT n d ∧ ∀ H', Gr H H' → Q (.bl true) H'
theorem ok_law_alike (T : Txt K mg base) : ∀ n, FnOk P w K mg base CX0 (n + 1) T.law_alike.f T.law_alike.fd p_law_alike (sp_law_alike K n)
  | 0 => T.law_alike.F.ok sc_law_alike (fun vs H Q E h => by obtain ⟨_, _, _, _, _, _, h, _⟩ := h; exact h.none.elim) (fun A outer s H vs Q E hr h => by obtain ⟨_, _, _, _, _, _, h, _⟩ := h; exact h.none.elim)
  | n + 1 => by
    refine T.law_alike.F.ok sc_law_alike (fun vs H Q E h => ?_) (fun A outer s H vs Q E hr h => ?_)
    · obtain ⟨_, _, _, rfl, _⟩ := h
      rfl
    · obtain ⟨v, u, d, rfl, hv, hu, hd, q⟩ := h
      refine ⟨_, pss_cons (ps_if (pt_val (pe_callB call_isiT (by rfl) T.b_isinstance boot_isinstance (pa_cons (pv 1) (pa_cons (pe_tup (pa_cons (pe_bltn (v := .ty "tuple") (by rfl) T.b_tuple boot_tuple rfl) (pa_cons (pe_bltn (v := .ty "list") (by rfl) T.b_list boot_list rfl) pa_nil))) pa_nil))))
          (pss_cons (ps_if (PW.pt (pw_or (pt_not (pt_val (pe_callB call_isiT (by rfl) T.b_isinstance boot_isinstance (pa_cons (pv 0) (pa_cons (pe_tup (pa_cons (pe_bltn (v := .ty "tuple") (by rfl) T.b_tuple boot_tuple rfl) (pa_cons (pe_bltn (v := .ty "list") (by rfl) T.b_list boot_list rfl) pa_nil))) pa_nil)))))
            (pw_or1 (pt_cmpR op_ne (pe_callB call_isi (by rfl) T.b_isinstance boot_isinstance (pa_cons (pv 0) (pa_cons (pe_bltn (v := .ty "list") (by rfl) T.b_list boot_list rfl) pa_nil))) (pe_callB call_isi (by rfl) T.b_isinstance boot_isinstance (pa_cons (pv 1) (pa_cons (pe_bltn (v := .ty "list") (by rfl) T.b_list boot_list rfl) pa_nil))) (nomark _))))) (pss_one ps_never) pss_nil)
          (pss_cons (ps_if (pt_cmpR op_ne (pe_callB call_len_seq (by rfl) T.b_len PySem.boot_len (pa_cons (pv 0) pa_nil)) (pe_callB call_len_seq (by rfl) T.b_len PySem.boot_len (pa_cons (pv 1) pa_nil)) (nomark _)) (pss_one ps_never) pss_nil)
          (pss_one (ps_ret (pe_cmpR (op_eqD hr.units)
            (pe_lc (own := [("k", 2)]) (g := gName 2) rfl sc_law_alike.nd (pi_range1 (by rfl) T.b_range (pa_cons (pe_callB call_len_seq (by rfl) T.b_len PySem.boot_len (pa_cons (pv 1) pa_nil)) pa_nil))
              (blkOk_by (N := n_law_alike) (sc := defScope s_law_alike) (by decide +kernel)) (fun _ _ _ _ _ => pg_name (i := 2) sc_law_alike.nd rfl (Or.inl rfl))
              (fun _ _ _ _ _ => pts_one (pt_not (pt_val (pe_call (ok_law_alike T n) hr (by rfl) T.law_alike.g T.law_alike.F.kp T.law_alike.b .nil pass0 (pa_cons (pe_ix (ix_tupK K) (pv 0) (pv 2) (fun _ _ => rfl)) (pa_cons (pe_ix (ix_tupK K) (pv 1) (pv 2) (fun _ _ => rfl)) pa_nil))))))
              (fun _ _ _ _ _ => pv 2))
            (pe_lst pa_nil) (nomark _)))))) pss_nil)
        (pss_cons (ps_if (PW.pt (pw_or (pt_cmpR op_isN (pv 1) pe_non (nomark _)) (pw_or1 (pt_val (pe_callB call_isi (by rfl) T.b_isinstance boot_isinstance (pa_cons (pv 1) (pa_cons (pe_bltn (v := .ty "str") (by rfl) T.b_str boot_str rfl) pa_nil))))))) (pss_one ps_never) pss_nil)
        (pss_one (ps_ret (pe_and (pe_callB call_isi (by rfl) T.b_isinstance boot_isinstance (pa_cons (pv 0) (pa_cons (pe_bltn (v := .ty "int") (by rfl) T.b_int boot_int rfl) pa_nil)))
          (pe_and (pe_cmpR op_eq (pe_callB call_isi (by rfl) T.b_isinstance boot_isinstance (pa_cons (pv 0) (pa_cons (pe_bltn (v := .ty "bool") (by rfl) T.b_bool boot_bool rfl) pa_nil))) (pe_callB call_isi (by rfl) T.b_isinstance boot_isinstance (pa_cons (pv 1) (pa_cons (pe_bltn (v := .ty "bool") (by rfl) T.b_bool boot_bool rfl) pa_nil))) (nomark _))
            (pe_one (pe_cmpR op_eq (pv 0) (pv 1) (nomark _)))))))), ?_⟩
      rcases hd.cases with ⟨i, rfl⟩ | ⟨ds, rfl, hdl, hds⟩
      · -- an int
        cases hv.int_inv
        cases hu.int_inv
        refine ⟨.int i, rfl, by show 2 ≤ sizeLine; decide, fun t nt => ?_⟩
        have g1 : Gr H (upd H t (.tup [.ty "tuple", .ty "list"])) := Gx.new nt
        refine ⟨.int i, t, _, .type "int", _, false, rfl, upd_same, .cons (.ty _) (.cons (.ty _) .nil), tyI i, anyI, false, rfl, iteF ?_⟩
        refine ⟨.int i, rfl, rfl, _, rfl, ?_⟩
        rw [show decide (V.int i = V.non) = false by simp]
        refine iteF ⟨.int i, rfl, .int i, .ty "str", _, _, false, rfl, .ty _, tyI i, kit_ty (by decide +kernel), false, rfl, iteF ?_⟩
        refine ⟨.int i, rfl, .int i, .ty "int", _, _, true, rfl, .ty _, tyI i, kit_ty (by decide +kernel), true, rfl, iteT ?_⟩
        refine ⟨.int i, rfl, .int i, .ty "bool", _, _, false, rfl, .ty _, tyI i, kit_ty (by decide +kernel), .int i, rfl, .int i, .ty "bool", _, _, false, rfl, .ty _, tyI i, kit_ty (by decide +kernel), rfl, _, rfl, ?_⟩
        rw [decide_eq_true rfl]
        refine iteT ⟨.int i, rfl, .int i, rfl, rfl, ?_⟩
        rw [decide_eq_true rfl]
        exact q _ g1
      · -- a tuple
        obtain ⟨a, xs, rfl, hS, hD⟩ := hv.tup_inv
        obtain ⟨b, ys, rfl, hS2, hD2⟩ := hu.tup_inv
        refine ⟨.ref b, rfl, by show 2 ≤ sizeLine; decide, fun t nt => ?_⟩
        have g1 : Gr H (upd H t (.tup [.ty "tuple", .ty "list"])) := Gx.new nt
        refine ⟨.ref b, t, _, .type "tuple", _, true, rfl, upd_same, .cons (.ty _) (.cons (.ty _) .nil), tyT (g1.seqT hS2), anyT, true, rfl, iteT ?_⟩
        generalize upd H t (.tup [.ty "tuple", .ty "list"]) = H1 at *
        refine ⟨.ref a, rfl, by show 2 ≤ sizeLine; decide, fun t2 nt2 => ?_⟩
        have g2 : Gr H1 (upd H1 t2 (.tup [.ty "tuple", .ty "list"])) := Gx.new nt2
        refine ⟨.ref a, t2, _, .type "tuple", _, true, rfl, upd_same, .cons (.ty _) (.cons (.ty _) .nil), tyT ((g1.trans g2).seqT hS), anyT, true, rfl, ?_⟩
        have g02 := g1.trans g2
        generalize upd H1 t2 (.tup [.ty "tuple", .ty "list"]) = H2 at *
        refine iteF ?_
        have k1 := g02.seqT hS
        have k2 := g02.seqT hS2
        refine ⟨.ref a, rfl, .ref a, .ty "list", _, _, false, rfl, .ty _, tyT k1, kit_ty (by decide +kernel), .ref b, rfl, .ref b, .ty "list", _, _, false, rfl, .ty _, tyT k2, kit_ty (by decide +kernel), rfl, _, rfl, ?_⟩
        rw [decide_eq_true rfl]
        refine iteF ?_
        have lx : xs.length = ds.length := hD.1
        have ly : ys.length = ds.length := hD2.1
        refine ⟨.ref a, rfl, a, xs, rfl, .inr k1, .ref b, rfl, b, ys, rfl, .inr k2, rfl, _, rfl, ?_⟩
        rw [decide_eq_true (by rw [lx, ly])]
        refine iteF ?_
        -- each place
        refine ⟨.ref b, rfl, b, ys, rfl, .inr k2, ys.length, rfl, by omega, ?_, fun D nD => ?_⟩
        · omega
        refine lc_range (n := ((ys.length : Nat) : Int).toNat) (fun i H' => Gr H2 H' ∧ H' D = some (.lst [])) ⟨Gx.new nD, upd_same⟩ (fun i H' hi p => ?_) (fun H' p => ?_)
        · obtain ⟨g3, hD3⟩ := p
          have iy : i < ys.length := by omega
          have ix : i < xs.length := by omega
          have idd : i < ds.length := by omega
          have g03 := g02.trans g3
          have ezi : (0 : Int) + (i : Int) = (i : Int) := Int.zero_add _
          refine ⟨rfl, .ref a, rfl, .int (0 + (i : Int)), rfl, a, xs, _, xs[i], rfl, rfl, g03.seqT hS, by rw [ezi]; exact atI_nat (List.getElem?_eq_getElem ix), ?_⟩
          refine ⟨.ref b, rfl, .int (0 + (i : Int)), rfl, b, ys, _, ys[i], rfl, rfl, g03.seqT hS2, by rw [ezi]; exact atI_nat (List.getElem?_eq_getElem iy), ?_⟩
          refine ⟨xs[i], ys[i], ds[i], rfl, (hD.2 i _ _ (List.getElem?_eq_getElem ix) (List.getElem?_eq_getElem idd)).gr g03, (hD2.2 i _ _ (List.getElem?_eq_getElem iy) (List.getElem?_eq_getElem idd)).gr g03, hds _ (List.getElem_mem idd), fun H4 g4 => ⟨true, rfl, iteF ⟨g3.trans g4, g4.lst hD3⟩⟩⟩
        · obtain ⟨g3, hD3⟩ := p
          refine ⟨Nat.zero_le _, fun l nl => ?_⟩
          have gl : Gr H' (upd H' l (.lst [])) := Gx.new nl
          refine ⟨.list [], .list [], .lst (.inl (.inl (gl.lst hD3))) .nil, .lst (.inl (.inl upd_same)) .nil, by decide, by decide, ?_⟩
          exact q _ ((g02.trans g3).trans gl)
theorem it_row {r : List Int} (h : r.length ≤ 1000) : IT 2 (rowD r) := ⟨by rw [List.length_map]; exact h, fun e he => by
  obtain ⟨i, _, rfl⟩ := List.mem_map.mp he
  exact trivial⟩
theorem it_rel {ar : Int} {rows : List (List Int)} (h : rows.length ≤ 1000) (hl : ∀ r ∈ rows, r.length ≤ 1000) : IT 4 (relD ar rows) := ⟨by show 2 ≤ 1000; omega, fun e he => by
  rcases List.mem_cons.mp he with rfl | he
  · exact trivial
  · rw [List.mem_singleton.mp he]
    exact ⟨by rw [List.length_map]; exact h, fun e he => by
      obtain ⟨r, hr, rfl⟩ := List.mem_map.mp he
      exact it_row (hl r hr)⟩⟩

end K66

set_option Elab.async false
set_option linter.all false
set_option maxRecDepth 100000
set_option maxHeartbeats 4000000
namespace K66
open PySem PySem.Spec PyProof.Rows L2 TK MR
variable {P : Program} {w : World} {K : PySem.W.Frag} {mg : Str → Option Value} {base : Heap}
theorem fn_or {CX : CXT} {k : Nat} {f : Addr} {fd : FuncData} {ps : List Str} {sp sp' : Sp} (F : FnOk P w K mg base CX k f fd ps sp) (G : FnOk P w K mg base CX k f fd ps sp') : FnOk P w K mg base CX k f fd ps (fun vs H Q E => sp vs H Q E ∨ sp' vs H Q E) :=
  ⟨fun vs H Q E h => h.elim (F.len vs H Q E) (G.len vs H Q E), fun A outer s H args us vs Q E hr e b r h => h.elim (F.run A outer s H args us vs Q E hr e b r) (G.run A outer s H args us vs Q E hr e b r)⟩
/-! _law_alike of None and of truth values -/
def sp_alike_non : Sp := fun vs H Q _ => vs = [.non, .non] ∧ ∀ H', Gr H H' → Q (.bl true) H'
theorem ok_alike_non (T : Txt K mg base) : FnOk P w K mg base CX0 1 T.law_alike.f T.law_alike.fd p_law_alike sp_alike_non := by
  refine T.law_alike.F.ok sc_law_alike (fun vs H Q E h => ?_) (fun A outer s H vs Q E hr h => ?_)
  · obtain ⟨rfl, _⟩ := h
    rfl
  · obtain ⟨rfl, q⟩ := h
    refine ⟨_, pss_cons (ps_if (pt_val (pe_callB call_isiT (by rfl) T.b_isinstance boot_isinstance (pa_cons (pv 1) (pa_cons (pe_tup (pa_cons (pe_bltn (v := .ty "tuple") (by rfl) T.b_tuple boot_tuple rfl) (pa_cons (pe_bltn (v := .ty "list") (by rfl) T.b_list boot_list rfl) pa_nil))) pa_nil)))) (pss_cons ps_never (pss_cons ps_never (pss_one ps_never))) pss_nil)
        (pss_cons (ps_if (PW.pt (pw_or (pt_cmpR op_isN (pv 1) pe_non (nomark _)) (pw_or1 (pt_val (pe_callB call_isi (by rfl) T.b_isinstance boot_isinstance (pa_cons (pv 1) (pa_cons (pe_bltn (v := .ty "str") (by rfl) T.b_str boot_str rfl) pa_nil)))))))
          (pss_one (ps_ret (pe_and (pe_cmpR op_eq (pv 0) (pv 1) (nomark _)) (pe_one (pe_cmpR op_eq (pe_callB call_isi (by rfl) T.b_isinstance boot_isinstance (pa_cons (pv 0) (pa_cons (pe_bltn (v := .ty "str") (by rfl) T.b_str boot_str rfl) pa_nil))) (pe_callB call_isi (by rfl) T.b_isinstance boot_isinstance (pa_cons (pv 1) (pa_cons (pe_bltn (v := .ty "str") (by rfl) T.b_str boot_str rfl) pa_nil))) (nomark _)))))) pss_nil)
        (pss_one ps_never)), ?_⟩
    have tyN : ∀ {H : Hp}, TyX K H .non (.type "NoneType") := .base .non
    have anyN : PySem.W.kitAny K (.type "NoneType") [.type "tuple", .type "list"] = some false := kitAny_cons (b := false) (kit_ty (by decide +kernel)) (fun _ => kitAny_cons (b := false) (kit_ty (by decide +kernel)) (fun _ => kitAny_nil) fun z => by cases z) fun z => by cases z
    refine ⟨.non, rfl, by show 2 ≤ sizeLine; decide, fun t nt => ?_⟩
    have g1 : Gr H (upd H t (.tup [.ty "tuple", .ty "list"])) := Gx.new nt
    refine ⟨.non, t, _, .type "NoneType", _, false, rfl, upd_same, .cons (.ty _) (.cons (.ty _) .nil), tyN, anyN, false, rfl, iteF ?_⟩
    refine ⟨.non, rfl, rfl, _, rfl, ?_⟩
    rw [show decide (V.non = V.non) = true by simp]
    refine iteT ⟨.non, rfl, .non, rfl, rfl, _, rfl, ?_⟩
    rw [show decide (V.non = V.non) = true by simp]
    refine iteT ⟨.non, rfl, .non, .ty "str", _, _, false, rfl, .ty _, tyN, kit_ty (by decide +kernel), .non, rfl, .non, .ty "str", _, _, false, rfl, .ty _, tyN, kit_ty (by decide +kernel), rfl, ?_⟩
    rw [show decide (V.bl false = V.bl false) = true by simp]
    exact q _ g1
def sp_alike_bl : Sp := fun vs H Q _ => ∃ b, vs = [.bl b, .bl b] ∧ ∀ H', Gr H H' → Q (.bl true) H'
theorem ok_alike_bl (T : Txt K mg base) : FnOk P w K mg base CX0 1 T.law_alike.f T.law_alike.fd p_law_alike sp_alike_bl := by
  refine T.law_alike.F.ok sc_law_alike (fun vs H Q E h => ?_) (fun A outer s H vs Q E hr h => ?_)
  · obtain ⟨_, rfl, _⟩ := h
    rfl
  · obtain ⟨b, rfl, q⟩ := h
    refine ⟨_, pss_cons (ps_if (pt_val (pe_callB call_isiT (by rfl) T.b_isinstance boot_isinstance (pa_cons (pv 1) (pa_cons (pe_tup (pa_cons (pe_bltn (v := .ty "tuple") (by rfl) T.b_tuple boot_tuple rfl) (pa_cons (pe_bltn (v := .ty "list") (by rfl) T.b_list boot_list rfl) pa_nil))) pa_nil)))) (pss_cons ps_never (pss_cons ps_never (pss_one ps_never))) pss_nil)
        (pss_cons (ps_if (PW.pt (pw_or (pt_cmpR op_isN (pv 1) pe_non (nomark _)) (pw_or1 (pt_val (pe_callB call_isi (by rfl) T.b_isinstance boot_isinstance (pa_cons (pv 1) (pa_cons (pe_bltn (v := .ty "str") (by rfl) T.b_str boot_str rfl) pa_nil))))))) (pss_one ps_never) pss_nil)
        (pss_one (ps_ret (pe_and (pe_callB call_isi (by rfl) T.b_isinstance boot_isinstance (pa_cons (pv 0) (pa_cons (pe_bltn (v := .ty "int") (by rfl) T.b_int boot_int rfl) pa_nil)))
          (pe_and (pe_cmpR op_eq (pe_callB call_isi (by rfl) T.b_isinstance boot_isinstance (pa_cons (pv 0) (pa_cons (pe_bltn (v := .ty "bool") (by rfl) T.b_bool boot_bool rfl) pa_nil))) (pe_callB call_isi (by rfl) T.b_isinstance boot_isinstance (pa_cons (pv 1) (pa_cons (pe_bltn (v := .ty "bool") (by rfl) T.b_bool boot_bool rfl) pa_nil))) (nomark _))
            (pe_one (pe_cmpR op_eq (pv 0) (pv 1) (nomark _)))))))), ?_⟩
    have tyB : ∀ {H : Hp}, TyX K H (.bl b) (.type "bool") := .base (.bl b)
    have anyB : PySem.W.kitAny K (.type "bool") [.type "tuple", .type "list"] = some false := kitAny_cons (b := false) (kit_ty (by decide +kernel)) (fun _ => kitAny_cons (b := false) (kit_ty (by decide +kernel)) (fun _ => kitAny_nil) fun z => by cases z) fun z => by cases z
    refine ⟨.bl b, rfl, by show 2 ≤ sizeLine; decide, fun t nt => ?_⟩
    have g1 : Gr H (upd H t (.tup [.ty "tuple", .ty "list"])) := Gx.new nt
    refine ⟨.bl b, t, _, .type "bool", _, false, rfl, upd_same, .cons (.ty _) (.cons (.ty _) .nil), tyB, anyB, false, rfl, iteF ?_⟩
    refine ⟨.bl b, rfl, rfl, _, rfl, ?_⟩
    rw [show decide (V.bl b = V.non) = false by simp]
    refine iteF ⟨.bl b, rfl, .bl b, .ty "str", _, _, false, rfl, .ty _, tyB, kit_ty (by decide +kernel), false, rfl, iteF ?_⟩
    refine ⟨.bl b, rfl, .bl b, .ty "int", _, _, true, rfl, .ty _, tyB, kit_ty (by decide +kernel), true, rfl, iteT ?_⟩
    refine ⟨.bl b, rfl, .bl b, .ty "bool", _, _, true, rfl, .ty _, tyB, kit_ty (by decide +kernel), .bl b, rfl, .bl b, .ty "bool", _, _, true, rfl, .ty _, tyB, kit_ty (by decide +kernel), rfl, _, rfl, ?_⟩
    rw [decide_eq_true rfl]
    refine iteT ⟨.bl b, rfl, .bl b, rfl, rfl, ?_⟩
    rw [decide_eq_true rfl]
    exact q _ g1

end K66

set_option Elab.async false
set_option linter.all false
namespace MR
theorem ext_get {sz : Nat} (hs : 0 < sz) : ∀ (rows : List (List Int)) (i : Nat), (ext sz rows)[i]? = (rows[i / sz]?).map fun r => r ++ [((i % sz : Nat) : Int)]
  | [], i => by simp [ext]
  | r :: rows, i => by
    have e : ext sz (r :: rows) = ((List.range sz).map fun (v : Nat) => r ++ [(v : Int)]) ++ ext sz rows := by
      unfold ext
      rw [List.flatMap_cons]
    rw [e]
    by_cases h : i < sz
    · rw [List.getElem?_append_left (by rw [List.length_map, List.length_range]; exact h), Nat.div_eq_of_lt h, Nat.mod_eq_of_lt h, List.getElem?_map, List.getElem?_range h]
      rfl
    · rw [List.getElem?_append_right (by rw [List.length_map, List.length_range]; omega), List.length_map, List.length_range, ext_get hs rows (i - sz)]
      have e1 : i = (i - sz) + sz := by omega
      have e2 : i / sz = (i - sz) / sz + 1 := by
        conv => lhs; rw [e1]
        exact Nat.add_div_right _ hs
      have e3 : i % sz = (i - sz) % sz := by
        conv => lhs; rw [e1]
        exact Nat.add_mod_right _ _
      rw [e2, e3]
      rfl
theorem idx_row {sz : Nat} (hs : 0 < sz) : ∀ {n i : Nat} {r : List Int}, (allRows sz n)[i]? = some r → idxI sz r = (i : Int)
  | 0, i, r, h => by
    cases i with
    | zero =>
      have : r = [] := by simpa [allRows] using h.symm
      subst this
      rfl
    | succ i => simp [allRows] at h
  | n + 1, i, r, h => by
    have h' : ((allRows sz n)[i / sz]?).map (fun r => r ++ [((i % sz : Nat) : Int)]) = some r := by
      rw [← ext_get hs]
      exact h
    obtain ⟨q, hq, rfl⟩ := Option.map_eq_some_iff.mp h'
    rw [idxI_app, idx_row hs hq]
    have := Nat.div_add_mod i sz
    have e : (i : Int) = ((sz * (i / sz) + i % sz : Nat) : Int) := by rw [this]
    rw [e, Int.natCast_add, Int.natCast_mul, Int.mul_comm]
end MR

set_option Elab.async false
set_option linter.all false
namespace MR
/-! the rests of a table, argument by argument -/
def partAt (sz : Nat) (r : List Int) (v : Nat) : List Int := (r.drop (v * (r.length / sz))).take (r.length / sz)
def partsOf (sz : Nat) (r : List Int) : List (List Int) := (List.range sz).map (partAt sz r)
def addK (ks : List (List Int)) (r : List Int) : List (List Int) := if r ∈ ks then ks else ks ++ [r]
def keysOf (PP : List (List (List Int))) : List (List Int) := PP.flatten.foldl addK []
def idxIn (ks : List (List Int)) (r : List Int) : Int := ((ks.idxOf r : Nat) : Int)
def stepL (sz : Nat) (R : List (List Int)) : List (List Int) := R.map fun r => (partsOf sz r).map fun p => idxIn (keysOf (R.map (partsOf sz))) p
def lastL (sz : Nat) (R : List (List Int)) : List (List Int) := R.map fun r => (partsOf sz r).map fun p => p.getD 0 0
def stepsFrom (sz : Nat) : Nat → List (List Int) → List (List (List Int))
  | 0, _ => []
  | 1, R => [lastL sz R]
  | m + 2, R => stepL sz R :: stepsFrom sz (m + 1) (keysOf (R.map (partsOf sz)))
theorem mem_addK {ks : List (List Int)} {r x : List Int} : x ∈ addK ks r ↔ x ∈ ks ∨ x = r := by
  unfold addK
  by_cases h : r ∈ ks
  · rw [if_pos h]
    exact ⟨.inl, fun z => z.elim id fun e => e ▸ h⟩
  · rw [if_neg h, List.mem_append, List.mem_singleton]
theorem nodup_addK {ks : List (List Int)} {r : List Int} (h : ks.Nodup) : (addK ks r).Nodup := by
  unfold addK
  by_cases q : r ∈ ks
  · rw [if_pos q]
    exact h
  · rw [if_neg q, List.nodup_append]
    refine ⟨h, by simp, fun a ha b hb => ?_⟩
    rw [List.mem_singleton.mp hb]
    rintro rfl
    exact q ha
theorem len_addK {ks : List (List Int)} {r : List Int} : (addK ks r).length ≤ ks.length + 1 := by
  unfold addK
  by_cases q : r ∈ ks
  · rw [if_pos q]
    omega
  · rw [if_neg q, List.length_append]
    exact Nat.le_refl _
theorem mem_foldK : ∀ {l ks : List (List Int)} {x : List Int}, x ∈ l.foldl addK ks ↔ x ∈ ks ∨ x ∈ l
  | [], ks, x => by simp
  | r :: l, ks, x => by
    rw [List.foldl_cons, mem_foldK, mem_addK, List.mem_cons, or_assoc]
theorem nodup_foldK : ∀ {l ks : List (List Int)}, ks.Nodup → (l.foldl addK ks).Nodup
  | [], _, h => h
  | r :: l, ks, h => by
    rw [List.foldl_cons]
    exact nodup_foldK (nodup_addK h)
theorem len_foldK : ∀ {l ks : List (List Int)}, (l.foldl addK ks).length ≤ ks.length + l.length
  | [], ks => by simp
  | r :: l, ks => by
    rw [List.foldl_cons, List.length_cons]
    have := len_foldK (l := l) (ks := addK ks r)
    have := len_addK (ks := ks) (r := r)
    omega
theorem mem_keysOf {PP : List (List (List Int))} {x : List Int} : x ∈ keysOf PP ↔ ∃ P ∈ PP, x ∈ P := by
  unfold keysOf
  rw [mem_foldK, List.mem_flatten]
  simp
theorem nodup_keysOf (PP : List (List (List Int))) : (keysOf PP).Nodup := nodup_foldK List.nodup_nil
theorem partsOf_len (sz : Nat) (r : List Int) : (partsOf sz r).length = sz := by
  unfold partsOf
  rw [List.length_map, List.length_range]
theorem keysOf_len {sz : Nat} {R : List (List Int)} : (keysOf (R.map (partsOf sz))).length ≤ R.length * sz := by
  unfold keysOf
  have h := len_foldK (l := (R.map (partsOf sz)).flatten) (ks := [])
  have e : ((R.map (partsOf sz)).flatten).length = R.length * sz := by
    induction R with
    | nil => simp
    | cons r R ih =>
      rw [List.map_cons, List.flatten_cons, List.length_append, ih len_foldK, partsOf_len, List.length_cons, Nat.add_mul, Nat.one_mul]
      omega
  rw [e] at h
  simpa using h
theorem div_pow {sz m : Nat} (hs : 1 ≤ sz) {n : Nat} (h : n = sz ^ (m + 1)) : n / sz = sz ^ m := by
  rw [h, Nat.pow_succ]
  exact Nat.mul_div_cancel _ (by omega)
theorem partAt_len {sz m v : Nat} (hs : 1 ≤ sz) {r : List Int} (h : r.length = sz ^ (m + 1)) (hv : v < sz) : (partAt sz r v).length = sz ^ m := by
  unfold partAt
  rw [div_pow hs h, List.length_take, List.length_drop, h, Nat.pow_succ]
  have : (v + 1) * sz ^ m ≤ sz ^ m * sz := by rw [Nat.mul_comm (sz ^ m)]; exact Nat.mul_le_mul_right _ hv
  rw [Nat.add_mul, Nat.one_mul] at this
  omega
theorem partAt_get {sz m v i : Nat} (hs : 1 ≤ sz) {r : List Int} (h : r.length = sz ^ (m + 1)) (hi : i < sz ^ m) : (partAt sz r v).getD i 0 = r.getD (v * sz ^ m + i) 0 := by
  unfold partAt
  rw [div_pow hs h, List.getD_eq_getElem?_getD, List.getD_eq_getElem?_getD, List.getElem?_take, if_pos hi, List.getElem?_drop]
theorem mem_partsOf {sz : Nat} {r p : List Int} : p ∈ partsOf sz r ↔ ∃ v, v < sz ∧ p = partAt sz r v := by
  unfold partsOf
  rw [List.mem_map]
  exact ⟨fun ⟨v, hv, e⟩ => ⟨v, List.mem_range.mp hv, e.symm⟩, fun ⟨v, hv, e⟩ => ⟨v, List.mem_range.mpr hv, e.symm⟩⟩
theorem keys_len {sz m : Nat} (hs : 1 ≤ sz) {R : List (List Int)} (h : ∀ r ∈ R, r.length = sz ^ (m + 1)) : ∀ p ∈ keysOf (R.map (partsOf sz)), p.length = sz ^ m := fun p hp => by
  obtain ⟨P, hP, hp⟩ := mem_keysOf.mp hp
  obtain ⟨r, hr, rfl⟩ := List.mem_map.mp hP
  obtain ⟨v, hv, rfl⟩ := mem_partsOf.mp hp
  exact partAt_len hs (h r hr) hv
theorem idxIn_get {ks : List (List Int)} {r : List Int} (h : r ∈ ks) : (idxIn ks r).toNat < ks.length ∧ ks.getD (idxIn ks r).toNat [] = r ∧ 0 ≤ idxIn ks r := by
  unfold idxIn
  have hl := List.idxOf_lt_length_iff.mpr h
  refine ⟨by rw [Int.toNat_natCast]; exact hl, ?_, by omega⟩
  rw [Int.toNat_natCast, List.getD_eq_getElem?_getD, List.getElem?_eq_getElem hl, List.getElem_idxOf hl]
  rfl
/-! walking down the steps -/
def at3 (L : List (List Int)) (n v : Int) : Int := (L.getD n.toNat []).getD v.toNat 0
def walkS : List (List (List Int)) → Int → List Int → Int
  | L :: S, n, v :: vs => walkS S (at3 L n v) vs
  | _, n, _ => n
theorem idxI_cons (sz : Nat) (v : Int) (vs : List Int) : idxI sz (v :: vs) = v * (sz : Int) ^ vs.length + idxI sz vs := by
  have key : ∀ (vs : List Int) (c : Int), vs.foldl (fun (a x : Int) => a * (sz : Int) + x) c = c * (sz : Int) ^ vs.length + vs.foldl (fun (a x : Int) => a * (sz : Int) + x) 0 := by
    intro vs
    induction vs with
    | nil => intro c; simp
    | cons w vs ih =>
      intro c
      rw [List.foldl_cons, List.foldl_cons, ih (c * sz + w), ih (0 * sz + w), List.length_cons, Int.pow_succ, Int.add_mul, Int.zero_mul, Int.zero_add, Int.mul_assoc, Int.mul_comm (sz : Int) ((sz : Int) ^ vs.length)]
      omega
  unfold idxI
  rw [List.foldl_cons, key vs (0 * sz + v), Int.zero_mul, Int.zero_add]
theorem getD_map {α β : Type} {f : α → β} {l : List α} {i : Nat} {d : β} (e : α) (h : i < l.length) : (l.map f).getD i d = f (l.getD i e) := by
  rw [List.getD_eq_getElem?_getD, List.getD_eq_getElem?_getD, List.getElem?_map, List.getElem?_eq_getElem h]
  rfl
theorem partsOf_get {sz : Nat} {r : List Int} {v : Nat} (h : v < sz) : (partsOf sz r).getD v [] = partAt sz r v := by
  unfold partsOf
  rw [getD_map 0 (by rw [List.length_range]; exact h), List.getD_eq_getElem?_getD, List.getElem?_range h]
  rfl
theorem walk_steps {sz : Nat} (hs : 1 ≤ sz) : ∀ {m : Nat} {R : List (List Int)} {n : Int} {args : List Int}, (∀ r ∈ R, r.length = sz ^ (m + 1)) → n.toNat < R.length → args.length = m + 1 → (∀ x ∈ args, 0 ≤ x ∧ x < (sz : Int)) →
    walkS (stepsFrom sz (m + 1) R) n args = (R.getD n.toNat []).getD (idxI sz args).toNat 0
  | 0, R, n, [v], hR, hn, _, ha => by
    have hv := ha v List.mem_cons_self
    have hvn : v.toNat < sz := by omega
    have hr : (R.getD n.toNat []).length = sz ^ (0 + 1) := by
      rw [List.getD_eq_getElem?_getD, List.getElem?_eq_getElem hn]
      exact hR _ (List.getElem_mem hn)
    show at3 (lastL sz R) n v = _
    unfold at3 lastL
    rw [getD_map [] hn, getD_map [] (by rw [partsOf_len]; exact hvn), partsOf_get hvn, partAt_get hs hr (by simp)]
    have e : idxI sz [v] = v := by
      unfold idxI
      simp
    rw [e]
    simp
  | m + 1, R, n, v :: vs, hR, hn, hl, ha => by
    have hv := ha v List.mem_cons_self
    have hvn : v.toNat < sz := by omega
    have hvs : ∀ x ∈ vs, 0 ≤ x ∧ x < (sz : Int) := fun x hx => ha x (List.mem_cons_of_mem _ hx)
    have hl' : vs.length = m + 1 := by simpa using hl
    have hrm : R.getD n.toNat [] ∈ R := by
      rw [List.getD_eq_getElem?_getD, List.getElem?_eq_getElem hn]
      exact List.getElem_mem hn
    have hr := hR _ hrm
    show walkS (stepsFrom sz (m + 1) (keysOf (R.map (partsOf sz)))) (at3 (stepL sz R) n v) vs = _
    have e1 : at3 (stepL sz R) n v = idxIn (keysOf (R.map (partsOf sz))) (partAt sz (R.getD n.toNat []) v.toNat) := by
      unfold at3 stepL
      rw [getD_map [] hn, getD_map [] (by rw [partsOf_len]; exact hvn), partsOf_get hvn]
    have hm : partAt sz (R.getD n.toNat []) v.toNat ∈ keysOf (R.map (partsOf sz)) := mem_keysOf.mpr ⟨_, List.mem_map.mpr ⟨_, hrm, rfl⟩, mem_partsOf.mpr ⟨_, hvn, rfl⟩⟩
    obtain ⟨i1, i2, i3⟩ := idxIn_get hm
    have hb := idxI_nat hvs
    have h0 := (idxI_bd vs hvs).1
    rw [e1, walk_steps hs (keys_len hs hR) i1 hl' hvs, i2, partAt_get hs hr (by rw [← hl']; exact hb), idxI_cons, hl']
    congr 1
    have e2 : v = (v.toNat : Int) := by omega
    have e3 : idxI sz vs = ((idxI sz vs).toNat : Int) := by omega
    rw [e3, e2, ← Int.natCast_pow, ← Int.natCast_mul, ← Int.natCast_add, Int.toNat_natCast, Int.toNat_natCast, Int.toNat_natCast]
/-- the steps' numbers stand within the next step -/
def okS (sz : Nat) : List (List (List Int)) → Nat → Prop
  | [], _ => True
  | L :: S, w => L.length = w ∧ (∀ row ∈ L, row.length = sz) ∧ ∃ w' : Nat, (∀ row ∈ L, ∀ x ∈ row, S ≠ [] → 0 ≤ x ∧ x < (w' : Int)) ∧ okS sz S w'
theorem okS_steps {sz : Nat} : ∀ {m : Nat} (R : List (List Int)), okS sz (stepsFrom sz (m + 1) R) R.length
  | 0, R => by
    refine ⟨by unfold lastL; rw [List.length_map], fun row h => ?_, 0, fun row _ x _ q => absurd rfl q, trivial⟩
    obtain ⟨r, _, rfl⟩ := List.mem_map.mp h
    rw [List.length_map, partsOf_len]
  | m + 1, R => by
    refine ⟨by unfold stepL; rw [List.length_map], fun row h => ?_, (keysOf (R.map (partsOf sz))).length, fun row h x hx _ => ?_, okS_steps _⟩
    · obtain ⟨r, _, rfl⟩ := List.mem_map.mp h
      rw [List.length_map, partsOf_len]
    · obtain ⟨r, hr, rfl⟩ := List.mem_map.mp h
      obtain ⟨p, hp, rfl⟩ := List.mem_map.mp hx
      obtain ⟨i1, _, i3⟩ := idxIn_get (mem_keysOf.mpr ⟨_, List.mem_map.mpr ⟨r, hr, rfl⟩, hp⟩)
      omega
theorem stepsFrom_len {sz : Nat} : ∀ {m : Nat} {R : List (List Int)}, (stepsFrom sz (m + 1) R).length = m + 1
  | 0, R => rfl
  | m + 1, R => by
    show (stepsFrom sz (m + 1) _).length + 1 = _
    rw [stepsFrom_len]
/-! the search for the least tuple of rows that is carried out -/
def stepSt (L : List (List Int)) (st r : List Int) : List Int := List.zipWith (at3 L) st r
def srch (rows : List (List Int)) : List (List (List Int)) → List Int → Option (List (List Int))
  | [], st => if st ∈ rows then none else some []
  | L :: S, st => rows.findSome? fun r => (srch rows S (stepSt L st r)).map (r :: ·)
def finalSt : List (List (List Int)) → List Int → List (List Int) → List Int
  | L :: S, st, r :: t => finalSt S (stepSt L st r) t
  | _, st, _ => st
def tuples (rows : List (List Int)) : Nat → List (List (List Int))
  | 0 => [[]]
  | n + 1 => rows.flatMap fun r => (tuples rows n).map (r :: ·)
theorem srch_find (rows : List (List Int)) : ∀ (S : List (List (List Int))) (st : List Int), srch rows S st = (tuples rows S.length).find? fun t => decide (finalSt S st t ∉ rows)
  | [], st => by
    show (if st ∈ rows then none else some []) = [[]].find? _
    by_cases h : st ∈ rows
    · rw [if_pos h, List.find?_cons_of_neg (by simp [finalSt, h])]
      rfl
    · rw [if_neg h, List.find?_cons_of_pos (by simp [finalSt, h])]
  | L :: S, st => by
    show (rows.findSome? fun r => (srch rows S (stepSt L st r)).map (r :: ·)) = (rows.flatMap fun r => (tuples rows S.length).map (r :: ·)).find? _
    rw [List.find?_flatMap]
    congr 1
    funext r
    rw [List.find?_map, srch_find rows S (stepSt L st r)]
    rfl
theorem stepSt_range {L : List (List Int)} {ar : Nat} {f : Nat → Int} {r : List Int} (h : r.length = ar) : stepSt L ((List.range ar).map f) r = (List.range ar).map fun a => at3 L (f a) (r.getD a 0) := by
  unfold stepSt
  refine List.ext_getElem? fun i => ?_
  rw [List.getElem?_zipWith, List.getElem?_map, List.getElem?_map]
  by_cases hi : i < ar
  · have hr : i < r.length := by omega
    have e : r.getD i 0 = r[i] := by
      rw [List.getD_eq_getElem?_getD, List.getElem?_eq_getElem hr]
      rfl
    rw [List.getElem?_range hi, List.getElem?_eq_getElem hr]
    show some (at3 L (f i) r[i]) = some (at3 L (f i) (r.getD i 0))
    rw [e]
  · rw [List.getElem?_eq_none (by rw [List.length_range]; omega)]
    rfl
theorem finalSt_range {ar : Nat} : ∀ {S : List (List (List Int))} {f : Nat → Int} {t : List (List Int)}, (∀ r ∈ t, r.length = ar) → t.length = S.length → finalSt S ((List.range ar).map f) t = (List.range ar).map fun a => walkS S (f a) (t.map fun r => r.getD a 0)
  | [], f, [], _, _ => rfl
  | L :: S, f, r :: t, h, hl => by
    show finalSt S (stepSt L _ r) t = _
    rw [stepSt_range (h r List.mem_cons_self), finalSt_range (fun q hq => h q (List.mem_cons_of_mem _ hq)) (by simpa using hl)]
    rfl
theorem mem_tuples {rows : List (List Int)} : ∀ {n : Nat} {t : List (List Int)}, t ∈ tuples rows n → t.length = n ∧ ∀ r ∈ t, r ∈ rows
  | 0, t, h => by
    have : t = [] := by simpa [tuples] using h
    subst this
    exact ⟨rfl, fun r hr => by simp at hr⟩
  | n + 1, t, h => by
    obtain ⟨r, hr, h⟩ := List.mem_flatMap.mp h
    obtain ⟨t', ht, rfl⟩ := List.mem_map.mp h
    obtain ⟨h1, h2⟩ := mem_tuples ht
    exact ⟨by rw [List.length_cons, h1], fun q hq => (List.mem_cons.mp hq).elim (fun e => e ▸ hr) (h2 q)⟩
theorem find_congr {α : Type} {p q : α → Bool} : ∀ {l : List α}, (∀ x ∈ l, p x = q x) → l.find? p = l.find? q
  | [], _ => rfl
  | x :: l, h => by
    rw [List.find?_cons, List.find?_cons, h x List.mem_cons_self, find_congr fun y hy => h y (List.mem_cons_of_mem _ hy)]
/-- the least tuple of rows that is carried out, None if there is none -/
def breakOf (sz : Nat) (tab : List Int) (k ar : Nat) (rows : List (List Int)) : Option (List (List Int)) := (tuples rows k).find? fun t => decide (carried sz tab t ar ∉ rows)
theorem srch_break {sz k ar : Nat} {tab : List Int} {rows : List (List Int)} (hs : 1 ≤ sz) (hk : 1 ≤ k) (ht : tab.length = sz ^ k) (hr : ∀ r ∈ rows, r.length = ar ∧ ∀ x ∈ r, 0 ≤ x ∧ x < (sz : Int)) :
    srch rows (stepsFrom sz k [tab]) ((List.range ar).map fun _ => 0) = breakOf sz tab k ar rows := by
  obtain ⟨m, rfl⟩ : ∃ m, k = m + 1 := ⟨k - 1, by omega⟩
  rw [srch_find, stepsFrom_len]
  unfold breakOf
  refine find_congr fun t h => ?_
  obtain ⟨h1, h2⟩ := mem_tuples h
  rw [finalSt_range (fun r q => (hr r (h2 r q)).1) (by rw [h1, stepsFrom_len])]
  unfold carried
  · have e : ((List.range ar).map fun a => walkS (stepsFrom sz (m + 1) [tab]) 0 (t.map fun r => r.getD a 0)) = (List.range ar).map fun a => tab.getD (idxI sz (t.map fun r => r.getD a 0)).toNat 0 := by
      refine List.map_congr_left fun a ha => ?_
      have ha := List.mem_range.mp ha
      rw [walk_steps hs (fun r q => by rw [List.mem_singleton.mp q, ht]) (by simp) (by rw [List.length_map, h1]) fun x hx => ?_]
      · rfl
      · obtain ⟨r, hr', rfl⟩ := List.mem_map.mp hx
        obtain ⟨e1, e2⟩ := hr r (h2 r hr')
        rw [List.getD_eq_getElem?_getD, List.getElem?_eq_getElem (show a < r.length by omega)]
        exact e2 _ (List.getElem_mem _)
    exact congrArg (fun z => decide (z ∉ rows)) e
/-! tuples by appending -/
def extT (rows : List (List Int)) (A : List (List (List Int))) : List (List (List Int)) := A.flatMap fun t => rows.map fun x => t ++ [x]
def tuplesR (rows : List (List Int)) : Nat → List (List (List Int))
  | 0 => [[]]
  | n + 1 => extT rows (tuplesR rows n)
theorem extT_cons {rows : List (List Int)} {r : List Int} {A : List (List (List Int))} : extT rows (A.map (r :: ·)) = (extT rows A).map (r :: ·) := by
  unfold extT
  rw [List.flatMap_map, List.map_flatMap]
  congr 1
  funext t
  rw [List.map_map]
  rfl
theorem extT_flat {rows : List (List Int)} {β : Type} {l : List β} {f : β → List (List (List Int))} : extT rows (l.flatMap f) = l.flatMap fun b => extT rows (f b) := by
  unfold extT
  rw [List.flatMap_assoc]
theorem tuples_ext (rows : List (List Int)) : ∀ n, tuples rows (n + 1) = extT rows (tuples rows n)
  | 0 => by
    show (rows.flatMap fun r => [[]].map (r :: ·)) = [[]].flatMap fun t => rows.map fun x => t ++ [x]
    simp [List.flatMap]
    induction rows with
    | nil => rfl
    | cons r rows ih => simp [ih]
  | n + 1 => by
    show (rows.flatMap fun r => (tuples rows (n + 1)).map (r :: ·)) = extT rows (rows.flatMap fun r => (tuples rows n).map (r :: ·))
    rw [extT_flat]
    congr 1
    funext r
    rw [tuples_ext rows n, extT_cons]
theorem tuplesR_eq (rows : List (List Int)) : ∀ n, tuplesR rows n = tuples rows n
  | 0 => rfl
  | n + 1 => by
    show extT rows (tuplesR rows n) = _
    rw [tuplesR_eq rows n, tuples_ext]
theorem tuples_len (rows : List (List Int)) : ∀ n, (tuples rows n).length = rows.length ^ n
  | 0 => rfl
  | n + 1 => by
    show (rows.flatMap fun r => (tuples rows n).map (r :: ·)).length = _
    rw [List.length_flatMap]
    have : (rows.map fun r => ((tuples rows n).map (r :: ·)).length) = rows.map fun _ => rows.length ^ n := by
      refine List.map_congr_left fun r _ => ?_
      rw [List.length_map, tuples_len rows n]
    rw [this, Nat.pow_succ, Nat.mul_comm]
    generalize rows.length ^ n = c
    clear this
    induction rows with
    | nil => simp
    | cons r rows ih => rw [List.map_cons, List.sum_cons, ih, List.length_cons, Nat.add_mul]; omega
/-! as many rows as there are -/
theorem len_le_of_sub : ∀ {l m : List (List Int)}, l.Nodup → (∀ x ∈ l, x ∈ m) → l.length ≤ m.length
  | [], _, _, _ => Nat.zero_le _
  | a :: l, m, nd, h => by
    obtain ⟨h1, h2⟩ := List.nodup_cons.mp nd
    have ha := h a List.mem_cons_self
    have := len_le_of_sub (m := m.erase a) h2 fun x hx => (List.mem_erase_of_ne (fun (e : x = a) => h1 (by rw [← e]; exact hx))).mpr (h x (List.mem_cons_of_mem _ hx))
    rw [List.length_erase_of_mem ha] at this
    have : 0 < m.length := List.length_pos_of_mem ha
    rw [List.length_cons]
    omega
theorem all_of_len {l m : List (List Int)} (nd : l.Nodup) (h : ∀ x ∈ l, x ∈ m) (hl : m.length ≤ l.length) : ∀ x ∈ m, x ∈ l := fun x hx => by
  by_cases q : x ∈ l
  · exact q
  · have := len_le_of_sub (l := x :: l) (m := m) (List.nodup_cons.mpr ⟨q, nd⟩) fun y hy => (List.mem_cons.mp hy).elim (fun e => e ▸ hx) (h y)
    rw [List.length_cons] at this
    omega
theorem mem_allRows {sz : Nat} : ∀ {n : Nat} {r : List Int}, r.length = n → (∀ x ∈ r, 0 ≤ x ∧ x < (sz : Int)) → r ∈ allRows sz n
  | 0, r, h, _ => by
    have : r = [] := List.length_eq_zero_iff.mp h
    subst this
    exact List.mem_singleton.mpr rfl
  | n + 1, r, h, hx => by
    have hne : r ≠ [] := fun z => by simp [z] at h
    have e := List.dropLast_concat_getLast hne
    have hl := hx _ (List.getLast_mem hne)
    rw [← e]
    exact mem_ext.mpr ⟨r.dropLast, mem_allRows (by rw [List.length_dropLast, h]; rfl) fun x q => hx x ((List.dropLast_sublist r).subset q), (r.getLast hne).toNat, by omega, by congr 2; omega⟩
theorem full_no_break {sz k ar : Nat} {tab : List Int} {rows : List (List Int)} (hs : 1 ≤ sz) (hv : ∀ x ∈ tab, 0 ≤ x ∧ x < (sz : Int)) (nd : rows.Nodup) (hr : ∀ r ∈ rows, r.length = ar ∧ ∀ x ∈ r, 0 ≤ x ∧ x < (sz : Int)) (hl : rows.length = sz ^ ar) : breakOf sz tab k ar rows = none := by
  unfold breakOf
  refine List.find?_eq_none.mpr fun t _ q => ?_
  have q : carried sz tab t ar ∉ rows := of_decide_eq_true q
  exact q (all_of_len nd (fun x hx => mem_allRows (hr x hx).1 (hr x hx).2) (by rw [allRows_len, hl]; exact Nat.le_refl _) _ (mem_allRows (carried_len sz tab t ar) (carried_ok hv hs)))
end MR

set_option Elab.async false
set_option linter.all false
namespace MR
/-- what the operation makes of rows is a row -/
def Shut (sz k : Nat) (tab : List Int) (ar : Nat) (rs : List (List Int)) : Prop := ∀ t : List (List Int), t.length = k → (∀ r ∈ t, r ∈ rs) → carried sz tab t ar ∈ rs
def Over (sz k : Nat) (tab : List Int) (ar : Nat) (rows S : List (List Int)) : Prop := (∀ r ∈ rows, r ∈ S) ∧ Shut sz k tab ar S
/-- the closure of rows -/
structure Least (sz k : Nat) (tab : List Int) (ar : Nat) (rows rs : List (List Int)) : Prop where
  sub : ∀ r ∈ rows, r ∈ rs
  shut : Shut sz k tab ar rs
  least : ∀ S, Over sz k tab ar rows S → ∀ r ∈ rs, r ∈ S
theorem Shut.perm {sz k : Nat} {tab : List Int} {ar : Nat} {rs keys : List (List Int)} (p : rs.Perm keys) (h : Shut sz k tab ar keys) : Shut sz k tab ar rs := fun t tl tr => p.mem_iff.mpr (h t tl fun r hr => p.mem_iff.mp (tr r hr))
theorem Least.of {sz k : Nat} {tab : List Int} {ar : Nat} {rows rs keys : List (List Int)} (p : rs.Perm keys) (h : Shut sz k tab ar keys) (s : ∀ r ∈ rows, r ∈ keys) (l : ∀ S, Over sz k tab ar rows S → ∀ r ∈ keys, r ∈ S) : Least sz k tab ar rows rs :=
  ⟨fun r hr => p.mem_iff.mpr (s r hr), h.perm p, fun S o r hr => l S o r (p.mem_iff.mp hr)⟩
theorem tuples_mem {rows : List (List Int)} : ∀ {n : Nat} {t : List (List Int)}, t.length = n → (∀ r ∈ t, r ∈ rows) → t ∈ tuples rows n
  | 0, t, h, _ => by
    rw [List.length_eq_zero_iff.mp h]
    simp [tuples]
  | n + 1, [], h, _ => by simp at h
  | n + 1, r :: t, h, q => by
    simp only [tuples, List.mem_flatMap, List.mem_map]
    exact ⟨r, q r List.mem_cons_self, t, tuples_mem (by simpa using h) (fun x hx => q x (List.mem_cons_of_mem _ hx)), rfl⟩
theorem shut_no_break {sz k ar : Nat} {tab : List Int} {rows : List (List Int)} (h : Shut sz k tab ar rows) : breakOf sz tab k ar rows = none := by
  unfold breakOf
  refine List.find?_eq_none.mpr fun t ht z => ?_
  obtain ⟨tl, tr⟩ := mem_tuples ht
  exact (of_decide_eq_true z) (h t tl tr)
end MR

set_option Elab.async false
set_option linter.all false
namespace MR
theorem carried_getD {sz ar a : Nat} {tab : List Int} {t : List (List Int)} (h : a < ar) : (carried sz tab t ar).getD a 0 = tab.getD (idxI sz (t.map fun r => r.getD a 0)).toNat 0 := by
  unfold carried
  rw [List.getD_eq_getElem?_getD, List.getElem?_map, List.getElem?_range h]
  rfl
theorem shut_both {sz k ar : Nat} {tab : List Int} {r1 r2 : List (List Int)} (h1 : Shut sz k tab ar r1) (h2 : Shut sz k tab ar r2) : Shut sz k tab ar (r1.filter fun r => decide (r ∈ r2)) := fun t tl tr => by
  refine List.mem_filter.mpr ⟨h1 t tl fun r hr => (List.mem_filter.mp (tr r hr)).1, ?_⟩
  exact decide_eq_true (h2 t tl fun r hr => of_decide_eq_true (List.mem_filter.mp (tr r hr)).2)
theorem shut_glue {sz k ar a b : Nat} {tab : List Int} {rows : List (List Int)} (h : Shut sz k tab ar rows) (ha : a < ar) (hb : b < ar) : Shut sz k tab ar (glue rows a b) := fun t tl tr => by
  refine List.mem_filter.mpr ⟨h t tl fun r hr => (List.mem_filter.mp (tr r hr)).1, decide_eq_true ?_⟩
  rw [carried_getD ha, carried_getD hb]
  have e : (t.map fun r => r.getD a 0) = t.map fun r => r.getD b 0 := List.map_congr_left fun r hr => of_decide_eq_true (List.mem_filter.mp (tr r hr)).2
  rw [e]
theorem choose_all {α β : Type} {f : α → β} {rows : List α} : ∀ {t : List β}, (∀ x ∈ t, x ∈ rows.map f) → ∃ t' : List α, t = t'.map f ∧ ∀ r ∈ t', r ∈ rows
  | [], _ => ⟨[], rfl, fun r hr => by simp at hr⟩
  | x :: t, h => by
    obtain ⟨r, hr, e⟩ := List.mem_map.mp (h x List.mem_cons_self)
    obtain ⟨t', e', h'⟩ := choose_all fun y hy => h y (List.mem_cons_of_mem _ hy)
    exact ⟨r :: t', by rw [List.map_cons, e, ← e'], fun q hq => (List.mem_cons.mp hq).elim (fun z => z ▸ hr) (h' q)⟩
theorem shut_pick {sz k ar : Nat} {tab : List Int} {rows qs : List (List Int)} {ps : List Nat} (h : Shut sz k tab ar rows) (hp : ∀ p ∈ ps, p < ar) (hq : ∀ x, x ∈ qs ↔ x ∈ rows.map fun r => ps.map fun p => r.getD p 0) : Shut sz k tab ps.length qs := fun t tl tr => by
  obtain ⟨t', rfl, h'⟩ := choose_all fun x hx => (hq x).mp (tr x hx)
  rw [List.length_map] at tl
  refine (hq _).mpr (List.mem_map.mpr ⟨carried sz tab t' ar, h t' tl h', ?_⟩)
  have e2 : carried sz tab (t'.map fun r => ps.map fun p => r.getD p 0) ps.length = (List.range ps.length).map fun i => tab.getD (idxI sz (t'.map fun r => r.getD (ps.getD i 0) 0)).toNat 0 := by
    unfold carried
    refine List.map_congr_left fun i hi => ?_
    have hi := List.mem_range.mp hi
    rw [List.map_map]
    have e : ((fun r : List Int => r.getD i 0) ∘ fun r : List Int => ps.map fun p => r.getD p 0) = fun r : List Int => r.getD (ps.getD i 0) 0 := by
      funext r
      show (ps.map fun p => r.getD p 0).getD i 0 = _
      rw [List.getD_eq_getElem?_getD, List.getElem?_map, List.getElem?_eq_getElem hi, List.getD_eq_getElem?_getD (l := ps), List.getElem?_eq_getElem hi]
      rfl
    rw [e]
  rw [e2]
  refine List.ext_getElem (by rw [List.length_map, List.length_map, List.length_range]) fun i h1 h2 => ?_
  rw [List.length_map] at h1
  rw [List.getElem_map, List.getElem_map, List.getElem_range, carried_getD (hp _ (List.getElem_mem h1)), List.getD_eq_getElem?_getD (l := ps), List.getElem?_eq_getElem h1]
  rfl
theorem shut_prod {sz k ar br : Nat} {tab : List Int} {r1 r2 : List (List Int)} (h1 : Shut sz k tab ar r1) (h2 : Shut sz k tab br r2) (l1 : ∀ r ∈ r1, r.length = ar) (l2 : ∀ r ∈ r2, r.length = br) : Shut sz k tab (ar + br) (prod r1 r2) := fun t tl tr => by
  have parts : ∀ r ∈ t, r.take ar ∈ r1 ∧ r.drop ar ∈ r2 := fun r hr => by
    obtain ⟨a, ha, z⟩ := List.mem_flatMap.mp (tr r hr)
    obtain ⟨b, hb, rfl⟩ := List.mem_map.mp z
    rw [← l1 a ha, List.take_left, List.drop_left]
    exact ⟨ha, hb⟩
  have c1 := h1 (t.map fun r => r.take ar) (by rw [List.length_map]; exact tl) fun r hr => by
    obtain ⟨q, hq, rfl⟩ := List.mem_map.mp hr
    exact (parts q hq).1
  have c2 := h2 (t.map fun r => r.drop ar) (by rw [List.length_map]; exact tl) fun r hr => by
    obtain ⟨q, hq, rfl⟩ := List.mem_map.mp hr
    exact (parts q hq).2
  refine List.mem_flatMap.mpr ⟨_, c1, List.mem_map.mpr ⟨_, c2, ?_⟩⟩
  unfold carried
  rw [List.range_add, List.map_append]
  congr 1
  · refine List.map_congr_left fun a ha => ?_
    rw [List.map_map]
    have e : ((fun r : List Int => r.getD a 0) ∘ fun r : List Int => r.take ar) = fun r : List Int => r.getD a 0 := by
      funext r
      show (r.take ar).getD a 0 = _
      rw [List.getD_eq_getElem?_getD, List.getElem?_take, if_pos (List.mem_range.mp ha), List.getD_eq_getElem?_getD]
    rw [e]
  · rw [List.map_map]
    refine List.map_congr_left fun a ha => ?_
    rw [List.map_map]
    have e : ((fun r : List Int => r.getD a 0) ∘ fun r : List Int => r.drop ar) = fun r : List Int => r.getD (ar + a) 0 := by
      funext r
      show (r.drop ar).getD a 0 = _
      rw [List.getD_eq_getElem?_getD, List.getElem?_drop, List.getD_eq_getElem?_getD]
    rw [e]
    rfl
theorem shut_full {sz k ar : Nat} {tab : List Int} (hs : 1 ≤ sz) (hv : ∀ x ∈ tab, 0 ≤ x ∧ x < (sz : Int)) : Shut sz k tab ar (allRows sz ar) := fun t _ _ => mem_allRows (carried_len sz tab t ar) (carried_ok hv hs)
end MR

set_option Elab.async false
set_option linter.all false
namespace MR
open PySem PySem.Spec PyProof.Rows L2
abbrev Asc (l : List (List Int)) : Prop := l.Pairwise fun r q => HT.lexLt r q = true
theorem lex_same (x y : List Int) : ∀ r : List Int, HT.lexLt (r ++ x) (r ++ y) = HT.lexLt x y
  | [] => rfl
  | a :: r => by rw [List.cons_append, List.cons_append, HT.lexLt_cons, if_pos rfl, lex_same x y r]
theorem lex_app (x y : List Int) : ∀ {r q : List Int}, r.length = q.length → HT.lexLt r q = true → HT.lexLt (r ++ x) (q ++ y) = true
  | [], [], _, h => by
    rw [lex_irr] at h
    cases h
  | [], _ :: _, h, _ => by simp at h
  | _ :: _, [], h, _ => by simp at h
  | a :: r, b :: q, hl, h => by
    rw [HT.lexLt_cons] at h
    rw [List.cons_append, List.cons_append, HT.lexLt_cons]
    by_cases e : a = b
    · rw [if_pos e] at h ⊢
      exact lex_app x y (by simpa using hl) h
    · rw [if_neg e] at h ⊢
      exact h
theorem asc_flat {l : List (List Int)} {n : Nat} {f : List Int → List (List Int)} (hl : ∀ r ∈ l, r.length = n) (h : Asc l) (hf : ∀ r ∈ l, Asc (f r)) (hs : ∀ r ∈ l, ∀ x ∈ f r, ∃ y, x = r ++ y) : Asc (l.flatMap f) := by
  refine List.pairwise_flatMap.mpr ⟨hf, ?_⟩
  refine List.Pairwise.imp_of_mem (fun {a b} ha hb hab x hx y hy => ?_) h
  obtain ⟨x', rfl⟩ := hs a ha x hx
  obtain ⟨y', rfl⟩ := hs b hb y hy
  exact lex_app x' y' ((hl a ha).trans (hl b hb).symm) hab
theorem prod_asc {r1 r2 : List (List Int)} {n : Nat} (hl : ∀ r ∈ r1, r.length = n) (h1 : Asc r1) (h2 : Asc r2) : Asc (prod r1 r2) :=
  asc_flat hl h1 (fun r _ => List.pairwise_map.mpr (h2.imp fun {a b} h => by rw [lex_same]; exact h)) fun r _ x hx => by
    obtain ⟨y, _, rfl⟩ := List.mem_map.mp hx
    exact ⟨y, rfl⟩
theorem allRows_asc (sz : Nat) : ∀ n, Asc (allRows sz n)
  | 0 => List.pairwise_singleton _ _
  | n + 1 => asc_flat (n := n) (fun r hr => (allRows_ok hr).1) (allRows_asc sz n) (fun r _ => by
      refine List.pairwise_map.mpr ((List.pairwise_lt_range (n := sz)).imp fun {a b} h => ?_)
      rw [lex_same, HT.lexLt_cons, if_neg (by omega)]
      exact decide_eq_true (by omega)) fun r _ x hx => by
    obtain ⟨y, _, rfl⟩ := List.mem_map.mp hx
    exact ⟨_, rfl⟩
end MR

set_option Elab.async false
set_option linter.all false
set_option maxRecDepth 100000
set_option maxHeartbeats 4000000
namespace K66
open PySem PySem.Spec PyProof.Rows L2 TK MR
variable {P : Program} {w : World} {K : PySem.W.Frag} {mg : Str → Option Value} {base : Heap}
/-- rows with their addresses -/
theorem rows_at {H : Hp} {xs : List V} {rows : List (List Int)} (h : DTs K H xs (rows.map rowD)) : ∃ ks : List (Addr × List Int), xs = ks.map (fun p => V.ref p.1) ∧ ks.map (·.2) = rows ∧ ∀ p ∈ ks, H p.1 = some (.tup (p.2.map V.int)) := by
  induction rows generalizing xs with
  | nil => exact ⟨[], h.nil_inv, rfl, fun p hp => by simp at hp⟩
  | cons r rows ih =>
    obtain ⟨w1, ws, rfl, h1, h2⟩ := h.cons_inv
    obtain ⟨a, rfl, ha⟩ := h1.row_invS
    obtain ⟨ks, e1, e2, e3⟩ := ih h2
    refine ⟨(a, r) :: ks, by rw [e1]; rfl, by rw [← e2]; rfl, fun p hp => ?_⟩
    rcases List.mem_cons.mp hp with rfl | hp
    · exact ha
    · exact e3 p hp
/-- the rows that are in both -/
def both (r1 r2 : List (List Int)) : List (List Int) := r1.filter fun r => decide (r ∈ r2)
/-! meet -/
def sp_meet (T : Txt K mg base) : Sp := fun vs H Q _ => ∃ (sz : Int) (v u : V) (ar : Int) (r1 r2 : List (List Int)), vs = [.int sz, v, u] ∧ (1 ≤ sz ∧ sz ≤ 4) ∧ DT K H v (relD ar r1) ∧ DT K H u (relD ar r2) ∧ TT T.tabs H ∧ RelOk sz ar r1 ∧ RelOk sz ar r2 ∧ r2.length < 64 ∧
  ∀ z H', Gr H H' → DT K H' z (relD ar (both r1 r2)) → Q z H'
end K66

set_option Elab.async false
set_option linter.all false
set_option maxRecDepth 100000
set_option maxHeartbeats 4000000
namespace K66
open PySem PySem.Spec PyProof.Rows L2 TK MR
variable {P : Program} {w : World} {K : PySem.W.Frag} {mg : Str → Option Value} {base : Heap}
/-- a row's entries at some places -/
def pick (ps : List Nat) (r : List Int) : List Int := ps.map fun p => r.getD p 0
theorem pick_len (ps : List Nat) (r : List Int) : (pick ps r).length = ps.length := List.length_map _
theorem cr_setOfTK (K : PySem.W.Frag) (P : Program) (w : World) {X : Cx} (hc : X.calm = true) (hu : X.A.units + 64 < cLine) (hK : X.K = K := by rfl) (hP : X.prog = P := by rfl) (hw : X.w = w := by rfl) : CallR X (.type "set") (rSetOfT K P w) := by
  subst hK hP hw
  exact cr_setOfT hc hu
theorem cr_sortedTK (K : PySem.W.Frag) (P : Program) (w : World) {X : Cx} (hc : X.calm = true) (hK : X.K = K := by rfl) (hP : X.prog = P := by rfl) (hw : X.w = w := by rfl) : CallR X (.builtin "sorted") (rSortedT K P w) := by
  subst hK hP hw
  exact cr_sortedT hc
theorem rows_back {H : Hp} : ∀ {l : List (Addr × List Int)}, (∀ p ∈ l, H p.1 = some (.tup (p.2.map V.int))) → DTs K H (l.map fun p => V.ref p.1) ((l.map (·.2)).map rowD)
  | [], _ => .nil
  | p :: l, h => .cons (.row (h p List.mem_cons_self)) (rows_back fun q hq => h q (List.mem_cons_of_mem _ hq))
/-! picked -/
def sp_picked (T : Txt K mg base) : Sp := fun vs H Q _ => ∃ (sz : Int) (v u : V) (ar : Int) (rows : List (List Int)) (ps : List Nat), vs = [.int sz, v, u] ∧ (1 ≤ sz ∧ sz ≤ 4) ∧ DT K H v (relD ar rows) ∧ DT K H u (rowD (ps.map fun (p : Nat) => (p : Int))) ∧ TT T.tabs H ∧ RelOk sz ar rows ∧ rows.length < 64 ∧ (1 ≤ ps.length ∧ ps.length ≤ 4) ∧ (∀ p ∈ ps, (p : Int) < ar) ∧
  ∀ z qs H', Gr H H' → DT K H' z (relD (ps.length : Nat) qs) → qs.Pairwise (fun r q => HT.lexLt r q = true) → (∀ x, x ∈ qs ↔ x ∈ rows.map (pick ps)) → Q z H'
end K66

set_option Elab.async false
set_option linter.all false
set_option maxRecDepth 100000
set_option maxHeartbeats 4000000
/-! zip over some tuples of one length: what the model does -/
namespace ZN
open PySem
open PySem.Sem (wp)
open RZ
abbrev IsZipF (h : Heap) (z TI TO : Addr) (f0 : Value) (f1 : Bool) : Prop :=
  h.get? z = some { cls := .type "zip", dict := none, data := .fields #[f0, .bool f1, .bool false, .ref TI, .ref TO], slots := #[] }
abbrev IsTupL (h : Heap) (T : Addr) (vs : List Value) : Prop := h.get? T = some { cls := .type "tuple", data := .seq vs.toArray }
structure ZApart (z TI TO : Addr) (is ls : List Addr) : Prop where
  nd : (z :: TI :: TO :: is).Nodup
  lz : ∀ l ∈ ls, l ≠ z ∧ l ≠ TO ∧ l ∉ is
  len : is.length = ls.length
def Its (h : Heap) (is ls : List Addr) (ks : Nat → Nat) : Prop := ∀ (j : Nat) (i l : Addr), is[j]? = some i → ls[j]? = some l → h.IsTupleIter i l (ks j)
/-- the tuples at ls have vs at place k -/
def Has (h : Heap) (ls : List Addr) (k : Nat) (vs : List Value) : Prop := ∀ (j : Nat) (l : Addr) (v : Value), ls[j]? = some l → vs[j]? = some v → ∃ xs : Array Value, h.IsTuple l xs ∧ xs[k]? = some v
section
variable {prog : Program} {w : World} {A : Around} {E : Value → Shared → Prop} {s : Shared}
theorem wpAny_updateSeq_tup {T : Addr} {vs : List Value} {x : Value} {k : Nat} {Q : Unit → Shared → Prop} (hT : IsTupL s.heap T vs) (hl : vs.length ≤ 100)
    (h : ∀ h', IsTupL h' T (vs.set k x) → Heap.SameBut T s.heap h' → Q () { s with heap := h' }) :
    wpAny (model prog w) A (updateSeq T (·.setIfInBounds k x)) Q E s := by
  have h100 : vs.toArray.size ≤ sizeLine := by rw [List.size_toArray]; exact Nat.le_trans hl (by decide)
  refine wpAny_updateSeq hT rfl (h _ ?_ (Heap.SameBut.update ..)) (hz := h100) (_hz' := by rw [Array.size_setIfInBounds]; exact Nat.le_succ_of_le h100)
  show Heap.get? _ _ = _
  rw [Heap.get?_update_self _ hT rfl]
  simp [Obj.mapSeq]
theorem zTO {z TI TO : Addr} {is ls : List Addr} (D : ZApart z TI TO is ls) : TO ≠ z := fun e => by
  have := D.nd
  subst e
  simp at this
theorem zi {z TI TO : Addr} {is ls : List Addr} (D : ZApart z TI TO is ls) {i : Addr} (h : i ∈ is) : i ≠ z := fun e => by
  have := D.nd
  subst e
  simp [h] at this
theorem iTO {z TI TO : Addr} {is ls : List Addr} (D : ZApart z TI TO is ls) {i : Addr} (h : i ∈ is) : i ≠ TO := fun e => by
  have := D.nd
  subst e
  simp [h] at this
theorem iTI {z TI TO : Addr} {is ls : List Addr} (D : ZApart z TI TO is ls) {i : Addr} (h : i ∈ is) : i ≠ TI := fun e => by
  have := D.nd
  subst e
  simp [h] at this
theorem zTI {z TI TO : Addr} {is ls : List Addr} (D : ZApart z TI TO is ls) : TI ≠ z ∧ TI ≠ TO := ⟨fun e => by
  have := D.nd
  subst e
  simp at this, fun e => by
  have := D.nd
  subst e
  simp at this⟩
theorem nodup_at {z TI TO : Addr} {is ls : List Addr} (D : ZApart z TI TO is ls) {a b : Nat} {i : Addr} (h1 : is[a]? = some i) (h2 : is[b]? = some i) : b = a := by
  have nd : is.Nodup := (List.nodup_cons.mp (List.nodup_cons.mp (List.nodup_cons.mp D.nd).2).2).2
  obtain ⟨l1, e1⟩ := List.getElem?_eq_some_iff.mp h1
  obtain ⟨l2, e2⟩ := List.getElem?_eq_some_iff.mp h2
  have q := List.pairwise_iff_getElem.mp nd
  rcases Nat.lt_trichotomy b a with h | h | h
  · exact absurd (e2.trans e1.symm) (q b a l2 l1 h)
  · exact h
  · exact absurd (e1.trans e2.symm) (q a b l1 l2 h)
/-- what holds when m iterators have been drawn from -/
structure Drawn (h : Heap) (z TI TO : Addr) (is ls : List Addr) (f1 : Bool) (k : Nat) (vs : List Value) (m : Nat) (h' : Heap) : Prop where
  sz : h'.objs.size = h.objs.size
  zz : IsZipF h' z TI TO .ellipsis f1
  to : ∃ os, os.length = vs.length ∧ os.take m = vs.take m ∧ IsTupL h' TO os
  it : Its h' is ls (fun j => if j < m then k + 1 else k)
  kp : ∀ c o, c ≠ z → c ≠ TO → c ∉ is → h.get? c = some o → h'.get? c = some o
theorem Has.keep {h h' : Heap} {ls : List Addr} {k : Nat} {vs : List Value} (a : Has h ls k vs) (q : ∀ l ∈ ls, ∀ o, h.get? l = some o → h'.get? l = some o) : Has h' ls k vs := fun j l v e1 e2 => by
  obtain ⟨xs, ⟨o, ho, r⟩, e⟩ := a j l v e1 e2
  exact ⟨xs, ⟨o, q l (List.mem_of_getElem? e1) o ho, r⟩, e⟩
theorem zipN_next_free {z TI TO : Addr} {is ls : List Addr} {f0 : Value} {f1 : Bool} {k : Nat} {vs os : List Value} {Q : Value → Shared → Prop} (D : ZApart z TI TO is ls) (hne : is ≠ []) (hv : vs.length = is.length) (hsl : vs.length ≤ 100)
    (hf : ∀ Q' : Bool → Shared → Prop, Q' true s → wpAny (model prog w) A (Builtin.SmallTypes.ownedTupleIsFree (.ref z)) Q' E s)
    (hz : IsZipF s.heap z TI TO f0 f1) (hTI : IsTupL s.heap TI (is.map Value.ref)) (hTO : IsTupL s.heap TO os) (hos : os.length = vs.length)
    (hi : Its s.heap is ls (fun _ => k)) (hh : Has s.heap ls k vs)
    (hQ : ∀ h', IsZipF h' z TI TO (rawInt s.heap.objs.size) false → IsTupL h' TO vs → Its h' is ls (fun _ => k + 1) → IsTupL h' s.heap.objs.size vs → h'.objs.size = s.heap.objs.size + 1 →
      (∀ c o, c ≠ z → c ≠ TO → c ∉ is → s.heap.get? c = some o → h'.get? c = some o) → Q (.ref s.heap.objs.size) { s with heap := h' }) :
    wpAny (model prog w) A (Builtin.«zip.__next__» ⟨[.ref z], []⟩) (fun fin s' => ∃ v, fin = .done (.ret v) ∧ Q v s') E s := by
  show wpAny _ _ (field (.ref z) 2 >>= _) _ _ _
  refine wpAny_bind (wpAny_field hz rfl (x := .bool false) rfl ?_)
  show wpAny _ _ (field (.ref z) 3 >>= _) _ _ _
  refine wpAny_bind (wpAny_field hz rfl (x := .ref TI) rfl ?_)
  refine wpAny_bind (wpAny_seqItems hTI rfl ?_)
  dsimp only
  rw [if_neg (by intro q; rw [List.isEmpty_toArray, List.isEmpty_iff, List.map_eq_nil_iff] at q; exact hne q)]
  show wpAny _ _ (Builtin.SmallTypes.ownedTupleIsFree (.ref z) >>= _) _ _ _
  refine wpAny_bind (hf _ ?_)
  simp only [if_true]
  refine wpAny_bind (wpAny_rule ?_)
  refine wpAny_bind (wpAny_field hz rfl (x := .ref TO) rfl ?_)
  refine wpAny_bind (wpAny_setField_rec hz (by simp) fun h₁ hz₁ hs₁ => ?_)
  replace hz₁ : IsZipF h₁ z TI TO .ellipsis f1 := hz₁
  refine wpAny_bind ?_
  refine wpAny_forIn_list _ (fun rest b s' => b = (none, ()) ∧ ∃ m h', rest = (is.map Value.ref).zipIdx.drop m ∧ m ≤ is.length ∧ s' = { s with heap := h' } ∧ Drawn s.heap z TI TO is ls f1 k vs m h') _ ?_ ?_ _ _
    ⟨rfl, 0, h₁, rfl, Nat.zero_le _, rfl, ⟨hs₁.1, hz₁, ⟨os, hos, rfl, hs₁.extBut _ _ (zTO D) hTO⟩, fun j i l e1 e2 => (hi j i l e1 e2).extBut hs₁.extBut (zi D (List.mem_of_getElem? e1)), fun c o c1 _ _ e => hs₁.extBut _ _ c1 e⟩⟩
  · rintro ⟨it, at'⟩ rest b s' ⟨rfl, m, h', er, hm, rfl, W⟩
    have hml : m < is.length := by
      rcases Nat.lt_or_ge m is.length with q | q
      · exact q
      · rw [List.drop_eq_nil_of_le (by rw [List.length_zipIdx, List.length_map]; exact q)] at er
        cases er
    have eim : is[m]? = some is[m] := List.getElem?_eq_getElem hml
    have elm : ls[m]? = some (ls[m]'(by rw [← D.len]; exact hml)) := List.getElem?_eq_getElem _
    have evm : vs[m]? = some (vs[m]'(by rw [hv]; exact hml)) := List.getElem?_eq_getElem _
    generalize is[m] = im at eim
    generalize ls[m]'_ = lm at elm
    generalize vs[m]'_ = vm at evm
    have hit : it = Value.ref im ∧ at' = m ∧ rest = (is.map Value.ref).zipIdx.drop (m + 1) := by
      rw [List.drop_eq_getElem_cons (by rw [List.length_zipIdx, List.length_map]; exact hml)] at er
      have e0 : (is.map Value.ref).zipIdx[m]'(by rw [List.length_zipIdx, List.length_map]; exact hml) = (Value.ref im, m) := by
        rw [List.getElem_zipIdx, List.getElem_map]
        have : is[m] = im := by
          have := List.getElem?_eq_getElem hml
          rw [eim] at this
          exact (Option.some.inj this).symm
        rw [this, Nat.zero_add]
      rw [e0] at er
      cases er
      exact ⟨rfl, rfl, rfl⟩
    obtain ⟨rfl, rfl, rfl⟩ := hit
    obtain ⟨xs, ht, hx⟩ := hh _ _ _ elm evm
    obtain ⟨os', ol, ot, hTO'⟩ := W.to
    have lmm := List.mem_of_getElem? elm
    have imm := List.mem_of_getElem? eim
    have hl' : h'.IsTuple lm xs := by
      obtain ⟨o, ho, r⟩ := ht
      obtain ⟨l1, l2, l3⟩ := D.lz _ lmm
      exact ⟨o, W.kp _ _ l1 l2 l3 ho, r⟩
    have hi' : h'.IsTupleIter im lm k := by
      have : h'.IsTupleIter im lm (if at' < at' then k + 1 else k) := W.it _ _ _ eim elm
      rwa [if_neg (Nat.lt_irrefl _)] at this
    refine wpAny_bind (wpAny_onRaise ?_)
    show wpAny _ _ (Builtin.SmallTypes.nextOf (.ref im) >>= _) _ _ _
    refine wpAny_bind (nextOf_tuple_item hi' hl' hx fun h₂ h1₂ hs₂ => wpAny_pure ?_)
    replace hs₂ : Heap.SameBut im h' h₂ := hs₂
    have hTO₂ : IsTupL h₂ TO os' := hs₂.extBut _ _ (iTO D imm).symm hTO'
    refine wpAny_bind (wpAny_seqItems hTO₂ rfl ?_)
    refine wpAny_bind (wpAny_updateSeq_tup hTO₂ (by omega) fun h₃ hTO₃ hs₃ => ?_)
    replace hs₃ : Heap.SameBut TO h₂ h₃ := hs₃
    refine wpAny_bind (wpAny_letGo (wpAny_pure ⟨rfl, at' + 1, h₃, rfl, hml, rfl, ?_⟩))
    refine ⟨by rw [hs₃.1, hs₂.1, W.sz], hs₃.extBut _ _ (zTO D).symm (hs₂.extBut _ _ (zi D imm).symm W.zz), ⟨_, by rw [List.length_set, ol], ?_, hTO₃⟩, fun j i l e1 e2 => ?_, fun c o c1 c2 c3 e => hs₃.extBut _ _ c2 (hs₂.extBut _ _ (fun q => c3 (q ▸ imm)) (W.kp c o c1 c2 c3 e))⟩
    · rw [List.take_add_one, List.take_add_one, evm, ← ot]
      rw [List.take_set, List.set_eq_of_length_le (by rw [List.length_take]; exact Nat.min_le_left _ _)]
      congr 1
      rw [List.getElem?_set_self (by omega)]
    · have imem := List.mem_of_getElem? e1
      by_cases q : j = at'
      · subst q
        rw [eim] at e1
        rw [elm] at e2
        cases e1
        cases e2
        show h₃.IsTupleIter _ _ (if j < j + 1 then k + 1 else k)
        rw [if_pos (Nat.lt_succ_self _)]
        exact h1₂.extBut hs₃.extBut (iTO D imem)
      · have hii : i ≠ im := fun z => q (nodup_at D eim (z ▸ e1))
        have := (W.it j i l e1 e2)
        have e : (if j < at' + 1 then k + 1 else k) = (if j < at' then k + 1 else k) := by
          by_cases h : j < at'
          · rw [if_pos h, if_pos (by omega)]
          · rw [if_neg h, if_neg (by omega)]
        show h₃.IsTupleIter _ _ (if j < at' + 1 then k + 1 else k)
        rw [e]
        exact (this.extBut hs₂.extBut hii).extBut hs₃.extBut (iTO D imem)
  · rintro b s' ⟨rfl, m, h', er, hm, rfl, W⟩
    have em : m = is.length := by
      have := congrArg List.length er
      rw [List.length_drop, List.length_zipIdx, List.length_map, List.length_nil] at this
      omega
    subst em
    obtain ⟨os', ol, ot, hTO'⟩ := W.to
    rw [← hv, List.take_length, ← ol, List.take_length] at ot
    subst ot
    dsimp only
    refine wpAny_bind (wpAny_seqItems hTO' rfl ?_)
    dsimp only
    refine wpAny_bind (wpAny_newTuple ?_ (by rw [Array.length_toList, List.size_toArray]; exact Nat.le_trans hsl (by decide)))
    dsimp only
    rw [W.sz]
    show wpAny _ _ (Builtin.SmallTypes.ownedTupleHandOut (.ref z) (.ref s.heap.objs.size) >>= _) _ _ _
    refine wpAny_bind ?_
    unfold Builtin.SmallTypes.ownedTupleHandOut
    have hz₆ : IsZipF (h'.push { cls := .type "tuple", data := .seq os'.toArray }) z TI TO .ellipsis f1 := Heap.get?_push_of_some _ W.zz
    refine wpAny_bind (wpAny_setField_rec hz₆ (by simp) fun h₇ hz₇ hs₇ => ?_)
    replace hz₇ : IsZipF h₇ z TI TO (rawInt s.heap.objs.size) f1 := hz₇
    refine wpAny_setField_rec hz₇ (by simp) fun h₈ hz₈ hs₈ => ?_
    replace hz₈ : IsZipF h₈ z TI TO (rawInt s.heap.objs.size) false := hz₈
    replace hs₇ : Heap.SameBut z (h'.push { cls := .type "tuple", data := .seq os'.toArray }) h₇ := hs₇
    replace hs₈ : Heap.SameBut z h₇ h₈ := hs₈
    have hzlt : z < s.heap.objs.size := Heap.lt_size hz
    have up : ∀ c o, c ≠ z → h'.get? c = some o → h₈.get? c = some o := fun c o c1 e => hs₈.extBut _ _ c1 (hs₇.extBut _ _ c1 (Heap.get?_push_of_some _ e))
    have hn : IsTupL (h'.push { cls := .type "tuple", data := .seq os'.toArray }) s.heap.objs.size os' := by
      rw [← W.sz]
      exact Heap.get?_push_size _ rfl
    have hT₈ : IsTupL h₈ s.heap.objs.size os' := hs₈.extBut _ _ (Nat.ne_of_gt hzlt) (hs₇.extBut _ _ (Nat.ne_of_gt hzlt) hn)
    have hz8 : h₈.objs.size = s.heap.objs.size + 1 := by rw [hs₈.1, hs₇.1, Heap.size_push, W.sz]
    refine wpAny_pure ⟨_, rfl, ?_⟩
    refine hQ h₈ hz₈ (up _ _ (zTO D) hTO') (fun j i l e1 e2 => ?_) hT₈ hz8 fun c o c1 c2 c3 e => up c o c1 (W.kp c o c1 c2 c3 e)
    have h9 : h'.IsTupleIter i l (if j < is.length then k + 1 else k) := W.it j i l e1 e2
    rw [if_pos (List.getElem?_eq_some_iff.mp e1).1] at h9
    exact h9.at fun o e => up _ o (zi D (List.mem_of_getElem? e1)) e
end
end ZN

set_option Elab.async false
set_option linter.all false
set_option maxRecDepth 100000
set_option maxHeartbeats 4000000
namespace ZN
open PySem
open PySem.Sem (wp)
open RZ
section
variable {prog : Program} {w : World} {A : Around} {E : Value → Shared → Prop} {s : Shared}
theorem zipN_next_free_end {z TI TO : Addr} {i0 l0 : Addr} {is ls : List Addr} {f0 : Value} {f1 : Bool} {k : Nat} {xs : Array Value} {os : List Value} {Q : Fin → Shared → Prop} (hA : A.handled = none) (D : ZApart z TI TO (i0 :: is) (l0 :: ls))
    (hf : ∀ Q' : Bool → Shared → Prop, Q' true s → wpAny (model prog w) A (Builtin.SmallTypes.ownedTupleIsFree (.ref z)) Q' E s)
    (hz : IsZipF s.heap z TI TO f0 f1) (hTI : IsTupL s.heap TI ((i0 :: is).map Value.ref)) (hTO : IsTupL s.heap TO os)
    (hi : s.heap.IsTupleIter i0 l0 k) (hh : s.heap.IsTuple l0 xs) (hx : xs[k]? = none)
    (hE : ∀ h' e, (∀ c o, c ≠ z → c ≠ TO → c ∉ i0 :: is → s.heap.get? c = some o → h'.get? c = some o) → (∃ o, h'.get? e = some o ∧ o.cls = .type "StopIteration") → E (.ref e) { s with heap := h' }) :
    wpAny (model prog w) A (Builtin.«zip.__next__» ⟨[.ref z], []⟩) Q E s := by
  have im : i0 ∈ i0 :: is := List.mem_cons_self
  obtain ⟨lz1, lz2, lz3⟩ := D.lz l0 List.mem_cons_self
  show wpAny _ _ (field (.ref z) 2 >>= _) _ _ _
  refine wpAny_bind (wpAny_field hz rfl (x := .bool false) rfl ?_)
  show wpAny _ _ (field (.ref z) 3 >>= _) _ _ _
  refine wpAny_bind (wpAny_field hz rfl (x := .ref TI) rfl ?_)
  refine wpAny_bind (wpAny_seqItems hTI rfl ?_)
  dsimp only
  rw [if_neg (by intro q; rw [List.isEmpty_toArray, List.isEmpty_iff, List.map_eq_nil_iff] at q; cases q)]
  show wpAny _ _ (Builtin.SmallTypes.ownedTupleIsFree (.ref z) >>= _) _ _ _
  refine wpAny_bind (hf _ ?_)
  simp only [if_true]
  refine wpAny_bind (wpAny_rule ?_)
  refine wpAny_bind (wpAny_field hz rfl (x := .ref TO) rfl ?_)
  refine wpAny_bind (wpAny_setField_rec hz (by simp) fun h₁ hz₁ hs₁ => ?_)
  replace hz₁ : IsZipF h₁ z TI TO .ellipsis f1 := hz₁
  refine wpAny_bind ?_
  simp only [List.map_cons, List.zipIdx_cons, List.forIn_cons]
  refine wpAny_bind (wpAny_bind (wpAny_onRaise ?_))
  show wpAny _ _ (Builtin.SmallTypes.nextOf (.ref i0) >>= _) _ _ _
  refine wpAny_bind (nextOf_tuple_end hA (hi.extBut hs₁.extBut (zi D im)) (hh.extBut hs₁.extBut lz1) hx fun h₂ e hs₂ he => ?_)
  obtain ⟨oe, hoe, hce⟩ := he
  have hz₂ : IsZipF h₂ z TI TO .ellipsis f1 := hs₂ _ _ (zi D im).symm hz₁
  have hez : e ≠ z := fun x => by subst x; rw [hz₂] at hoe; cases hoe; simp at hce
  refine wpAny_setField_rec hz₂ (by simp) fun h₃ _ hs₃ => hE h₃ e (fun c o c1 _ c3 x => hs₃.extBut _ _ c1 (hs₂ _ _ (fun q => c3 (q ▸ im)) (hs₁.extBut _ _ c1 x))) ⟨oe, hs₃.extBut _ _ hez hoe, hce⟩
structure DrawnH (h : Heap) (z TI TO : Addr) (is ls : List Addr) (f0 : Value) (k : Nat) (vs : List Value) (m : Nat) (h' : Heap) : Prop where
  sz : h'.objs.size = h.objs.size
  zz : IsZipF h' z TI TO f0 true
  it : Its h' is ls (fun j => if j < m then k + 1 else k)
  kp : ∀ c o, c ≠ z → c ∉ is → h.get? c = some o → h'.get? c = some o
theorem zipN_next_held {z TI TO : Addr} {is ls : List Addr} {f0 : Value} {f1 : Bool} {k : Nat} {vs os : List Value} {Q : Value → Shared → Prop} (D : ZApart z TI TO is ls) (hne : is ≠ []) (hv : vs.length = is.length) (hsl : vs.length ≤ 100)
    (hf : ∀ Q' : Bool → Shared → Prop, (∀ h', IsZipF h' z TI TO f0 true → Heap.SameBut z s.heap h' → Q' false { s with heap := h' }) → wpAny (model prog w) A (Builtin.SmallTypes.ownedTupleIsFree (.ref z)) Q' E s)
    (hz : IsZipF s.heap z TI TO f0 f1) (hTI : IsTupL s.heap TI (is.map Value.ref)) (hTO : IsTupL s.heap TO os) (hos : os.length = vs.length)
    (hi : Its s.heap is ls (fun _ => k)) (hh : Has s.heap ls k vs)
    (hQ : ∀ h', IsZipF h' z TI TO f0 true → IsTupL h' TO os → Its h' is ls (fun _ => k + 1) → IsTupL h' s.heap.objs.size vs → h'.objs.size = s.heap.objs.size + 1 →
      (∀ c o, c ≠ z → c ≠ TO → c ∉ is → s.heap.get? c = some o → h'.get? c = some o) → Q (.ref s.heap.objs.size) { s with heap := h' }) :
    wpAny (model prog w) A (Builtin.«zip.__next__» ⟨[.ref z], []⟩) (fun fin s' => ∃ v, fin = .done (.ret v) ∧ Q v s') E s := by
  show wpAny _ _ (field (.ref z) 2 >>= _) _ _ _
  refine wpAny_bind (wpAny_field hz rfl (x := .bool false) rfl ?_)
  show wpAny _ _ (field (.ref z) 3 >>= _) _ _ _
  refine wpAny_bind (wpAny_field hz rfl (x := .ref TI) rfl ?_)
  refine wpAny_bind (wpAny_seqItems hTI rfl ?_)
  dsimp only
  rw [if_neg (by intro q; rw [List.isEmpty_toArray, List.isEmpty_iff, List.map_eq_nil_iff] at q; exact hne q)]
  show wpAny _ _ (Builtin.SmallTypes.ownedTupleIsFree (.ref z) >>= _) _ _ _
  refine wpAny_bind (hf _ fun h₁ hz₁ hs₁ => ?_)
  simp only [Bool.false_eq_true, if_false]
  refine wpAny_bind ?_
  rw [← Array.forIn_toList]
  refine wpAny_forIn_list _ (fun rest b s' => ∃ m h', rest = (is.map Value.ref).drop m ∧ m ≤ is.length ∧ b = (none, (vs.take m).toArray) ∧ s' = { s with heap := h' } ∧ DrawnH s.heap z TI TO is ls f0 k vs m h') _ ?_ ?_ _ _
    ⟨0, h₁, rfl, Nat.zero_le _, rfl, rfl, ⟨hs₁.1, hz₁, fun j i l e1 e2 => (hi j i l e1 e2).extBut hs₁.extBut (zi D (List.mem_of_getElem? e1)), fun c o c1 _ e => hs₁.extBut _ _ c1 e⟩⟩
  · rintro it rest b s' ⟨m, h', er, hm, rfl, rfl, W⟩
    have hml : m < is.length := by
      rcases Nat.lt_or_ge m is.length with q | q
      · exact q
      · rw [List.drop_eq_nil_of_le (by rw [List.length_map]; exact q)] at er
        cases er
    have eim : is[m]? = some is[m] := List.getElem?_eq_getElem hml
    have elm : ls[m]? = some (ls[m]'(by rw [← D.len]; exact hml)) := List.getElem?_eq_getElem _
    have evm : vs[m]? = some (vs[m]'(by rw [hv]; exact hml)) := List.getElem?_eq_getElem _
    generalize is[m] = im at eim
    generalize ls[m]'_ = lm at elm
    generalize vs[m]'_ = vm at evm
    have hit : it = Value.ref im ∧ rest = (is.map Value.ref).drop (m + 1) := by
      rw [List.drop_eq_getElem_cons (by rw [List.length_map]; exact hml)] at er
      have e0 : (is.map Value.ref)[m]'(by rw [List.length_map]; exact hml) = Value.ref im := by
        rw [List.getElem_map]
        have := List.getElem?_eq_getElem hml
        rw [eim] at this
        rw [← Option.some.inj this]
      rw [e0] at er
      cases er
      exact ⟨rfl, rfl⟩
    obtain ⟨rfl, rfl⟩ := hit
    obtain ⟨xs, ht, hx⟩ := hh _ _ _ elm evm
    have lmm := List.mem_of_getElem? elm
    have imm := List.mem_of_getElem? eim
    have hl' : h'.IsTuple lm xs := by
      obtain ⟨o, ho, r⟩ := ht
      obtain ⟨l1, l2, l3⟩ := D.lz _ lmm
      exact ⟨o, W.kp _ _ l1 l3 ho, r⟩
    have hi' : h'.IsTupleIter im lm k := by
      have : h'.IsTupleIter im lm (if m < m then k + 1 else k) := W.it _ _ _ eim elm
      rwa [if_neg (Nat.lt_irrefl _)] at this
    refine wpAny_bind (wpAny_holding ?_)
    show wpAny _ _ (Builtin.SmallTypes.nextOf (.ref im) >>= _) _ _ _
    refine wpAny_bind (nextOf_tuple_item hi' hl' hx fun h₂ h1₂ hs₂ => wpAny_pure ?_)
    replace hs₂ : Heap.SameBut im h' h₂ := hs₂
    refine wpAny_pure ⟨m + 1, h₂, rfl, hml, ?_, rfl, ?_⟩
    · rw [List.take_add_one, evm]
      simp
    refine ⟨by rw [hs₂.1, W.sz], hs₂.extBut _ _ (zi D imm).symm W.zz, fun j i l e1 e2 => ?_, fun c o c1 c3 e => hs₂.extBut _ _ (fun q => c3 (q ▸ imm)) (W.kp c o c1 c3 e)⟩
    have imem := List.mem_of_getElem? e1
    by_cases q : j = m
    · subst q
      rw [eim] at e1
      rw [elm] at e2
      cases e1
      cases e2
      show h₂.IsTupleIter _ _ (if j < j + 1 then k + 1 else k)
      rw [if_pos (Nat.lt_succ_self _)]
      exact h1₂
    · have hii : i ≠ im := fun z => q (nodup_at D eim (z ▸ e1))
      have := (W.it j i l e1 e2)
      have e : (if j < m + 1 then k + 1 else k) = (if j < m then k + 1 else k) := by
        by_cases h : j < m
        · rw [if_pos h, if_pos (by omega)]
        · rw [if_neg h, if_neg (by omega)]
      show h₂.IsTupleIter _ _ (if j < m + 1 then k + 1 else k)
      rw [e]
      exact this.extBut hs₂.extBut hii
  · rintro b s' ⟨m, h', er, hm, rfl, rfl, W⟩
    have em : m = is.length := by
      have := congrArg List.length er
      rw [List.length_drop, List.length_map, List.length_nil] at this
      omega
    subst em
    dsimp only
    rw [← hv, List.take_length]
    refine wpAny_bind (wpAny_newTuple ?_ (by exact Nat.le_trans hsl (by decide)))
    dsimp only
    rw [W.sz]
    refine wpAny_pure ⟨_, rfl, ?_⟩
    have hn : IsTupL (h'.push { cls := .type "tuple", data := .seq vs.toArray }) s.heap.objs.size vs := by
      rw [← W.sz]
      exact Heap.get?_push_size _ rfl
    refine hQ _ (Heap.get?_push_of_some _ W.zz) (Heap.get?_push_of_some _ (W.kp _ _ (zTO D) (fun q => iTO D q rfl) hTO)) (fun j i l e1 e2 => ?_) hn (by rw [Heap.size_push, W.sz]) fun c o c1 _ c3 e => Heap.get?_push_of_some _ (W.kp c o c1 c3 e)
    have h9 : h'.IsTupleIter i l (if j < is.length then k + 1 else k) := W.it j i l e1 e2
    rw [if_pos (List.getElem?_eq_some_iff.mp e1).1] at h9
    exact h9.at fun o e => Heap.get?_push_of_some _ e
theorem zipN_next_held_end {z TI TO : Addr} {i0 l0 : Addr} {is ls : List Addr} {f0 : Value} {f1 : Bool} {k : Nat} {xs : Array Value} {os : List Value} {Q : Fin → Shared → Prop} (hA : A.handled = none) (D : ZApart z TI TO (i0 :: is) (l0 :: ls))
    (hf : ∀ Q' : Bool → Shared → Prop, (∀ h', IsZipF h' z TI TO f0 true → Heap.SameBut z s.heap h' → Q' false { s with heap := h' }) → wpAny (model prog w) A (Builtin.SmallTypes.ownedTupleIsFree (.ref z)) Q' E s)
    (hz : IsZipF s.heap z TI TO f0 f1) (hTI : IsTupL s.heap TI ((i0 :: is).map Value.ref))
    (hi : s.heap.IsTupleIter i0 l0 k) (hh : s.heap.IsTuple l0 xs) (hx : xs[k]? = none)
    (hE : ∀ h' e, (∀ c o, c ≠ z → c ≠ TO → c ∉ i0 :: is → s.heap.get? c = some o → h'.get? c = some o) → (∃ o, h'.get? e = some o ∧ o.cls = .type "StopIteration") → E (.ref e) { s with heap := h' }) :
    wpAny (model prog w) A (Builtin.«zip.__next__» ⟨[.ref z], []⟩) Q E s := by
  have im : i0 ∈ i0 :: is := List.mem_cons_self
  obtain ⟨lz1, lz2, lz3⟩ := D.lz l0 List.mem_cons_self
  show wpAny _ _ (field (.ref z) 2 >>= _) _ _ _
  refine wpAny_bind (wpAny_field hz rfl (x := .bool false) rfl ?_)
  show wpAny _ _ (field (.ref z) 3 >>= _) _ _ _
  refine wpAny_bind (wpAny_field hz rfl (x := .ref TI) rfl ?_)
  refine wpAny_bind (wpAny_seqItems hTI rfl ?_)
  dsimp only
  rw [if_neg (by intro q; rw [List.isEmpty_toArray, List.isEmpty_iff, List.map_eq_nil_iff] at q; cases q)]
  show wpAny _ _ (Builtin.SmallTypes.ownedTupleIsFree (.ref z) >>= _) _ _ _
  refine wpAny_bind (hf _ fun h₁ hz₁ hs₁ => ?_)
  simp only [Bool.false_eq_true, if_false]
  refine wpAny_bind ?_
  rw [← Array.forIn_toList]
  simp only [List.map_cons, List.forIn_cons]
  refine wpAny_bind (wpAny_bind (wpAny_holding ?_))
  show wpAny _ _ (Builtin.SmallTypes.nextOf (.ref i0) >>= _) _ _ _
  refine wpAny_bind (nextOf_tuple_end hA (hi.extBut hs₁.extBut (zi D im)) (hh.extBut hs₁.extBut lz1) hx fun h₂ e hs₂ he => ?_)
  exact hE h₂ e (fun c o c1 _ c3 x => hs₂ _ _ (fun q => c3 (q ▸ im)) (hs₁.extBut _ _ c1 x)) he
end
end ZN

set_option Elab.async false
set_option linter.all false
set_option maxRecDepth 100000
set_option maxHeartbeats 4000000
namespace ZN
open PySem PySem.Spec PyProof.Rows L2
open RZ
def Out (f0 : Value) : Prop := f0 = .none ∨ ∃ T : Addr, f0 = rawInt T
section
variable {prog : Program} {w : World} {A : Around} {E : Value → Shared → Prop} {s : Shared}
theorem alive_no {a : Addr} {Q : Option Obj → Shared → Prop} (ho : s.heap.get? a = none) (h : Q none s) : wpAny (model prog w) A (loadIfAlive a) Q E s := by
  have h' : Q (s.heap.get? a) s := by rw [ho]; exact h
  exact fun _ _ _ => h'
theorem free_cases {z TI TO : Addr} {f0 : Value} {f1 : Bool} (hz : IsZipF s.heap z TI TO f0 f1) (o : Out f0) :
    (∀ (A : Around) (E : Value → Shared → Prop) (Q' : Bool → Shared → Prop), Q' true s → wpAny (model prog w) A (Builtin.SmallTypes.ownedTupleIsFree (.ref z)) Q' E s) ∨
    (∀ (A : Around) (E : Value → Shared → Prop) (Q' : Bool → Shared → Prop), (∀ h', IsZipF h' z TI TO f0 true → Heap.SameBut z s.heap h' → Q' false { s with heap := h' }) → wpAny (model prog w) A (Builtin.SmallTypes.ownedTupleIsFree (.ref z)) Q' E s) := by
  rcases o with rfl | ⟨T, rfl⟩
  · refine .inl fun A E Q' q => ?_
    unfold Builtin.SmallTypes.ownedTupleIsFree
    exact wpAny_bind (wpAny_field hz rfl (x := .none) rfl (wpAny_pure q))
  · cases e : s.heap.get? T with
    | none =>
      refine .inl fun A E Q' q => ?_
      unfold Builtin.SmallTypes.ownedTupleIsFree
      refine wpAny_bind (wpAny_field hz rfl (x := rawInt T) rfl ?_)
      show wpAny _ _ (loadIfAlive ((T : Int).toNat) >>= _) _ _ _
      rw [Int.toNat_natCast]
      refine wpAny_bind (alive_no e ?_)
      simp only [Option.isNone_none, if_true]
      exact wpAny_pure q
    | some oT =>
      refine .inr fun A E Q' q => ?_
      unfold Builtin.SmallTypes.ownedTupleIsFree
      refine wpAny_bind (wpAny_field hz rfl (x := rawInt T) rfl ?_)
      show wpAny _ _ (loadIfAlive ((T : Int).toNat) >>= _) _ _ _
      rw [Int.toNat_natCast]
      refine wpAny_bind (PySem.W.kdx_alive e ?_)
      simp only [Option.isNone_some, Bool.false_eq_true, if_false]
      refine wpAny_bind (wpAny_field hz rfl (x := .bool f1) rfl ?_)
      cases f1 with
      | true =>
        rw [if_neg (show ¬ ((Value.bool true != Value.bool true) = true) from Bool.false_ne_true)]
        exact wpAny_pure (q s.heap hz (Heap.SameBut.refl _ _))
      | false =>
        rw [if_pos (show (Value.bool false != Value.bool true) = true from rfl)]
        exact wpAny_bind (wpAny_setField_rec hz (by simp) fun h₁ hz₁ hs₁ => wpAny_pure (q h₁ hz₁ hs₁))
theorem pyNext_zipN_item {z TI TO : Addr} {is ls : List Addr} {f0 : Value} {f1 : Bool} {k : Nat} {vs os : List Value} {Q : Option Value → Shared → Prop} (D : ZApart z TI TO is ls) (hne : is ≠ []) (hv : vs.length = is.length) (hsl : vs.length ≤ 100)
    (hz : IsZipF s.heap z TI TO f0 f1) (ho : Out f0) (hTI : IsTupL s.heap TI (is.map Value.ref)) (hTO : IsTupL s.heap TO os) (hos : os.length = vs.length)
    (hi : Its s.heap is ls (fun _ => k)) (hh : Has s.heap ls k vs)
    (hQ : ∀ h' f0' f1' os', IsZipF h' z TI TO f0' f1' → Out f0' → IsTupL h' TO os' → os'.length = vs.length → Its h' is ls (fun _ => k + 1) → IsTupL h' s.heap.objs.size vs → h'.objs.size = s.heap.objs.size + 1 →
      (∀ c o, c ≠ z → c ≠ TO → c ∉ is → s.heap.get? c = some o → h'.get? c = some o) → Q (some (.ref s.heap.objs.size)) { s with heap := h' }) :
    wpAny (model prog w) A (pyNext (.ref z)) Q E s := by
  have hT : s.TypeIs (.ref z) "zip" := ⟨_, hz, rfl⟩
  unfold pyNext
  rcases free_cases (prog := prog) (w := w) hz ho with hf | hf
  · exact wpAny_bind (wpAny_attempt (wpAny_callSpecial?_slot (name := Str.ofString "__next__") hT F.slot_zip_next
      (wpAny_call_entry F.slot_zip_next hT F.entry_zip_next
        (zipN_next_free D hne hv hsl (hf _ _) hz hTI hTO hos hi hh fun h' a1 a2 a3 a4 a5 a6 => wpAny_pure (hQ h' _ _ _ a1 (.inr ⟨_, rfl⟩) a2 rfl a3 a4 a5 a6)) (F.args_zip_next_1 _))))
  · exact wpAny_bind (wpAny_attempt (wpAny_callSpecial?_slot (name := Str.ofString "__next__") hT F.slot_zip_next
      (wpAny_call_entry F.slot_zip_next hT F.entry_zip_next
        (zipN_next_held D hne hv hsl (hf _ _) hz hTI hTO hos hi hh fun h' a1 a2 a3 a4 a5 a6 => wpAny_pure (hQ h' _ _ _ a1 ho a2 hos a3 a4 a5 a6)) (F.args_zip_next_1 _))))
theorem pyNext_zipN_end {z TI TO : Addr} {i0 l0 : Addr} {is ls : List Addr} {f0 : Value} {f1 : Bool} {k : Nat} {xs : Array Value} {os : List Value} {Q : Option Value → Shared → Prop} (hA : A.handled = none) (D : ZApart z TI TO (i0 :: is) (l0 :: ls))
    (hz : IsZipF s.heap z TI TO f0 f1) (ho : Out f0) (hTI : IsTupL s.heap TI ((i0 :: is).map Value.ref)) (hTO : IsTupL s.heap TO os)
    (hi : s.heap.IsTupleIter i0 l0 k) (hh : s.heap.IsTuple l0 xs) (hx : xs[k]? = none)
    (hQ : ∀ h', (∀ c o, c ≠ z → c ≠ TO → c ∉ i0 :: is → s.heap.get? c = some o → h'.get? c = some o) → Q none { s with heap := h' }) :
    wpAny (model prog w) A (pyNext (.ref z)) Q E s := by
  have hT : s.TypeIs (.ref z) "zip" := ⟨_, hz, rfl⟩
  unfold pyNext
  rcases free_cases (prog := prog) (w := w) hz ho with hf | hf
  · refine wpAny_bind (wpAny_attempt (wpAny_callSpecial?_slot (name := Str.ofString "__next__") hT F.slot_zip_next
      (wpAny_call_entry F.slot_zip_next hT F.entry_zip_next (zipN_next_free_end hA D (hf _ _) hz hTI hTO hi hh hx fun h' e hk he => ?_) (F.args_zip_next_1 _))))
    obtain ⟨o, ho, hc⟩ := he
    refine wpAny_bind (wpAny_isInstance (T := "StopIteration") (b := true) ⟨o, ho, hc⟩ isSubtype_stop ?_)
    exact wpAny_pure (hQ _ hk)
  · refine wpAny_bind (wpAny_attempt (wpAny_callSpecial?_slot (name := Str.ofString "__next__") hT F.slot_zip_next
      (wpAny_call_entry F.slot_zip_next hT F.entry_zip_next (zipN_next_held_end (os := os) hA D (hf _ _) hz hTI hi hh hx fun h' e hk he => ?_) (F.args_zip_next_1 _))))
    obtain ⟨o, ho, hc⟩ := he
    refine wpAny_bind (wpAny_isInstance (T := "StopIteration") (b := true) ⟨o, ho, hc⟩ isSubtype_stop ?_)
    exact wpAny_pure (hQ _ hk)
end
end ZN

set_option Elab.async false
set_option linter.all false
set_option maxRecDepth 100000
set_option maxHeartbeats 4000000
namespace ZN
open PySem PySem.Spec PyProof.Rows L2
open RZ
theorem hct (args : List Value) : checkTypeCall "zip" ⟨args, []⟩ = pure () := by kernel_rfl
theorem hcn1 (a : Value) : checkBuiltinCall "zip.__new__" ⟨[.type "zip", a], []⟩ = pure () := by kernel_rfl
theorem hcn2 (a b : Value) : checkBuiltinCall "zip.__new__" ⟨[.type "zip", a, b], []⟩ = pure () := by kernel_rfl
theorem hcn3 (a b c : Value) : checkBuiltinCall "zip.__new__" ⟨[.type "zip", a, b, c], []⟩ = pure () := by kernel_rfl
theorem hcn4 (a b c d : Value) : checkBuiltinCall "zip.__new__" ⟨[.type "zip", a, b, c, d], []⟩ = pure () := by kernel_rfl
theorem hcn : ∀ (args : List Value), 1 ≤ args.length → args.length ≤ 4 → checkBuiltinCall "zip.__new__" ⟨.type "zip" :: args, []⟩ = pure ()
  | [], h, _ => by simp at h
  | [a], _, _ => hcn1 a
  | [a, b], _, _ => hcn2 a b
  | [a, b, c], _, _ => hcn3 a b c
  | [a, b, c, d], _, _ => hcn4 a b c d
  | a :: b :: c :: d :: e :: r, _, h => by simp at h
theorem hob (obj : Value) (args : List Value) : argsOk "object.__init__" ⟨obj :: args, []⟩ := by
  unfold argsOk; rw [signature?_of (id := "object.__init__") (n := ['_', '_', 't', 'i', 'n', 'i', '_', '_']) (o := ['t', 'c', 'e', 'j', 'b', 'o']) (by kernel_rfl) F.owner_object]; kernel_rfl
def itsOf (b n : Nat) : List Addr := (List.range n).map fun j => b + j
structure Made (h : Heap) (ls : List Addr) (h' : Heap) : Prop where
  zz : IsZipF h' (h.objs.size + ls.length + 2) (h.objs.size + ls.length) (h.objs.size + ls.length + 1) .none false
  ti : IsTupL h' (h.objs.size + ls.length) ((itsOf h.objs.size ls.length).map Value.ref)
  to : ∃ os, os.length = ls.length ∧ IsTupL h' (h.objs.size + ls.length + 1) os
  it : Its h' (itsOf h.objs.size ls.length) ls (fun _ => 0)
  sz : h'.objs.size = h.objs.size + ls.length + 3
  kp : ∀ c o, h.get? c = some o → h'.get? c = some o
structure Mk (h : Heap) (ls : List Addr) (m : Nat) (h' : Heap) : Prop where
  it : Its h' (itsOf h.objs.size m) (ls.take m) (fun _ => 0)
  sz : h'.objs.size = h.objs.size + m
  kp : ∀ c o, h.get? c = some o → h'.get? c = some o
theorem itsOf_at {b n j : Nat} {i : Addr} (h : (itsOf b n)[j]? = some i) : j < n ∧ i = b + j := by
  unfold itsOf at h
  rw [List.getElem?_map] at h
  obtain ⟨q, e, rfl⟩ := Option.map_eq_some_iff.mp h
  have hj : j < n := by
    have := (List.getElem?_eq_some_iff.mp e).1
    rwa [List.length_range] at this
  rw [List.getElem?_range hj] at e
  cases e
  exact ⟨hj, rfl⟩
theorem itsOf_len (b n : Nat) : (itsOf b n).length = n := by
  unfold itsOf
  rw [List.length_map, List.length_range]
section
variable {prog : Program} {w : World} {A : Around} {E : Value → Shared → Prop} {s : Shared}
theorem wp_iterAll {ls : List Addr} {Q : List Value → Shared → Prop} (hl : ∀ l ∈ ls, ∃ xs, s.heap.IsTuple l xs)
    (h : ∀ h', Mk s.heap ls ls.length h' → Q ((itsOf s.heap.objs.size ls.length).map Value.ref) { s with heap := h' }) :
    wpAny (model prog w) A (Builtin.SmallTypes.iterAll (ls.map Value.ref)) Q E s := by
  unfold Builtin.SmallTypes.iterAll
  refine wpAny_bind (wpAny_forIn_list _ (fun rest b s' => ∃ m h', rest = (ls.map Value.ref).drop m ∧ m ≤ ls.length ∧ b = ((itsOf s.heap.objs.size m).map Value.ref).toArray ∧ s' = { s with heap := h' } ∧ Mk s.heap ls m h') _ ?_ ?_ _ _
    ⟨0, s.heap, rfl, Nat.zero_le _, rfl, rfl, ⟨fun j i l e => by simp [itsOf] at e, rfl, fun _ _ e => e⟩⟩)
  · rintro it rest b s' ⟨m, h', er, hm, rfl, rfl, W⟩
    have hml : m < ls.length := by
      rcases Nat.lt_or_ge m ls.length with q | q
      · exact q
      · rw [List.drop_eq_nil_of_le (by rw [List.length_map]; exact q)] at er
        cases er
    rw [List.drop_eq_getElem_cons (by rw [List.length_map]; exact hml), List.getElem_map] at er
    cases er
    obtain ⟨xs, ol, hol, r⟩ := hl ls[m] (List.getElem_mem hml)
    refine wpAny_bind (wpAny_holding (wpAny_pyIter_tuple (s := { s with heap := h' }) ⟨ol, W.kp _ _ hol, r⟩ ?_))
    refine wpAny_pure ⟨m + 1, _, rfl, hml, ?_, rfl, ?_⟩
    · unfold itsOf
      rw [List.range_succ, List.map_append, List.map_append]
      show _ = ((List.range m).map (fun j => s.heap.objs.size + j) |>.map Value.ref |> (· ++ [Value.ref (s.heap.objs.size + m)])).toArray
      rw [← W.sz]
      simp
    · refine ⟨fun j i l e1 e2 => ?_, by rw [Heap.size_push, W.sz]; rfl, fun c o e => Heap.get?_push_of_some _ (W.kp c o e)⟩
      obtain ⟨hj, rfl⟩ := itsOf_at e1
      rw [List.getElem?_take, if_pos hj] at e2
      by_cases q : j = m
      · subst q
        rw [List.getElem?_eq_getElem hml] at e2
        cases e2
        refine ⟨{ cls := .type "tuple_iterator", data := .fields #[.ref ls[j], .int 0 0] }, ?_, rfl, rfl⟩
        rw [← W.sz]
        exact Heap.get?_push_size _ rfl
      · refine (W.it j _ l ?_ ?_).at fun o e => Heap.get?_push_of_some _ e
        · unfold itsOf
          rw [List.getElem?_map, List.getElem?_range (by omega)]
          rfl
        · rw [List.getElem?_take, if_pos (by omega)]
          exact e2
  · rintro b s' ⟨m, h', er, hm, rfl, rfl, W⟩
    have em : m = ls.length := by
      have := congrArg List.length er
      rw [List.length_drop, List.length_map, List.length_nil] at this
      omega
    subst em
    exact wpAny_pure (h h' W)
theorem wp_newClass_zip {args : List Value} {Q : Value × List Value → Shared → Prop} (h : Q (.type "zip", args) s) : wpAny (model prog w) A (Builtin.SmallTypes.newClass "zip" ⟨.type "zip" :: args, []⟩) Q E s := by
  have hsub := sub_zip
  unfold Builtin.SmallTypes.newClass
  repeat (any_goals (first | assumption | wp_step))
end
end ZN

set_option Elab.async false
set_option linter.all false
set_option maxRecDepth 100000
set_option maxHeartbeats 4000000
namespace ZN
open PySem PySem.Spec PyProof.Rows L2
open RZ
theorem fin_made {h h' : Heap} {ls : List Addr} {vs : List Value} {R : Addr → Heap → Prop} {G : Prop} (W : Mk h ls ls.length h') (hv : vs.length = ls.length)
    (k : ∀ H, Made h ls H → R (h.objs.size + ls.length + 2) H)
    (q : ∀ H1 H2 H3 : Heap, H1 = h'.push { cls := .type "tuple", data := .seq ((itsOf h.objs.size ls.length).map Value.ref).toArray } → H2 = H1.push { cls := .type "tuple", data := .seq vs.toArray } →
      H3 = H2.push { cls := .type "zip", data := .fields #[.none, .bool false, .bool false, .ref h'.objs.size, .ref H1.objs.size] } → (R H2.objs.size H3 → G)) : G := by
  refine q _ _ _ rfl rfl rfl ?_
  have z1 : (h'.push ({ cls := .type "tuple", data := .seq ((itsOf h.objs.size ls.length).map Value.ref).toArray } : Obj)).objs.size = h.objs.size + ls.length + 1 := by rw [Heap.size_push, W.sz]
  have g1 : IsTupL (h'.push { cls := .type "tuple", data := .seq ((itsOf h.objs.size ls.length).map Value.ref).toArray }) (h.objs.size + ls.length) ((itsOf h.objs.size ls.length).map Value.ref) := by
    rw [← W.sz]
    exact Heap.get?_push_size _ rfl
  have up1 : ∀ c o, h'.get? c = some o → (h'.push { cls := .type "tuple", data := .seq ((itsOf h.objs.size ls.length).map Value.ref).toArray }).get? c = some o := fun c o e => Heap.get?_push_of_some _ e
  generalize h'.push ({ cls := .type "tuple", data := .seq ((itsOf h.objs.size ls.length).map Value.ref).toArray } : Obj) = H1 at *
  have z2 : (H1.push ({ cls := .type "tuple", data := .seq vs.toArray } : Obj)).objs.size = h.objs.size + ls.length + 2 := by rw [Heap.size_push, z1]
  have g2 : IsTupL (H1.push { cls := .type "tuple", data := .seq vs.toArray }) (h.objs.size + ls.length + 1) vs := by
    rw [← z1]
    exact Heap.get?_push_size _ rfl
  have up2 : ∀ c o, H1.get? c = some o → (H1.push { cls := .type "tuple", data := .seq vs.toArray }).get? c = some o := fun c o e => Heap.get?_push_of_some _ e
  generalize H1.push ({ cls := .type "tuple", data := .seq vs.toArray } : Obj) = H2 at *
  rw [W.sz, z1, z2]
  refine k _ ⟨?_, Heap.get?_push_of_some _ (up2 _ _ g1), ⟨vs, hv, Heap.get?_push_of_some _ g2⟩, fun j i l e1 e2 => ?_, by rw [Heap.size_push, z2], fun c o e => Heap.get?_push_of_some _ (up2 _ _ (up1 _ _ (W.kp _ _ e)))⟩
  · rw [← z2]
    exact Heap.get?_push_size _ rfl
  · refine (W.it j i l e1 ?_).at fun o e => Heap.get?_push_of_some _ (up2 _ _ (up1 _ _ e))
    rw [List.take_length]
    exact e2
theorem meets_zipN_new (ls : List Addr) (hl : ls.length ≤ 100) :
    Meets (Builtin.«zip.__new__» ⟨.type "zip" :: ls.map Value.ref, []⟩) (fun _ R s => (∀ l ∈ ls, ∃ xs, s.heap.IsTuple l xs) ∧
      ∀ h', Made s.heap ls h' → R (.ok (.ret (.ref (s.heap.objs.size + ls.length + 2)))) { s with heap := h' }) :=
  .of_wp fun prog w A R s h => by
    obtain ⟨hp, g, d, tk, os⟩ := s; obtain ⟨hl1, h⟩ := h
    unfold Builtin.«zip.__new__»
    refine wpAny_bind (wp_newClass_zip ?_)
    dsimp only
    rw [if_neg (by simp)]
    refine wpAny_bind (wp_iterAll hl1 fun h' W => ?_)
    replace W : Mk hp ls ls.length h' := W
    have hz0 : h'.objs.size = hp.objs.size + ls.length := W.sz
    refine wpAny_bind (wpAny_newTuple (s := ⟨h', g, d, tk, os⟩) ?_ (by rw [List.length_map, itsOf_len]; exact Nat.le_trans hl (by decide)))
    refine wpAny_bind (wpAny_newTuple ?_ (by rw [List.length_map, List.length_map, itsOf_len]; exact Nat.le_trans hl (by decide)))
    refine wpAny_bind ?_
    unfold Builtin.SmallTypes.newRecord
    refine wpAny_newObj_type (hd := by show 5 ≤ sizeLine + 2; decide) (wpAny_pure ⟨_, rfl, ?_⟩)
    refine fin_made W (R := fun a H => R (.ok (.ret (.ref a))) ⟨H, g, d, tk, os⟩) (h := hp) (vs := ((itsOf hp.objs.size ls.length).map Value.ref).map fun _ => Value.none) (by rw [List.length_map, List.length_map, itsOf_len]) (fun H M => h H M) fun H1 H2 H3 e1 e2 e3 r => ?_
    subst e3 e2 e1
    exact r
end ZN

set_option Elab.async false
set_option linter.all false
set_option maxRecDepth 100000
set_option maxHeartbeats 4000000
namespace ZN
open PySem PySem.Spec PyProof.Rows L2
open RZ
section
variable {prog : Program} {w : World} {A : Around} {E : Value → Shared → Prop} {s : Shared}
theorem call_zipN {ls : List Addr} {Q : Value → Shared → Prop} (h1 : 1 ≤ ls.length) (h4 : ls.length ≤ 4) (hl : ∀ l ∈ ls, ∃ xs, s.heap.IsTuple l xs)
    (h : ∀ h', Made s.heap ls h' → Q (.ref (s.heap.objs.size + ls.length + 2)) { s with heap := h' }) : wpAny (model prog w) A (call (.type "zip") (ls.map Value.ref)) Q E s := by
  refine callType_new F.called_zip (by decide) (hct _) (hcn _ (by rw [List.length_map]; exact h1) (by rw [List.length_map]; exact h4)) (fun obj => hob obj _) F.entry_zip_new
    (meets_zipN_new ls (by omega)) ⟨hl, fun h' M => ?_⟩
  exact ⟨⟨_, M.zz, rfl⟩, h h' M⟩
theorem callWith_typeStar {pos : Pos} {T : String} {args : List (Bool × Sem Value)} {Q : Value → Shared → Prop} (hst : args.any (·.1) = true)
    (h : wpAny (model prog w) A (evalArgs (.type T) true args []) (fun a s₁ => wpAny (model prog w) A (call (.type T) a.pos a.kw) Q E s₁) E s) : wpAny (model prog w) A (callWith pos (.type T) [] args []) Q E s := by
  unfold callWith
  refine wpAny_bind (wpAny_holding (wpAny_mono h (fun a s₁ h₁ => wpAny_bind (wpAny_standAt ?_)) fun _ _ x => x))
  simp only [hst, Bool.true_or]
  refine wpAny_bind (wpAny_pure ?_)
  have tail : ∀ {t : Sem Value}, wpAny (model prog w) A t Q E s₁ → wpAny (model prog w) A (t >>= fun r => holding [r] point >>= fun _ => pure r) Q E s₁ :=
    fun ht => wpAny_bind (wpAny_mono ht (fun r s₂ hr => wpAny_bind (wpAny_holding (wpAny_point (wpAny_pure hr)))) fun _ _ x => x)
  exact tail (wpAny_operating h₁)
end
def ItzN (K : PySem.W.Frag) (ls : List Addr) : It :=
  ⟨fun i H => ∃ vs : List V, vs.length = ls.length ∧ ∀ (j : Nat) l v, ls[j]? = some l → vs[j]? = some v → ∃ xs, SqT K H l xs ∧ xs[i]? = some v,
    fun i H v H' => ∃ T vs, v = .ref T ∧ H T = none ∧ H' = upd H T (.tup vs) ∧ vs.length = ls.length ∧ ∀ (j : Nat) l xs, ls[j]? = some l → SqT K H l xs → xs[i]? = vs[j]?,
    fun i H => ∃ l0 rest xs, ls = l0 :: rest ∧ SqT K H l0 xs ∧ xs.length ≤ i⟩
def ZSt (z TI TO : Addr) (is ls : List Addr) (i : Nat) (h : Heap) : Prop :=
  (∃ f0 f1, IsZipF h z TI TO f0 f1 ∧ Out f0) ∧ IsTupL h TI (is.map Value.ref) ∧ (∃ os, os.length = is.length ∧ IsTupL h TO os) ∧ Its h is ls (fun _ => i)
theorem has_of {X : Cx} {pins : List (Addr × Obj)} {σ : L2.St} {H : Hp} {s : Shared} (I : Inv X pins σ H s) {i : Nat} : ∀ {ls : List Addr} {vs : List V}, vs.length = ls.length →
    (∀ (j : Nat) l v, ls[j]? = some l → vs[j]? = some v → ∃ xs, SqT X.K H l xs ∧ xs[i]? = some v) → ∃ us, Vals vs us ∧ Has s.heap ls i us ∧ us.length = ls.length
  | [], vs, hl, _ => by
    have : vs = [] := List.length_eq_zero_iff.mp hl
    subst this
    exact ⟨[], .nil, fun j l v e => by simp at e, rfl⟩
  | l :: ls, [], hl, _ => by simp at hl
  | l :: ls, v :: vs, hl, h => by
    obtain ⟨us, r, hh, hul⟩ := has_of I (ls := ls) (vs := vs) (by simpa using hl) fun j l' v' e1 e2 => h (j + 1) l' v' e1 e2
    obtain ⟨xs, hq, hx⟩ := h 0 l v rfl rfl
    obtain ⟨its, rv, p, _⟩ := I.tuple hq
    obtain ⟨u, hu, ru⟩ := rv.get hx
    refine ⟨u :: us, .cons ru r, fun j l' v' e1 e2 => ?_, by simp [hul]⟩
    cases j with
    | zero =>
      cases e1
      cases e2
      exact ⟨its.toArray, p, by simpa using hu⟩
    | succ j => exact hh j l' v' e1 e2
theorem turn_zipN {P : Program} {w : World} {K : PySem.W.Frag} {x : Str} {p : Pos} {z TI TO : Addr} {is ls : List Addr} (D : ZApart z TI TO is ls) (hne : is ≠ []) (h100 : is.length ≤ 100) :
    Turn P w K (.Name x p) (ItzN K ls) (z :: TI :: TO :: is) z (ZSt z TI TO is ls) where
  mem := by simp
  obj := fun i h st b hb => by
    obtain ⟨⟨f0, f1, hz, _⟩, hTI, ⟨os, _, hTO⟩, hi⟩ := st
    rcases List.mem_cons.mp hb with q | hb
    · rw [q]; exact ⟨_, hz, fun v q => nomatch q⟩
    rcases List.mem_cons.mp hb with q | hb
    · rw [q]; exact ⟨_, hTI, fun v q => nomatch q⟩
    rcases List.mem_cons.mp hb with q | hb
    · rw [q]; exact ⟨_, hTO, fun v q => nomatch q⟩
    obtain ⟨j, hj, e⟩ := List.mem_iff_getElem.mp hb
    have hj2 : j < ls.length := by rw [← D.len]; exact hj
    obtain ⟨o, e1, _, d1⟩ := hi j b ls[j] (by rw [List.getElem?_eq_getElem hj, e]) (List.getElem?_eq_getElem hj2)
    exact ⟨o, e1, fun v q => by rw [d1] at q; cases q⟩
  keep := fun i h h' st k => by
    obtain ⟨⟨f0, f1, hz, o⟩, hTI, ⟨os, ol, hTO⟩, hi⟩ := st
    exact ⟨⟨f0, f1, k z (by simp) _ hz, o⟩, k TI (by simp) _ hTI, ⟨os, ol, k TO (by simp) _ hTO⟩, fun j i l e1 e2 => (hi j i l e1 e2).at fun o q => k i (by simp [List.mem_of_getElem? e1]) o q⟩
  item := by
    intro X hP hw hK hc i pins s σ H E I hf st hg
    subst hP hw hK
    obtain ⟨⟨f0, f1, hz, ho⟩, hTI, ⟨os, ol, hTO⟩, hi⟩ := st
    obtain ⟨vs, hvl, hv⟩ := hg
    obtain ⟨us, r, hh, hul⟩ := has_of I hvl hv
    have hui : us.length = is.length := by rw [hul, D.len]
    refine pyNext_zipN_item D hne hui (by omega) hz ho hTI hTO (by omega) hi hh fun h' g0 g1 os' hz' o' hTO' ol' hi' hT hsz hk => ?_
    refine ⟨_, rfl, ?_⟩
    show wpAny _ _ (pure ()) _ _ _
    have new : ObjOk X.prog X.w (upd H s.heap.objs.size (.tup vs)) h' s.heap.objs.size (.tup vs) :=
      ⟨by rw [hvl, ← D.len]; exact Nat.le_trans h100 (by decide), us, r, ⟨_, hT, rfl, _, rfl⟩⟩
    have I1 : Inv X pins σ (upd H s.heap.objs.size (.tup vs)) { s with heap := h' } :=
      I.turnedNew (t' := s.toks) (ch := z :: TI :: TO :: is) (fun c o hb q => hk c o (fun q' => hb (by simp [q'])) (fun q' => hb (by simp [q'])) (fun q' => hb (by simp [q'])) q) hf (Nat.le_refl _) new
    refine wpAny_pure ⟨.ref s.heap.objs.size, _, I1, rfl, ⟨_, vs, rfl, I.hok.fresh (Nat.le_refl _), rfl, hvl, fun j l xs e1 hq => ?_⟩, ⟨⟨g0, g1, hz', o'⟩, hk _ _ (zTI D).1 (zTI D).2 (fun q => iTI D q rfl) hTI, ⟨os', by omega, hTO'⟩, hi'⟩, fun c hcm => ?_⟩
    · have hj : j < vs.length := by rw [hvl]; exact (List.getElem?_eq_some_iff.mp e1).1
      obtain ⟨xs', hq', hx'⟩ := hv j l vs[j] e1 (List.getElem?_eq_getElem hj)
      rw [I.tuple_inj hq hq', hx', List.getElem?_eq_getElem hj]
    · have hlt : c < s.heap.objs.size := by
        rcases List.mem_cons.mp hcm with q | hb
        · rw [q]; exact Heap.lt_size hz
        rcases List.mem_cons.mp hb with q | hb
        · rw [q]; exact Heap.lt_size hTI
        rcases List.mem_cons.mp hb with q | hb
        · rw [q]; exact Heap.lt_size hTO
        obtain ⟨j, hj, e⟩ := List.mem_iff_getElem.mp hb
        have hj2 : j < ls.length := by rw [← D.len]; exact hj
        obtain ⟨o, e1, _, d1⟩ := hi j c ls[j] (by rw [List.getElem?_eq_getElem hj, e]) (List.getElem?_eq_getElem hj2)
        exact Heap.lt_size e1
      rw [upd_ne (Nat.ne_of_lt hlt)]
      exact (hf c hcm).1
  done := by
    intro X hP hw hK hc i pins s σ H E I hf st hg
    subst hP hw hK
    obtain ⟨⟨f0, f1, hz, ho⟩, hTI, ⟨os, ol, hTO⟩, hi⟩ := st
    obtain ⟨l0, rest, xs, rfl, hq, hx⟩ := hg
    obtain ⟨its, rv, p, _⟩ := I.tuple hq
    have l1 := rv.length
    cases is with
    | nil => exact absurd rfl hne
    | cons i0 is =>
      exact pyNext_zipN_end (xs := its.toArray) (I.ok.hd hc) D hz ho hTI hTO (hi 0 i0 l0 rfl rfl) p (by simp; omega) fun h' hk => ⟨rfl, I.turnedL (t' := s.toks) (ch := z :: TI :: TO :: i0 :: is) (fun c o hb q =>
        hk c o (fun q' => hb (by simp [q'])) (fun q' => hb (by simp [q'])) (fun q' => hb (List.mem_cons_of_mem _ (List.mem_cons_of_mem _ (List.mem_cons_of_mem _ q')))) q) hf⟩
  self := fun A i s Q E st h => by
    obtain ⟨⟨f0, f1, hz, ho⟩, _⟩ := st
    have hT : s.TypeIs (.ref z) "zip" := ⟨_, hz, rfl⟩
    refine wpAny_pyIter_slot hT F.slot_zip_iter (wpAny_call_entry F.slot_zip_iter hT F.entry_zip_iter ?_ (F.args_zip_iter_1 _))
    show wpAny _ _ (ret (.ref z)) _ _ s
    exact wpAny_pure ⟨_, rfl, "zip", _, hT, F.slot_zip_next.lookup, h⟩
end ZN

set_option Elab.async false
set_option linter.all false
set_option maxRecDepth 100000
set_option maxHeartbeats 4000000
namespace ZN
open PySem PySem.Spec PyProof.Rows L2
open RZ
section
variable {prog : Program} {w : World} {A : Around} {E : Value → Shared → Prop} {s : Shared}
theorem callWith_lone {T : String} {e : Expr} {env : Env} {p pos : Pos} {Q : Value → Shared → Prop} (h : wpAny (model prog w) A (eval e env) (fun v s₁ => PySem.W.StarOf (model prog w) A E v (fun vs s₂ => wpAny (model prog w) A (call (.type T) vs) Q E s₂) s₁) E s)
    (he : starEach [.Starred e p] env = [(true, eval e env)] := by rfl) : wpAny (model prog w) A (callWith pos (.type T) [] (backTo pos (starEach [.Starred e p] env)) []) Q E s := by
  rw [he]
  exact callWith_typeStar rfl (PySem.W.ks_lone h)
end
theorem vals_refs : ∀ {ls : List Addr} {us : List Value}, Vals (ls.map V.ref) us → us = ls.map Value.ref
  | [], _, .nil => rfl
  | l :: ls, _, .cons r rr => by
    cases r
    rw [vals_refs rr]
    rfl
theorem its_mem {b n i : Nat} (hi : i ∈ itsOf b n) : b ≤ i ∧ i < b + n := by
  obtain ⟨j, hj, e⟩ := List.mem_iff_getElem.mp hi
  have h : j < n ∧ i = b + j := itsOf_at (b := b) (n := n) (j := j) (i := i) (by rw [List.getElem?_eq_getElem hj, e])
  omega
theorem apart_of (b : Nat) (ls : List Nat) (hlt : ∀ l ∈ ls, l < b) : ZApart (b + ls.length + 2) (b + ls.length) (b + ls.length + 1) (itsOf b ls.length) ls := by
  have nd : (itsOf b ls.length : List Nat).Nodup := by
    show List.Pairwise (fun (x y : Nat) => x ≠ y) ((List.range ls.length).map fun (j : Nat) => b + j)
    rw [List.pairwise_map]
    refine List.Pairwise.imp ?_ (List.pairwise_lt_range)
    intro x y h
    omega
  have ne1 : ∀ x : Nat, b + ls.length ≤ x → x ∉ itsOf b ls.length := fun x h q => by
    have := its_mem q
    omega
  have n1 : (b + ls.length + 2 : Nat) ≠ b + ls.length := by omega
  have n2 : (b + ls.length + 2 : Nat) ≠ b + ls.length + 1 := by omega
  have n3 : (b + ls.length : Nat) ≠ b + ls.length + 1 := by omega
  refine ⟨?_, fun l hl => ⟨Nat.ne_of_lt ?_, Nat.ne_of_lt ?_, fun q => ?_⟩, itsOf_len _ _⟩
  · rw [List.nodup_cons, List.nodup_cons, List.nodup_cons]
    refine ⟨fun q => ?_, fun q => ?_, fun q => ?_, nd⟩
    · rcases List.mem_cons.mp q with q | q
      · exact n1 q
      rcases List.mem_cons.mp q with q | q
      · exact n2 q
      exact ne1 _ (by omega) q
    · rcases List.mem_cons.mp q with q | q
      · exact n3 q
      exact ne1 _ (by omega) q
    · exact ne1 _ (by omega) q
  · have := hlt l hl
    exact Nat.lt_of_lt_of_le this (by omega)
  · have := hlt l hl
    exact Nat.lt_of_lt_of_le this (by omega)
  · exact Nat.lt_irrefl _ (Nat.lt_of_lt_of_le (hlt l hl) (its_mem q).1)
theorem le_of (b n x : Nat) (hb : x ∈ (b + n + 2) :: (b + n) :: (b + n + 1) :: (itsOf b n : List Nat)) : b ≤ x := by
  rcases List.mem_cons.mp hb with q | hb
  · omega
  rcases List.mem_cons.mp hb with q | hb
  · omega
  rcases List.mem_cons.mp hb with q | hb
  · omega
  exact (its_mem hb).1
def iZipStar (K : PySem.W.Frag) (te : TE) : TI := fun σ H R => te σ H fun v H1 => ∃ (a : Addr) (ls : List Addr), v = .ref a ∧ SqL K H1 a (ls.map V.ref) ∧ 1 ≤ ls.length ∧ ls.length ≤ 4 ∧ (∀ l ∈ ls, ∃ xs, SqT K H1 l xs) ∧ R (ItzN K ls) H1
theorem pi_zipStar (K : PySem.W.Frag) {X : Cx} {e : Expr} {te : TE} {x : Str} {p q r pos : Pos} (hg : Gl X "zip") (hm : X.mg "zip" = none) (he : PE X e te) (hK : X.K = K := by rfl)
    (hs : starEach [.Starred e r] X.env = [(true, eval e X.env)] := by rfl) : PI X (.Name x p) (.Call (.Name "zip" q) [.Starred e r] [] pos) (iZipStar K te) := by
  subst hK
  refine ⟨fun pins s σ H R I h => ?_⟩
  refine Call_ (ld_blt I hg hm PyProof.Rows.boot_zip (callWith_lone (thn (he.run pins s σ H _ I h) fun v s1 ⟨y, H1, I1, ry, q1⟩ => ?_) hs))
  obtain ⟨a, ls, ey, hq, l1, l4, ht, hR⟩ := q1
  subst ey
  obtain rfl : v = Value.ref a := ry
  refine StX.star_any I1 (.inr hq) fun us s2 I2 rv => ?_
  rw [vals_refs rv]
  have ht2 : ∀ l ∈ ls, ∃ xs, s2.heap.IsTuple l xs := fun l hl => by
    obtain ⟨xs, hx⟩ := ht l hl
    obtain ⟨its, _, p, _⟩ := I2.tuple hx
    exact ⟨_, p⟩
  refine call_zipN l1 l4 ht2 fun h' M => ?_
  have hT : ({ s2 with heap := h' } : Shared).TypeIs (.ref (s2.heap.objs.size + ls.length + 2)) "zip" := ⟨_, M.zz, rfl⟩
  refine wpAny_pyIter_slot hT F.slot_zip_iter (wpAny_call_entry F.slot_zip_iter hT F.entry_zip_iter ?_ (F.args_zip_iter_1 _))
  show wpAny _ _ (ret (.ref (s2.heap.objs.size + ls.length + 2))) _ _ _
  refine wpAny_pure ⟨_, rfl, "zip", _, hT, F.slot_zip_next.lookup, ?_⟩
  have I3 : Inv X pins σ H1 { s2 with heap := h' } := I2.kept (t' := s2.toks) M.kp
  have hlt : ∀ l ∈ ls, l < s2.heap.objs.size := fun l hl => by
    obtain ⟨xs, o, ho, _⟩ := ht2 l hl
    exact Heap.lt_size ho
  have D := apart_of s2.heap.objs.size ls hlt
  have hne : itsOf s2.heap.objs.size ls.length ≠ [] := fun q => by
    have := congrArg List.length q
    rw [itsOf_len] at this
    simp at this
    subst this
    simp at l1
  obtain ⟨os, ol, hos⟩ := M.to
  refine ⟨_, _, _, _, H1, rfl, I3, turn_zipN D hne (by rw [itsOf_len]; omega), ⟨⟨_, _, M.zz, .inl rfl⟩, M.ti, ⟨os, by rw [ol, itsOf_len], hos⟩, M.it⟩, fun b hb => ?_, hR⟩
  have hle : s2.heap.objs.size ≤ b := le_of s2.heap.objs.size ls.length b hb
  have F2 := I2.fpOk hle (I2.hok.fresh hle)
  exact F2
/-- a comprehension over zip of some tuples of one length -/
theorem lc_zipN {K : PySem.W.Frag} {ls : List Addr} {xss : List (List V)} {g : TG} {tt : L2.TT} {te : TE} {vs : List Nat} {σ : L2.St} {H1 : Hp} {D : Addr} {Qd : Hp → Prop} (n : Nat) (hls : ls ≠ []) (hxl : xss.length = ls.length) (hx : ∀ xs ∈ xss, xs.length = n) (Pv : Nat → Hp → Prop) (h0 : Pv 0 (upd H1 D (.lst [])))
    (hl : ∀ i H, i ≤ n → Pv i H → ∀ (j : Nat) l xs, ls[j]? = some l → xss[j]? = some xs → SqT K H l xs)
    (hs : ∀ (i : Nat) (ws : List V) (T : Addr) (H : Hp), i < n → ws = xss.map (fun xs => xs.getD i V.non) → Pv i H → H T = none → g (.ref T) (wipe σ vs) (upd H T (.tup ws)) fun σ2 H2 => wipe σ2 vs = wipe σ vs ∧ tt σ2 H2 fun b H3 =>
      if b = true then te σ2 H3 fun y H4 => ∃ acc, H4 D = some (.lst acc) ∧ acc.length < sizeLine ∧ Pv (i + 1) (upd H4 D (.lst (acc ++ [y]))) else Pv (i + 1) H3) (hd : ∀ H, Pv n H → Qd H) :
    ∃ W : Nat → Nat → Hp → Prop, (∃ m, W 0 m (upd H1 D (.lst []))) ∧ ∀ i m H, W i m H →
      ((ItzN K ls).stop i H ∧ Qd H) ∨ ((ItzN K ls).go i H ∧ ∃ Nx : Hp → Prop, (∀ H', Nx H' → ∃ m', m' < m ∧ W (i + 1) m' H') ∧ ∀ x H', (ItzN K ls).yld i H x H' → g x (wipe σ vs) H' fun σ2 H2 => wipe σ2 vs = wipe σ vs ∧ tt σ2 H2 fun b H3 =>
        if b = true then te σ2 H3 fun y H4 => ∃ acc, H4 D = some (.lst acc) ∧ acc.length < sizeLine ∧ Nx (upd H4 D (.lst (acc ++ [y]))) else Nx H3) := by
  refine ⟨fun i m H => m = n - i ∧ i ≤ n ∧ Pv i H, ⟨n, by simp, Nat.zero_le _, h0⟩, ?_⟩
  rintro i m H ⟨rfl, hi, p⟩
  have hq := hl i H hi p
  by_cases hlt : i < n
  · have at_ : ∀ (j : Nat) l, ls[j]? = some l → ∃ xs, xss[j]? = some xs ∧ SqT K H l xs ∧ xs[i]? = some (xs.getD i V.non) := fun j l e => by
      have hj : j < xss.length := by rw [hxl]; exact (List.getElem?_eq_some_iff.mp e).1
      refine ⟨xss[j], List.getElem?_eq_getElem hj, hq j l _ e (List.getElem?_eq_getElem hj), ?_⟩
      have : i < xss[j].length := by rw [hx _ (List.getElem_mem hj)]; exact hlt
      rw [List.getD_eq_getElem?_getD, List.getElem?_eq_getElem this]
      rfl
    refine .inr ⟨⟨xss.map fun xs => xs.getD i V.non, by rw [List.length_map, hxl], fun j l v e1 e2 => ?_⟩, Pv (i + 1), fun H' p' => ⟨n - (i + 1), by omega, rfl, hlt, p'⟩, fun v H' y => ?_⟩
    · obtain ⟨xs, e3, h1, h2⟩ := at_ j l e1
      rw [List.getElem?_map, e3] at e2
      cases e2
      exact ⟨xs, h1, h2⟩
    · obtain ⟨T, ws, rfl, hT, rfl, hwl, hw⟩ := y
      refine hs i ws T H hlt ?_ p hT
      refine List.ext_getElem? fun j => ?_
      by_cases hj : j < ls.length
      · obtain ⟨xs, e3, h1, h2⟩ := at_ j ls[j] (List.getElem?_eq_getElem hj)
        rw [List.getElem?_map, e3, ← hw j ls[j] xs (List.getElem?_eq_getElem hj) h1, h2]
        rfl
      · rw [List.getElem?_eq_none (by omega), List.getElem?_eq_none (by rw [List.length_map]; omega)]
  · have e : i = n := by omega
    subst e
    cases ls with
    | nil => exact absurd rfl hls
    | cons l0 rest =>
      cases xss with
      | nil => simp at hxl
      | cons xs0 xss =>
        exact .inl ⟨⟨l0, rest, xs0, rfl, hq 0 l0 xs0 rfl rfl, by rw [hx xs0 List.mem_cons_self]; exact Nat.le_refl _⟩, hd H p⟩
end ZN

set_option Elab.async false
set_option linter.all false
set_option maxRecDepth 100000
set_option maxHeartbeats 4000000
/-! zip(a, b) of two tuples, also where the second one is the shorter, a name as target -/
namespace ZN
open PySem PySem.Spec PyProof.Rows L2
open RZ
section
variable {prog : Program} {w : World} {A : Around} {E : Value → Shared → Prop} {s : Shared}
theorem zip2_free_end {z TI TO i1 i2 l1 l2 : Addr} {f0 x : Value} {f1 : Bool} {k : Nat} {xs ys : Array Value} {os : List Value} {Q : Fin → Shared → Prop} (hA : A.handled = none) (D : ZApart z TI TO [i1, i2] [l1, l2])
    (hf : ∀ Q' : Bool → Shared → Prop, Q' true s → wpAny (model prog w) A (Builtin.SmallTypes.ownedTupleIsFree (.ref z)) Q' E s)
    (hz : IsZipF s.heap z TI TO f0 f1) (hTI : IsTupL s.heap TI ([i1, i2].map Value.ref)) (hTO : IsTupL s.heap TO os) (hos : os.length ≤ 100)
    (h1 : s.heap.IsTupleIter i1 l1 k) (t1 : s.heap.IsTuple l1 xs) (hx : xs[k]? = some x) (h2 : s.heap.IsTupleIter i2 l2 k) (t2 : s.heap.IsTuple l2 ys) (hy : ys[k]? = none)
    (hE : ∀ h' e, (∀ c o, c ≠ z → c ≠ TO → c ∉ [i1, i2] → s.heap.get? c = some o → h'.get? c = some o) → (∃ o, h'.get? e = some o ∧ o.cls = .type "StopIteration") → E (.ref e) { s with heap := h' }) :
    wpAny (model prog w) A (Builtin.«zip.__next__» ⟨[.ref z], []⟩) Q E s := by
  have m1 : i1 ∈ [i1, i2] := List.mem_cons_self
  have m2 : i2 ∈ [i1, i2] := List.mem_cons_of_mem _ List.mem_cons_self
  obtain ⟨l11, l12, l13⟩ := D.lz l1 List.mem_cons_self
  obtain ⟨l21, l22, l23⟩ := D.lz l2 (List.mem_cons_of_mem _ List.mem_cons_self)
  have i12 : i2 ≠ i1 := fun q => absurd (nodup_at D (a := 0) (b := 1) (i := i1) rfl (by rw [← q]; rfl)) (by decide)
  show wpAny _ _ (field (.ref z) 2 >>= _) _ _ _
  refine wpAny_bind (wpAny_field hz rfl (x := .bool false) rfl ?_)
  show wpAny _ _ (field (.ref z) 3 >>= _) _ _ _
  refine wpAny_bind (wpAny_field hz rfl (x := .ref TI) rfl ?_)
  refine wpAny_bind (wpAny_seqItems hTI rfl ?_)
  dsimp only
  rw [if_neg (by simp)]
  show wpAny _ _ (Builtin.SmallTypes.ownedTupleIsFree (.ref z) >>= _) _ _ _
  refine wpAny_bind (hf _ ?_)
  simp only [if_true]
  refine wpAny_bind (wpAny_rule ?_)
  refine wpAny_bind (wpAny_field hz rfl (x := .ref TO) rfl ?_)
  refine wpAny_bind (wpAny_setField_rec hz (by simp) fun h₁ hz₁ hs₁ => ?_)
  replace hz₁ : IsZipF h₁ z TI TO .ellipsis f1 := hz₁
  refine wpAny_bind ?_
  simp only [List.map_cons, List.map_nil, List.zipIdx_cons, List.zipIdx_nil, List.forIn_cons, List.forIn_nil]
  refine wpAny_bind (wpAny_bind (wpAny_onRaise ?_))
  show wpAny _ _ (Builtin.SmallTypes.nextOf (.ref i1) >>= _) _ _ _
  refine wpAny_bind (nextOf_tuple_item (h1.extBut hs₁.extBut (zi D m1)) (t1.extBut hs₁.extBut l11) hx fun h₂ h1₂ hs₂ => wpAny_pure ?_)
  have hTO₂ : IsTupL h₂ TO os := hs₂.extBut _ _ (iTO D m1).symm (hs₁.extBut _ _ (zTO D) hTO)
  refine wpAny_bind (wpAny_seqItems hTO₂ rfl ?_)
  refine wpAny_bind (wpAny_updateSeq_tup hTO₂ hos fun h₃ hTO₃ hs₃ => ?_)
  refine wpAny_bind (wpAny_letGo (wpAny_pure ?_))
  refine wpAny_bind (wpAny_bind (wpAny_onRaise ?_))
  show wpAny _ _ (Builtin.SmallTypes.nextOf (.ref i2) >>= _) _ _ _
  refine wpAny_bind (nextOf_tuple_end hA (((h2.extBut hs₁.extBut (zi D m2)).extBut hs₂.extBut i12).extBut hs₃.extBut (iTO D m2)) (((t2.extBut hs₁.extBut l21).extBut hs₂.extBut (fun q => l23 (q ▸ m1))).extBut hs₃.extBut l22) hy fun h₄ e hs₄ he => ?_)
  obtain ⟨oe, hoe, hce⟩ := he
  have hz₄ : IsZipF h₄ z TI TO .ellipsis f1 := hs₄ _ _ (zi D m2).symm (hs₃.extBut _ _ (zTO D).symm (hs₂.extBut _ _ (zi D m1).symm hz₁))
  have hez : e ≠ z := fun q => by subst q; rw [hz₄] at hoe; cases hoe; simp at hce
  refine wpAny_setField_rec hz₄ (by simp) fun h₅ _ hs₅ => hE h₅ e (fun c o c1 c2 c3 q => hs₅.extBut _ _ c1 (hs₄ _ _ (fun y => c3 (y ▸ m2)) (hs₃.extBut _ _ c2 (hs₂.extBut _ _ (fun y => c3 (y ▸ m1)) (hs₁.extBut _ _ c1 q))))) ⟨oe, hs₅.extBut _ _ hez hoe, hce⟩
theorem zip2_held_end {z TI TO i1 i2 l1 l2 : Addr} {f0 x : Value} {f1 : Bool} {k : Nat} {xs ys : Array Value} {Q : Fin → Shared → Prop} (hA : A.handled = none) (D : ZApart z TI TO [i1, i2] [l1, l2])
    (hf : ∀ Q' : Bool → Shared → Prop, (∀ h', IsZipF h' z TI TO f0 true → Heap.SameBut z s.heap h' → Q' false { s with heap := h' }) → wpAny (model prog w) A (Builtin.SmallTypes.ownedTupleIsFree (.ref z)) Q' E s)
    (hz : IsZipF s.heap z TI TO f0 f1) (hTI : IsTupL s.heap TI ([i1, i2].map Value.ref))
    (h1 : s.heap.IsTupleIter i1 l1 k) (t1 : s.heap.IsTuple l1 xs) (hx : xs[k]? = some x) (h2 : s.heap.IsTupleIter i2 l2 k) (t2 : s.heap.IsTuple l2 ys) (hy : ys[k]? = none)
    (hE : ∀ h' e, (∀ c o, c ≠ z → c ≠ TO → c ∉ [i1, i2] → s.heap.get? c = some o → h'.get? c = some o) → (∃ o, h'.get? e = some o ∧ o.cls = .type "StopIteration") → E (.ref e) { s with heap := h' }) :
    wpAny (model prog w) A (Builtin.«zip.__next__» ⟨[.ref z], []⟩) Q E s := by
  have m1 : i1 ∈ [i1, i2] := List.mem_cons_self
  have m2 : i2 ∈ [i1, i2] := List.mem_cons_of_mem _ List.mem_cons_self
  obtain ⟨l11, l12, l13⟩ := D.lz l1 List.mem_cons_self
  obtain ⟨l21, l22, l23⟩ := D.lz l2 (List.mem_cons_of_mem _ List.mem_cons_self)
  have i12 : i2 ≠ i1 := fun q => absurd (nodup_at D (a := 0) (b := 1) (i := i1) rfl (by rw [← q]; rfl)) (by decide)
  show wpAny _ _ (field (.ref z) 2 >>= _) _ _ _
  refine wpAny_bind (wpAny_field hz rfl (x := .bool false) rfl ?_)
  show wpAny _ _ (field (.ref z) 3 >>= _) _ _ _
  refine wpAny_bind (wpAny_field hz rfl (x := .ref TI) rfl ?_)
  refine wpAny_bind (wpAny_seqItems hTI rfl ?_)
  dsimp only
  rw [if_neg (by simp)]
  show wpAny _ _ (Builtin.SmallTypes.ownedTupleIsFree (.ref z) >>= _) _ _ _
  refine wpAny_bind (hf _ fun h₁ hz₁ hs₁ => ?_)
  simp only [Bool.false_eq_true, if_false]
  refine wpAny_bind ?_
  rw [← Array.forIn_toList]
  simp only [List.map_cons, List.map_nil, List.forIn_cons, List.forIn_nil]
  refine wpAny_bind (wpAny_bind (wpAny_holding ?_))
  show wpAny _ _ (Builtin.SmallTypes.nextOf (.ref i1) >>= _) _ _ _
  refine wpAny_bind (nextOf_tuple_item (h1.extBut hs₁.extBut (zi D m1)) (t1.extBut hs₁.extBut l11) hx fun h₂ h1₂ hs₂ => wpAny_pure ?_)
  refine wpAny_pure ?_
  refine wpAny_bind (wpAny_bind (wpAny_holding ?_))
  show wpAny _ _ (Builtin.SmallTypes.nextOf (.ref i2) >>= _) _ _ _
  refine wpAny_bind (nextOf_tuple_end hA ((h2.extBut hs₁.extBut (zi D m2)).extBut hs₂.extBut i12) ((t2.extBut hs₁.extBut l21).extBut hs₂.extBut (fun q => l23 (q ▸ m1))) hy fun h₄ e hs₄ he => ?_)
  exact hE h₄ e (fun c o c1 _ c3 q => hs₄ _ _ (fun y => c3 (y ▸ m2)) (hs₂.extBut _ _ (fun y => c3 (y ▸ m1)) (hs₁.extBut _ _ c1 q))) he
theorem pyNext_zip2_end {z TI TO i1 i2 l1 l2 : Addr} {f0 x : Value} {f1 : Bool} {k : Nat} {xs ys : Array Value} {os : List Value} {Q : Option Value → Shared → Prop} (hA : A.handled = none) (D : ZApart z TI TO [i1, i2] [l1, l2])
    (hz : IsZipF s.heap z TI TO f0 f1) (ho : Out f0) (hTI : IsTupL s.heap TI ([i1, i2].map Value.ref)) (hTO : IsTupL s.heap TO os) (hos : os.length ≤ 100)
    (h1 : s.heap.IsTupleIter i1 l1 k) (t1 : s.heap.IsTuple l1 xs) (hx : xs[k]? = some x) (h2 : s.heap.IsTupleIter i2 l2 k) (t2 : s.heap.IsTuple l2 ys) (hy : ys[k]? = none)
    (hQ : ∀ h', (∀ c o, c ≠ z → c ≠ TO → c ∉ [i1, i2] → s.heap.get? c = some o → h'.get? c = some o) → Q none { s with heap := h' }) :
    wpAny (model prog w) A (pyNext (.ref z)) Q E s := by
  have hT : s.TypeIs (.ref z) "zip" := ⟨_, hz, rfl⟩
  unfold pyNext
  rcases free_cases (prog := prog) (w := w) hz ho with hf | hf
  · refine wpAny_bind (wpAny_attempt (wpAny_callSpecial?_slot (name := Str.ofString "__next__") hT F.slot_zip_next
      (wpAny_call_entry F.slot_zip_next hT F.entry_zip_next (zip2_free_end hA D (hf _ _) hz hTI hTO hos h1 t1 hx h2 t2 hy fun h' e hk he => ?_) (F.args_zip_next_1 _))))
    obtain ⟨o, ho, hc⟩ := he
    refine wpAny_bind (wpAny_isInstance (T := "StopIteration") (b := true) ⟨o, ho, hc⟩ isSubtype_stop ?_)
    exact wpAny_pure (hQ _ hk)
  · refine wpAny_bind (wpAny_attempt (wpAny_callSpecial?_slot (name := Str.ofString "__next__") hT F.slot_zip_next
      (wpAny_call_entry F.slot_zip_next hT F.entry_zip_next (zip2_held_end hA D (hf _ _) hz hTI h1 t1 hx h2 t2 hy fun h' e hk he => ?_) (F.args_zip_next_1 _))))
    obtain ⟨o, ho, hc⟩ := he
    refine wpAny_bind (wpAny_isInstance (T := "StopIteration") (b := true) ⟨o, ho, hc⟩ isSubtype_stop ?_)
    exact wpAny_pure (hQ _ hk)
end
/-- two tuples: it ends with the shorter one -/
def Itz2 (K : PySem.W.Frag) (a b : Addr) : It :=
  ⟨(ItzN K [a, b]).go, (ItzN K [a, b]).yld, fun i H => ∃ xs ys : List V, SqT K H a xs ∧ SqT K H b ys ∧ (xs.length ≤ i ∨ (i < xs.length ∧ ys.length ≤ i))⟩
theorem turn_zip2 {P : Program} {w : World} {K : PySem.W.Frag} {x : Str} {p : Pos} {z TI TO i1 i2 a b : Addr} (D : ZApart z TI TO [i1, i2] [a, b]) :
    Turn P w K (.Name x p) (Itz2 K a b) (z :: TI :: TO :: [i1, i2]) z (ZSt z TI TO [i1, i2] [a, b]) :=
  let T := turn_zipN (P := P) (w := w) (K := K) (x := x) (p := p) D (by simp) (by simp)
  { mem := T.mem, obj := T.obj, keep := T.keep, item := T.item, self := T.self
    done := by
      intro X hP hw hK hc i pins s σ H E I hf st hg
      obtain ⟨xs, ys, hq, hq2, h⟩ := hg
      rcases h with h | ⟨h, h'⟩
      · exact T.done X hP hw hK hc i pins s σ H E I hf st ⟨a, [b], xs, rfl, hq, h⟩
      · subst hP hw hK
        obtain ⟨⟨f0, f1, hz, ho⟩, hTI, ⟨os, ol, hTO⟩, hi⟩ := st
        obtain ⟨its, rv, p1, _⟩ := I.tuple hq
        obtain ⟨its2, rv2, p2, _⟩ := I.tuple hq2
        have e1 := rv.length
        have e2 := rv2.length
        exact pyNext_zip2_end (x := its[i]'(by omega)) (I.ok.hd hc) D hz ho hTI hTO (by rw [ol]; simp) (hi 0 i1 a rfl rfl) p1 (by simp) (hi 1 i2 b rfl rfl) p2 (by simp; omega) fun h' hk => ⟨rfl, I.turnedL (t' := s.toks) (ch := z :: TI :: TO :: [i1, i2]) (fun c o hb q =>
          hk c o (fun q' => hb (by simp [q'])) (fun q' => hb (by simp [q'])) (fun q' => hb (List.mem_cons_of_mem _ (List.mem_cons_of_mem _ (List.mem_cons_of_mem _ q')))) q) hf⟩ }
def iZip2 (K : PySem.W.Frag) (ta : TA) : TI := fun σ H R => ta σ H fun vs H1 => ∃ a b xs ys, vs = [.ref a, .ref b] ∧ SqT K H1 a xs ∧ SqT K H1 b ys ∧ R (Itz2 K a b) H1
theorem pi_zip2 (K : PySem.W.Frag) {X : Cx} {e e2 : Expr} {ta : TA} {x : Str} {p q pos : Pos} (hg : Gl X "zip") (hm : X.mg "zip" = none) (ha : PA X [e, e2] ta) (hK : X.K = K := by rfl)
    (hs : starEach [e, e2] X.env = (false, eval e X.env) :: starEach [e2] X.env := by rfl) (hpl : (backTo pos (starEach [e2] X.env)).any (·.1) = false := by rfl) : PI X (.Name x p) (.Call (.Name "zip" q) [e, e2] [] pos) (iZip2 K ta) := by
  subst hK
  refine ⟨fun pins s σ H R I h => ?_⟩
  refine Call_ (ld_blt I hg hm PyProof.Rows.boot_zip (PyProof.Rows.callWith_type1 (thn (ha.run pos pins s σ H _ I h) fun us s1 ⟨vs, H1, I1, r1, q1⟩ => ?_) hs hpl))
  obtain ⟨a, b, xs, ys, rfl, hqx, hqy, hR⟩ := q1
  have rv : us = [a, b].map Value.ref := vals_refs (ls := [a, b]) r1
  rw [rv]
  have ht2 : ∀ l ∈ [a, b], ∃ xs, s1.heap.IsTuple l xs := fun l hl => by
    simp only [List.mem_cons, List.not_mem_nil, or_false] at hl
    rcases hl with rfl | rfl
    · obtain ⟨its, _, p, _⟩ := I1.tuple hqx
      exact ⟨_, p⟩
    · obtain ⟨its, _, p, _⟩ := I1.tuple hqy
      exact ⟨_, p⟩
  refine call_zipN (ls := [a, b]) (by simp) (by simp) ht2 fun h' M => ?_
  have hT : ({ s1 with heap := h' } : Shared).TypeIs (.ref (s1.heap.objs.size + 2 + 2)) "zip" := ⟨_, M.zz, rfl⟩
  refine wpAny_pyIter_slot hT F.slot_zip_iter (wpAny_call_entry F.slot_zip_iter hT F.entry_zip_iter ?_ (F.args_zip_iter_1 _))
  show wpAny _ _ (ret (.ref (s1.heap.objs.size + 2 + 2))) _ _ _
  refine wpAny_pure ⟨_, rfl, "zip", _, hT, F.slot_zip_next.lookup, ?_⟩
  have I3 : Inv X pins σ H1 { s1 with heap := h' } := I1.kept (t' := s1.toks) M.kp
  have hlt : ∀ l ∈ [a, b], l < s1.heap.objs.size := fun l hl => by
    obtain ⟨xs, o, ho, _⟩ := ht2 l hl
    exact Heap.lt_size ho
  have D := apart_of s1.heap.objs.size [a, b] hlt
  obtain ⟨os, ol, hos⟩ := M.to
  refine ⟨_, _, _, _, H1, rfl, I3, turn_zip2 (i1 := s1.heap.objs.size + 0) (i2 := s1.heap.objs.size + 1) D, ⟨⟨_, _, M.zz, .inl rfl⟩, M.ti, ⟨os, ol, hos⟩, M.it⟩, fun c hb => ?_, hR⟩
  have hle : s1.heap.objs.size ≤ c := le_of s1.heap.objs.size 2 c hb
  exact I1.fpOk hle (I1.hok.fresh hle)
/-- a comprehension over zip of two tuples -/
theorem lc_zip2 {K : PySem.W.Frag} {a b : Addr} {xs ys : List V} {g : TG} {tt : L2.TT} {te : TE} {vs : List Nat} {σ : L2.St} {H1 : Hp} {D : Addr} {Qd : Hp → Prop} (n : Nat) (hx : n ≤ xs.length) (hy : n ≤ ys.length) (hn : xs.length ≤ n ∨ ys.length ≤ n) (Pv : Nat → Hp → Prop) (h0 : Pv 0 (upd H1 D (.lst []))) (hl : ∀ i H, i ≤ n → Pv i H → SqT K H a xs ∧ SqT K H b ys)
    (hs : ∀ (i : Nat) (x y : V) (T : Addr) (H : Hp), xs[i]? = some x → ys[i]? = some y → Pv i H → H T = none → g (.ref T) (wipe σ vs) (upd H T (.tup [x, y])) fun σ2 H2 => wipe σ2 vs = wipe σ vs ∧ tt σ2 H2 fun b H3 =>
      if b = true then te σ2 H3 fun y H4 => ∃ acc, H4 D = some (.lst acc) ∧ acc.length < sizeLine ∧ Pv (i + 1) (upd H4 D (.lst (acc ++ [y]))) else Pv (i + 1) H3) (hd : ∀ H, Pv n H → Qd H) :
    ∃ W : Nat → Nat → Hp → Prop, (∃ m, W 0 m (upd H1 D (.lst []))) ∧ ∀ i m H, W i m H →
      ((Itz2 K a b).stop i H ∧ Qd H) ∨ ((Itz2 K a b).go i H ∧ ∃ Nx : Hp → Prop, (∀ H', Nx H' → ∃ m', m' < m ∧ W (i + 1) m' H') ∧ ∀ x H', (Itz2 K a b).yld i H x H' → g x (wipe σ vs) H' fun σ2 H2 => wipe σ2 vs = wipe σ vs ∧ tt σ2 H2 fun b H3 =>
        if b = true then te σ2 H3 fun y H4 => ∃ acc, H4 D = some (.lst acc) ∧ acc.length < sizeLine ∧ Nx (upd H4 D (.lst (acc ++ [y]))) else Nx H3) := by
  refine ⟨fun i m H => m = n - i ∧ i ≤ n ∧ Pv i H, ⟨n, by simp, Nat.zero_le _, h0⟩, ?_⟩
  rintro i m H ⟨rfl, hi, p⟩
  obtain ⟨q1, q2⟩ := hl i H hi p
  by_cases hlt : i < n
  · have e1 : xs[i]? = some (xs[i]'(by omega)) := List.getElem?_eq_getElem _
    have e2 : ys[i]? = some (ys[i]'(by omega)) := List.getElem?_eq_getElem _
    refine .inr ⟨⟨[xs[i]'(by omega), ys[i]'(by omega)], rfl, fun j l v f1 f2 => ?_⟩, Pv (i + 1), fun H' p' => ⟨n - (i + 1), by omega, rfl, hlt, p'⟩, fun v H' y => ?_⟩
    · match j, f1, f2 with
      | 0, f1, f2 => cases f1; cases f2; exact ⟨xs, q1, e1⟩
      | 1, f1, f2 => cases f1; cases f2; exact ⟨ys, q2, e2⟩
      | j + 2, f1, _ => simp at f1
    · obtain ⟨T, ws, rfl, hT, rfl, hwl, hw⟩ := y
      have w1 := hw 0 a xs rfl q1
      have w2 := hw 1 b ys rfl q2
      match ws, hwl, w1, w2 with
      | [u, v], _, w1, w2 => exact hs i u v T H w1 w2 p hT
  · have e : i = n := by omega
    subst e
    refine .inl ⟨⟨xs, ys, q1, q2, ?_⟩, hd H p⟩
    rcases hn with h | h
    · exact .inl h
    · by_cases h2 : xs.length ≤ i
      · exact .inl h2
      · exact .inr ⟨by omega, h⟩
end ZN

set_option Elab.async false
set_option linter.all false
set_option maxRecDepth 100000
set_option maxHeartbeats 4000000
namespace K66
open PySem PySem.Spec PyProof.Rows L2 TK MR
variable {P : Program} {w : World} {K : PySem.W.Frag} {mg : Str → Option Value} {base : Heap}
/-! graphs: edges, steps, walks -/
/-- the pairs (a, b) of values, a at most b -/
structure GrOk (sz : Nat) (es : List (List Int)) : Prop where
  s1 : 1 ≤ sz
  s4 : sz ≤ 4
  pair : ∀ e ∈ es, ∃ a b : Int, e = [a, b] ∧ 0 ≤ a ∧ a ≤ b ∧ b < (sz : Int)
  asc : es.Pairwise fun r q => HT.lexLt r q = true
  few : es.length ≤ 30
/-- is no integer from 0 to sz - 1 -/
def NoInt (K : PySem.W.Frag) (H : Hp) (sz : Int) (x : V) : Prop := (∃ i : Int, x = .int i ∧ ¬ (0 ≤ i ∧ i ≤ sz - 1)) ∨ ∃ (ty : String) (b : Bool), (∀ H', Gr H H' → TyX K H' x (.type ty)) ∧ kitB ty "int" = some b ∧ (b = true → kitB ty "bool" = some true)
theorem NoInt.gr {H H' : Hp} {sz : Int} {x : V} (g : Gr H H') (h : NoInt K H sz x) : NoInt K H' sz x := h.imp_right fun ⟨ty, b, h1, h2⟩ => ⟨ty, b, fun H2 g2 => h1 H2 (g.trans g2), h2⟩
def sp_is_integer_no (K : PySem.W.Frag) : Sp := fun vs H Q _ => ∃ (x : V) (sz : Int), vs = [x, .int 0, .int (sz - 1)] ∧ NoInt K H sz x ∧ Q (.bl false) H
theorem ok_is_integer_no (T : Txt K mg base) : FnOk P w K mg base CX0 1 T.is_integer.f T.is_integer.fd p_is_integer (sp_is_integer_no K) := by
  refine T.is_integer.F.ok sc_is_integer (fun vs H Q E h => ?_) (fun A outer s H vs Q E hr h => ?_)
  · obtain ⟨_, _, rfl, _⟩ := h
    rfl
  · obtain ⟨x, sz, rfl, hx, q⟩ := h
    refine ⟨_, (pss_one (ps_ret (pe_and (pe_callB call_isi (by rfl) T.b_isinstance boot_isinstance (pa_cons (pv 0) (pa_cons (pe_bltn (v := .ty "int") (by rfl) T.b_int boot_int rfl) pa_nil)))
      (pe_and (pe_not (pe_callB call_isi (by rfl) T.b_isinstance boot_isinstance (pa_cons (pv 0) (pa_cons (pe_bltn (v := .ty "bool") (by rfl) T.b_bool boot_bool rfl) pa_nil))))
        (pe_one (pe_chain op_le op_le (pv 1) (pv 0) (pv 2))))))), ?_⟩
    rcases hx with ⟨v, rfl, hv⟩ | ⟨ty, b, ht, hb, hbb⟩
    · refine ⟨.int v, rfl, .int v, .ty "int", _, _, true, rfl, .ty _, .base (.int v), kit_ty (by decide +kernel), true, rfl, iteT ?_⟩
      refine ⟨.int v, rfl, .int v, .ty "bool", _, _, false, rfl, .ty _, .base (.int v), kit_ty (by decide +kernel), false, rfl, true, rfl, iteT ?_⟩
      refine ⟨.int 0, rfl, .int v, rfl, 0, v, rfl, rfl, _, rfl, ?_⟩
      by_cases h1 : 0 ≤ v
      · rw [if_pos (decide_eq_true h1)]
        refine ⟨.int (sz - 1), rfl, v, sz - 1, rfl, rfl, ?_⟩
        show Q (.bl (decide (v ≤ sz - 1))) H
        rw [decide_eq_false fun z => hv ⟨h1, z⟩]
        exact q
      · rw [if_neg (by simp [h1])]
        exact q
    · have hx := ht H Gx.refl
      refine ⟨x, rfl, x, .ty "int", _, _, b, rfl, .ty _, hx, kit_ty hb, b, rfl, ?_⟩
      cases b with
      | false => exact iteF q
      | true => exact iteT ⟨x, rfl, x, .ty "bool", _, _, true, rfl, .ty _, hx, kit_ty (hbb rfl), true, rfl, false, rfl, iteF q⟩
theorem ok_is_integer2 (T : Txt K mg base) : FnOk P w K mg base CX0 1 T.is_integer.f T.is_integer.fd p_is_integer (fun vs H Q E => sp_is_integer vs H Q E ∨ sp_is_integer_no K vs H Q E) := fn_or (ok_is_integer T) (ok_is_integer_no T)
/-! _is_edge -/
def sp_is_edge (T : Txt K mg base) : Sp := fun vs H Q _ => ∃ (sz : Int) (v : V) (a b : Int), vs = [.int sz, v] ∧ DT K H v (rowD [a, b]) ∧ TT T.tabs H ∧ 0 ≤ a ∧ a ≤ b ∧ b < sz ∧ ∀ H', Gr H H' → Q (.bl true) H'
theorem ok_is_edge (T : Txt K mg base) : FnOk P w K mg base CX0 5 T.is_edge.f T.is_edge.fd p_is_edge (sp_is_edge T) := by
  refine T.is_edge.F.ok sc_is_edge (fun vs H Q E h => ?_) (fun A outer s H vs Q E hr h => ?_)
  · obtain ⟨_, _, _, _, rfl, _⟩ := h
    rfl
  · obtain ⟨sz, v, a, b, rfl, hv, hT, ha, hab, hb, q⟩ := h
    refine ⟨_, (pss_one (ps_ret (pe_and (pe_call (ok_is_row T) hr (by rfl) T.is_row.g T.is_row.F.kp T.is_row.b .nil pass0 (pa_cons (pv 0) (pa_cons (pe_int) (pa_cons (pv 1) pa_nil)))) (pe_one (pe_cmpR op_le (pe_ix (ix_tupK K) (pv 1) pe_int (fun _ _ => rfl)) (pe_ix (ix_tupK K) (pv 1) pe_int (fun _ _ => rfl)) (nomark _)))))), ?_⟩
    refine ⟨.int sz, rfl, v, rfl, sz, 2, v, [a, b], rfl, hv, hT, rfl, fun x hx => ?_, fun H1 g1 => ⟨true, rfl, iteT ?_⟩⟩
    · simp only [List.mem_cons, List.not_mem_nil, or_false] at hx
      rcases hx with rfl | rfl <;> omega
    · obtain ⟨t, rfl, ht⟩ := (hv.gr g1).row_invS
      refine ⟨.ref t, rfl, t, _, 0, .int a, rfl, rfl, .inl (.inl ht), atI_nat (j := 0) rfl, ?_⟩
      refine ⟨.ref t, rfl, t, _, 1, .int b, rfl, rfl, .inl (.inl ht), atI_nat (j := 1) rfl, a, b, rfl, rfl, ?_⟩
      show Q (.bl (decide (a ≤ b))) H1
      rw [decide_eq_true hab]
      exact q H1 g1
theorem asc_all {H : Hp} {sz : V} {b : Addr} {xs : List V} {es : List (List Int)} {Q : VK} (hB : SqT K H b xs) (hD : DTs K H xs (es.map rowD)) (asc : es.Pairwise fun r q => HT.lexLt r q = true) (few : es.length ≤ 30) (q : ∀ H', Gr H H' → Q (.bl true) H') :
    tCB (rAll K) (tCons (tLc (RZ.iZipA K (tCons (tVar 1) (tCons (tSl (rSlA K) (tVar 1) (tPart (tC (.int 1))) tNoPart) tNil))) (gTup K 2 (gCons (gName 2) (gCons (gName 3) gNil))) tYes (tOp (rLtT K) (tVar 2) (tVar 3)) [2, 3]) tNil) [some sz, some (.ref b), none, none] H Q := by
  have hx : xs.length = es.length := by rw [hD.1, List.length_map]
  have key : ∀ (d : Addr) (Hd : Hp), Gr H Hd → SqT K Hd d (xs.drop 1) → iZipK K (.ref b) (.ref d) Hd (fun J H1 => ∀ D, H1 D = none → ∃ W : Nat → Nat → Hp → Prop, (∃ m, W 0 m (upd H1 D (.lst []))) ∧ ∀ i m H, W i m H →
      (J.stop i H ∧ ∃ (a : Addr) (bs : List Bool), [V.ref D] = [V.ref a] ∧ SqL K H a (bs.map V.bl) ∧ Q (.bl (bs.all id)) H) ∨ (J.go i H ∧ ∃ Nx : Hp → Prop, (∀ H', Nx H' → ∃ m', m' < m ∧ W (i + 1) m' H') ∧ ∀ x H', J.yld i H x H' → gTup K 2 (gCons (gName 2) (gCons (gName 3) gNil)) x (wipe [some sz, some (.ref b), none, none] [2, 3]) H' fun σ2 H2 => wipe σ2 [2, 3] = wipe [some sz, some (.ref b), none, none] [2, 3] ∧ tYes σ2 H2 fun b H3 =>
        if b = true then tOp (rLtT K) (tVar 2) (tVar 3) σ2 H3 fun y H4 => ∃ acc, H4 D = some (.lst acc) ∧ acc.length < sizeLine ∧ Nx (upd H4 D (.lst (acc ++ [y]))) else Nx H3)) := fun d Hd g hd => by
    refine ⟨b, d, xs, xs.drop 1, rfl, .inr ⟨g.seqT hB, hd, fun D hD0 => ?_⟩⟩
    have nD : H D = none := g.free hD0
    refine lc_zipT (es.length - 1) (by omega) (by rw [List.length_drop]; omega) (.inr (by rw [List.length_drop]; omega)) (fun i H' => Gr Hd H' ∧ ∃ bs : List Bool, bs.length = i ∧ bs.all id = true ∧ H' D = some (.lst (bs.map V.bl)))
      ⟨Gx.new hD0, [], rfl, rfl, upd_same⟩ (fun i H' _ p => ⟨(g.trans p.1).seqT hB, p.1.seqT hd⟩) (fun i x y T H' e1 e2 p hT0 => ?_) (fun H' p => ?_)
    · obtain ⟨g1, bs, hl, hall, hb⟩ := p
      rw [List.getElem?_drop, Nat.add_comm] at e2
      obtain ⟨d1, f1, dv1⟩ := hD.at' e1
      obtain ⟨d2, f2, dv2⟩ := hD.at' e2
      rw [List.getElem?_map] at f1 f2
      obtain ⟨r1, h1, rfl⟩ := Option.map_eq_some_iff.mp f1
      obtain ⟨r2, h2, rfl⟩ := Option.map_eq_some_iff.mp f2
      have gT : Gr H (upd H' T (.tup [x, y])) := (g.trans g1).trans (Gx.new hT0)
      obtain ⟨a1, rfl, s1⟩ := (dv1.gr gT).row_inv
      obtain ⟨a2, rfl, s2⟩ := (dv2.gr gT).row_inv
      refine ⟨T, [.ref a1, .ref a2], rfl, .inl (.inl upd_same), rfl, .ref a1, [.ref a2], rfl, .ref a2, [], rfl, rfl, rfl, ?_⟩
      refine yesT ⟨.ref a1, rfl, .ref a2, rfl, a1, a2, r1, r2, rfl, rfl, s1, s2, bs.map V.bl, ?_, ?_, ?_⟩
      · rw [upd_ne (ne_of_none hb hT0)]
        exact hb
      · rw [List.length_map]
        exact small1000 (by have := (List.getElem?_eq_some_iff.mp e1).1; omega)
      · have hlt : HT.lexLt r1 r2 = true := pair_at asc h1 h2
        rw [hlt]
        exact ⟨(g1.trans (Gx.new hT0)).wr hD0, bs ++ [true], by rw [List.length_append, hl]; rfl, by rw [List.all_append, hall]; rfl, by rw [upd_same, List.map_append]; rfl⟩
    · obtain ⟨g1, bs, hl, hall, hb⟩ := p
      exact ⟨D, bs, rfl, .inl (.inl hb), by rw [hall]; exact q _ (g.trans g1)⟩
  refine ⟨.ref b, rfl, .ref b, rfl, 1, rfl, b, xs, rfl, hB, fun z => ?_, fun _ p np => ?_⟩
  · have e : xs = [] := List.length_eq_zero_iff.mp (sixZero z.1)
    refine key b H Gx.refl ?_
    have := hB
    rw [e] at this ⊢
    exact this
  · refine key p _ (Gx.new np) ?_
    rw [← cut1]
    exact .inl (.inl upd_same)
/-! _check_graph -/
def sp_check_graph (T : Txt K mg base) : Sp := fun vs H Q _ => ∃ (sz : Nat) (v : V) (es : List (List Int)), vs = [.int sz, v] ∧ DT K H v (.tuple (es.map rowD)) ∧ TT T.tabs H ∧ GrOk sz es ∧ ∀ H', Gr H H' → Q .non H'
theorem ok_check_graph (T : Txt K mg base) : FnOk P w K mg base CX0 8 T.check_graph.f T.check_graph.fd p_check_graph (sp_check_graph T) := by
  refine T.check_graph.F.ok sc_check_graph (fun vs H Q E h => ?_) (fun A outer s H vs Q E hr h => ?_)
  · obtain ⟨_, _, _, rfl, _⟩ := h
    rfl
  · obtain ⟨sz, v, es, rfl, hv, hT, G, q⟩ := h
    refine ⟨_, (pss_cons (ps_expr (pe_call (ok_check_size T) (hr.mono (by decide)) (by rfl) T.check_size.g T.check_size.F.kp T.check_size.b .nil pass0 (pa_cons (pv 0) pa_nil))) (pss_cons (ps_if (PW.pt (pw_or (pt_not (pt_val (pe_callB call_isi (by rfl) T.b_isinstance boot_isinstance (pa_cons (pv 1) (pa_cons (pe_bltn (v := .ty "tuple") (by rfl) T.b_tuple boot_tuple rfl) pa_nil)))))
        (pw_or1 (pt_not (pt_val (GA.pe_all (k := 5) hr (by rfl) T.b_all T.check_graph.TB rfl (GA.gNames_by (N := n_check_graph) (M := ["size", "edges", "-", "following", "edge"]) (sc := defScope s_check_graph) (by decide +kernel)) (pi_tup (pv 1))
          (fun A sz Hz C code fp pn hrA => pe_call (ok_is_edge T) hrA (by rfl) T.is_edge.g T.is_edge.F.kp T.is_edge.b .nil pass0 (pa_cons (pv 0) (pa_cons (pv 4) pa_nil))))))))) (pss_one (ps_never)) pss_nil) (pss_one (ps_if (pt_not (pt_val (pe_callB (cr_all rfl) (by rfl) T.b_all boot_all (pa_cons (pe_lc (own := [("edge", 2), ("following", 3)]) (g := gTup K 2 (gCons (gName 2) (gCons (gName 3) gNil))) (tt := tYes) rfl sc_check_graph.nd
          (RZ.pi_zipA (by rfl) T.b_zip (pa_cons (pv 1) (pa_cons (pe_slice sl_tupA (pv 1) (po_some pe_int) po_none) pa_nil)))
          (blkOk_by (N := n_check_graph) (sc := defScope s_check_graph) (by decide +kernel)) (fun _ _ _ _ _ => pg_tup (by rfl) (pgs_cons (pg_name (i := 2) sc_check_graph.nd rfl (Or.inl rfl)) (pgs_cons (pg_name (i := 3) sc_check_graph.nd rfl (Or.inl rfl)) pgs_nil)))
          (fun _ _ _ _ _ => pts_nil) (fun _ _ _ _ _ => pe_cmpR (op_ltTK K hr.units0) (pv 2) (pv 3) (nomark _))) pa_nil)))) (pss_one (ps_never)) pss_nil)))), ?_⟩
    have hx : v = v := rfl
    obtain ⟨b, xs, rfl, hb, hD⟩ := hv.tup_invS
    have hB : SqT K H b xs := .inl (.inl hb)
    have hx : xs.length = es.length := by rw [hD.1, List.length_map]
    refine ⟨.int sz, rfl, sz, rfl, ⟨by have := G.s1; omega, by have := G.s4; omega⟩, ?_⟩
    refine ⟨.ref b, rfl, .ref b, .ty "tuple", _, _, true, rfl, .ty _, tyT hB, kit_ty (by decide +kernel), true, rfl, ?_⟩
    refine iteF ?_
    refine ⟨.ref b, rfl, b, rfl, ⟨_, hB⟩, hT _ (by simp), fun H2 ht => ⟨es.length, fun i H' => Gr H H', Gx.tabbed (hT _ (by simp)) ht, fun i H3 hi hw => ?_, fun H3 hw => ?_⟩⟩
    · obtain ⟨vi, e, dvi⟩ := hD.at (i := i) (d := rowD es[i]) (by rw [List.getElem?_map, List.getElem?_eq_getElem hi]; rfl)
      refine ⟨⟨_, _, hw.seqT hB, e⟩, fun x H4 hy => ?_⟩
      obtain ⟨rfl, hx⟩ := hy
      have ex : x = vi := Option.some.inj ((hx _ (hw.seqT hB)).symm.trans e)
      subst ex
      obtain ⟨u, w', ee, h1, h2, h3⟩ := G.pair _ (List.getElem_mem hi)
      rw [ee] at dvi
      exact ⟨.int sz, rfl, x, rfl, sz, x, u, w', rfl, dvi.gr hw, hw.tt hT, h1, h2, h3, fun H' g => ⟨true, rfl, fun _ => hw.trans g, fun z => by cases z⟩⟩
    · refine ⟨⟨_, hw.seqT hB, by rw [hx]; exact Nat.le_refl _⟩, true, rfl, ?_⟩
      refine iteF ?_
      exact asc_all (hw.seqT hB) (hD.gr hw) G.asc G.few (fun H' g' => ⟨true, rfl, iteF (q H' (hw.trans g'))⟩)
/-! _directed -/
def swp (e : List Int) : List Int := [e.getD 1 0, e.getD 0 0]
def sp_directed (K : PySem.W.Frag) : Sp := fun vs H Q _ => ∃ (sz : Nat) (v : V) (es : List (List Int)), vs = [v] ∧ DT K H v (.tuple (es.map rowD)) ∧ GrOk sz es ∧ ∀ p H' rs, Gr H H' → H p = none → LR K H' p rs → Asc rs → (∀ x, x ∈ rs ↔ x ∈ es ∨ x ∈ es.map swp) → Q (.ref p) H'
theorem ok_directed (T : Txt K mg base) : FnOk P w K mg base CX0 1 T.directed.f T.directed.fd p_directed (sp_directed K) := by
  refine T.directed.F.ok sc_directed (fun vs H Q E h => ?_) (fun A outer s H vs Q E hr h => ?_)
  · obtain ⟨_, _, _, rfl, _⟩ := h
    rfl
  · obtain ⟨sz, v, es, rfl, hv, G, q⟩ := h
    have hu64 : (A.deeper (envOfC "_directed" (defScope s_directed) s.heap.objs.size T.directed.f (.ref T.directed.c))).units + 64 < cLine := by have := hr.un; omega
    refine ⟨_, (pss_one (ps_ret (pe_callB (cr_sortedTK K P w rfl) (by rfl) T.b_sorted boot_sorted (pa_cons (pe_callTy (cr_setOfTK K P w rfl hu64) (by rfl) T.b_set boot_set (pa_cons (pe_op op_cat (pe_callTy call_list_of (by rfl) T.b_list boot_list (pa_cons (pv 0) pa_nil)) (pe_lc (own := [("a", 1), ("b", 2)]) (g := gTup K 2 (gCons (gName 1) (gCons (gName 2) gNil))) (tt := tYes) rfl sc_directed.nd (pi_tupK K (pv 0))
          (blkOk_by (N := n_directed) (sc := defScope s_directed) (by decide +kernel)) (fun _ _ _ _ _ => pg_tup (by rfl) (pgs_cons (pg_name (i := 1) sc_directed.nd rfl (Or.inl rfl)) (pgs_cons (pg_name (i := 2) sc_directed.nd rfl (Or.inl rfl)) pgs_nil)))
          (fun _ _ _ _ _ => pts_nil) (fun _ _ _ _ _ => pe_tup (pa_cons (pv 2) (pa_cons (pv 1) pa_nil))))) pa_nil)) pa_nil)))), ?_⟩
    obtain ⟨b, xs, rfl, hb, hD⟩ := hv.tup_invS
    have xl : xs.length = es.length := by rw [hD.1, List.length_map]
    refine ⟨.ref b, rfl, b, xs, rfl, .inr (.inl (.inl hb)), fun l nl => ?_⟩
    have g1 : Gr H (upd H l (.lst xs)) := Gx.new nl
    have hl1 : (upd H l (.lst xs)) l = some (.lst xs) := upd_same
    have hb1 := Gx.tupS g1 .nil hb
    have hD1 := hD.gr g1
    generalize upd H l (.lst xs) = H1 at *
    refine ⟨.ref b, rfl, b, rfl, ⟨_, .inl (.inl hb1)⟩, fun D nD => ?_⟩
    refine lc_tup (K := K) (a := b) (xs := xs) (fun i H' => Gr H1 H' ∧ LR K H' D ((es.take i).map swp)) ⟨Gx.new nD, [], upd_same, .nil⟩ (fun i H' _ p => .inl (.inl (Gx.tupS p.1 .nil hb1))) (fun i x H' ex p => ?_) (fun H2 p => ?_)
    · obtain ⟨g2, ws, hw, hws⟩ := p
      obtain ⟨d, ed, dv⟩ := hD1.at' ex
      rw [List.getElem?_map] at ed
      obtain ⟨e, ee, rfl⟩ := Option.map_eq_some_iff.mp ed
      obtain ⟨u, u', rfl, _⟩ := G.pair e (List.mem_of_getElem? ee)
      obtain ⟨t, rfl, ht⟩ := (dv.gr g2).row_invS
      have wl : ws.length = i := by
        rw [hws.1, List.length_map, List.length_map, List.length_take]
        have := (List.getElem?_eq_some_iff.mp ee).1
        omega
      have hi : i < es.length := (List.getElem?_eq_some_iff.mp ee).1
      refine ⟨t, [.int u, .int u'], rfl, .inl (.inl ht), rfl, .int u, [.int u'], rfl, .int u', [], rfl, rfl, rfl, ?_⟩
      refine yesT ⟨.int u', rfl, .int u, rfl, by show 2 ≤ sizeLine; decide, fun t2 nt2 => ?_⟩
      have g3 : Gr H' (upd H' t2 (.tup [.int u', .int u])) := Gx.new nt2
      have hw3 := g3.lst hw
      refine ⟨ws, hw3, ?_, (g2.trans g3).wr nD, ws ++ [.ref t2], upd_same, ?_⟩
      · rw [wl]
        exact small1000 (by have := G.few; omega)
      · rw [List.take_add_one, ee, List.map_append]
        exact LR.app ((hws.gr g3).wr hw3) (DT.wr hw3 (.row (ns := [u', u]) upd_same))
    · obtain ⟨g2, ws, hw, hws⟩ := p
      rw [xl, List.take_length] at hws
      have wl : ws.length = es.length := by rw [hws.1, List.length_map, List.length_map]
      have hl2 : H2 l = some (.lst xs) := Gx.lst g2 hl1
      refine ⟨l, D, xs, ws, rfl, rfl, hl2, hw, ?_, fun p np => ?_⟩
      · rw [xl, wl]
        exact Nat.le_of_lt (small1000 (by have := G.few; omega))
      have g3 : Gr H2 (upd H2 p (.lst (xs ++ ws))) := Gx.new np
      have hp3 : (upd H2 p (.lst (xs ++ ws))) p = some (.lst (xs ++ ws)) := upd_same
      have hall : DTs K (upd H2 p (.lst (xs ++ ws))) (xs ++ ws) ((es ++ es.map swp).map rowD) := by
        rw [List.map_append]
        exact ((hD1.gr g2).app hws).gr g3
      have g03 : Gr H (upd H2 p (.lst (xs ++ ws))) := (TK.Gx.trans g1 g2).trans g3
      generalize upd H2 p (.lst (xs ++ ws)) = H3 at *
      obtain ⟨ks, ek, e2, e3⟩ := rows_at hall
      rw [ek] at hp3
      have kl : ks.length = es.length + es.length := by
        have := congrArg List.length e2
        rw [List.length_map, List.length_append, List.length_map] at this
        exact this
      have vals : ∀ q ∈ ks, q.2.length = 2 ∧ TS.Bd 4 q.2 := fun q hq => by
        have hm : q.2 ∈ es ++ es.map swp := by
          rw [← e2]
          exact List.mem_map.mpr ⟨q, hq, rfl⟩
        have s4 := G.s4
        rcases List.mem_append.mp hm with h | h
        · obtain ⟨u, u', e, h1, h2, h3⟩ := G.pair _ h
          rw [e]
          refine ⟨rfl, fun m hm => ?_⟩
          simp only [List.mem_cons, List.not_mem_nil, or_false] at hm
          rcases hm with rfl | rfl <;> omega
        · obtain ⟨e', he', e⟩ := List.mem_map.mp h
          obtain ⟨u, u', rfl, h1, h2, h3⟩ := G.pair _ he'
          rw [← e]
          refine ⟨rfl, fun m hm => ?_⟩
          have hm : m ∈ [u', u] := hm
          simp only [List.mem_cons, List.not_mem_nil, or_false] at hm
          rcases hm with rfl | rfl <;> omega
      refine ⟨p, ks, rfl, .inl (.inl hp3), fun q hq => .inl (.inl (e3 q hq)), by have := G.few; omega, fun S L nS subL all => ?_⟩
      have g4 : Gr H3 (upd H3 S (SetTO P w S L)) := Gx.new nS
      refine ⟨S, L, 2, 4, rfl, upd_same, fun q hq => .inl (.inl (Gx.tupS g4 .nil (e3 q (subL q hq)))), by decide, fun q hq => vals q (subL q hq), fun L' y pm nd few' pw ny => ?_⟩
      generalize upd H3 S (SetTO P w S L) = H4 at *
      have g5 : Gr H4 (upd H4 y (.lst (L'.map fun q => V.ref q.1))) := Gx.new ny
      have inL : ∀ q ∈ L', q ∈ ks := fun q hq => subL q (pm.mem_iff.mp hq)
      have hdD : DTs K (upd H4 y (.lst (L'.map fun q => V.ref q.1))) (L'.map fun q => V.ref q.1) ((L'.map (·.2)).map rowD) := rows_back fun q hq => Gx.tupS (g4.trans g5) .nil (e3 q (inL q hq))
      have g04 := g03.trans g4
      refine q y _ (L'.map (·.2)) (g04.trans g5) (Gr.free g04 ny) ⟨_, upd_same, hdD⟩ ?_ fun x => ?_
      · unfold Asc
        rw [List.Nodup, List.pairwise_map] at nd
        rw [List.pairwise_map]
        refine List.Pairwise.imp_of_mem ?_ (pw.and nd)
        rintro a b ha hb ⟨c, ne⟩
        obtain ⟨l1, b1⟩ := vals a (inL a ha)
        obtain ⟨l2, b2⟩ := vals b (inL b hb)
        exact lex_of_code (by rw [l1, l2]) b1 b2 c ne
      · rw [← List.mem_append, ← e2]
        constructor
        · intro hx
          obtain ⟨q, hq, rfl⟩ := List.mem_map.mp hx
          exact List.mem_map.mpr ⟨q, inL q hq, rfl⟩
        · intro hx
          obtain ⟨q, hq, rfl⟩ := List.mem_map.mp hx
          obtain ⟨q', hq', e⟩ := List.mem_map.mp (all q hq)
          rw [← e]
          exact List.mem_map.mpr ⟨q', pm.mem_iff.mpr hq', rfl⟩
/-! _is_walk -/
def steps (ns : List Int) : List (List Int) := (List.range (ns.length - 1)).map fun i => [ns.getD i 0, ns.getD (i + 1) 0]
theorem op_inDK (K : PySem.W.Frag) {X : Cx} (hu : X.A.units + 65 < cLine) (hK : X.K = K := by rfl) : OpR X (compareOp .In) (rInD K) := hK ▸ op_inD hu
def sp_is_walk (K : PySem.W.Frag) : Sp := fun vs H Q _ => ∃ (p : Addr) (v : V) (rs : List (List Int)) (ns : List Int), vs = [.ref p, v] ∧ LR K H p rs ∧ DT K H v (rowD ns) ∧ ns.length ≤ 100 ∧ ∀ H', Gr H H' → Q (.bl ((steps ns).all fun e => decide (e ∈ rs))) H'
theorem ok_is_walk (T : Txt K mg base) : FnOk P w K mg base CX0 1 T.is_walk.f T.is_walk.fd p_is_walk (sp_is_walk K) := by
  refine T.is_walk.F.ok sc_is_walk (fun vs H Q E h => ?_) (fun A outer s H vs Q E hr h => ?_)
  · obtain ⟨_, _, _, _, rfl, _⟩ := h
    rfl
  · obtain ⟨p, v, rs, ns, rfl, hp, hv, few, q⟩ := h
    have hu65 : (A.deeper (envOfC "_is_walk" (defScope s_is_walk) s.heap.objs.size T.is_walk.f (.ref T.is_walk.c))).units + 65 < cLine := by have := hr.un; omega
    refine ⟨_, (pss_one (ps_ret (pe_callB (cr_all rfl) (by rfl) T.b_all boot_all (pa_cons (pe_lc (own := [("step", 2)]) (g := gName 2) (tt := tYes) rfl sc_is_walk.nd
          (ZN.pi_zip2 K (by rfl) T.b_zip (pa_cons (pv 1) (pa_cons (pe_slice sl_tupA (pv 1) (po_some pe_int) po_none) pa_nil)))
          (blkOk_by (N := n_is_walk) (sc := defScope s_is_walk) (by decide +kernel)) (fun _ _ _ _ _ => pg_name (i := 2) sc_is_walk.nd rfl (Or.inl rfl))
          (fun _ _ _ _ _ => pts_nil) (fun _ _ _ _ _ => pe_cmpR (op_inDK K hu65) (pv 2) (pv 0) (by rfl))) pa_nil)))), ?_⟩
    obtain ⟨wa, rfl, hwa⟩ := hv.row_invS
    obtain ⟨vs, hp, hvs⟩ := hp
    have key : ∀ (d : Addr) (Hd : Hp), Gr H Hd → SqT K Hd d ((ns.map V.int).drop 1) → ∃ a b xs ys, [V.ref wa, V.ref d] = [.ref a, .ref b] ∧ SqT K Hd a xs ∧ SqT K Hd b ys ∧ (fun (J : It) (H1 : Hp) => ∀ D, H1 D = none → ∃ W : Nat → Nat → Hp → Prop, (∃ m, W 0 m (upd H1 D (.lst []))) ∧ ∀ i m H, W i m H →
      (J.stop i H ∧ ∃ (a : Addr) (bs : List Bool), [V.ref D] = [V.ref a] ∧ SqL K H a (bs.map V.bl) ∧ Q (.bl (bs.all id)) H) ∨ (J.go i H ∧ ∃ Nx : Hp → Prop, (∀ H', Nx H' → ∃ m', m' < m ∧ W (i + 1) m' H') ∧ ∀ x H', J.yld i H x H' → gName 2 x (wipe [some (.ref p), some (.ref wa), none] [2]) H' fun σ2 H2 => wipe σ2 [2] = wipe [some (.ref p), some (.ref wa), none] [2] ∧ tYes σ2 H2 fun b H3 =>
        if b = true then tOp (rInD K) (tVar 2) (tVar 0) σ2 H3 fun y H4 => ∃ acc, H4 D = some (.lst acc) ∧ acc.length < sizeLine ∧ Nx (upd H4 D (.lst (acc ++ [y]))) else Nx H3)) (ZN.Itz2 K a b) Hd := fun d Hd g hd => by
      refine ⟨wa, d, ns.map V.int, (ns.map V.int).drop 1, rfl, .inl (.inl (Gx.tupS g .nil hwa)), hd, fun D hD0 => ?_⟩
      have nD : H D = none := g.free hD0
      have sl : (steps ns).length = ns.length - 1 := by unfold steps; rw [List.length_map, List.length_range]
      refine ZN.lc_zip2 (ns.length - 1) (by rw [List.length_map]; omega) (by rw [List.length_drop, List.length_map]; omega) (.inr (by rw [List.length_drop, List.length_map]; omega)) (fun i H' => Gr Hd H' ∧ H' D = some (.lst ((((steps ns).take i).map fun e => decide (e ∈ rs)).map V.bl)))
        ⟨Gx.new hD0, upd_same⟩ (fun i H' _ p => ⟨.inl (.inl (Gx.tupS (g.trans p.1) .nil hwa)), p.1.seqT hd⟩) (fun i x y T' H' e1 e2 p hT0 => ?_) (fun H' p => ?_)
      · obtain ⟨g1, hDl⟩ := p
        rw [List.getElem?_drop, Nat.add_comm, List.getElem?_map] at e2
        rw [List.getElem?_map] at e1
        obtain ⟨u, eu, rfl⟩ := Option.map_eq_some_iff.mp e1
        obtain ⟨u', eu', rfl⟩ := Option.map_eq_some_iff.mp e2
        have hi : i + 1 < ns.length := (List.getElem?_eq_some_iff.mp eu').1
        have es : (steps ns)[i]? = some [u, u'] := by
          unfold steps
          rw [List.getElem?_map, List.getElem?_range (by omega)]
          rw [Option.map_some, List.getD_eq_getElem?_getD, List.getD_eq_getElem?_getD, eu, eu']
          rfl
        have gT : Gr H' (upd H' T' (.tup [.int u, .int u'])) := Gx.new hT0
        have hD3 := gT.lst hDl
        have hT' : DT K (upd H' T' (.tup [.int u, .int u'])) (.ref T') (rowD [u, u']) := .row upd_same
        have g3 := (g.trans g1).trans gT
        refine ⟨rfl, yesT ⟨.ref T', rfl, .ref p, rfl, _, _, hT'.dp, dp_rows (g3.lst hp) (hvs.gr g3), row_shaped _, rows_shaped rs, _, hD3, ?_, ?_⟩⟩
        · rw [List.length_map, List.length_map, List.length_take]
          exact small1000 (by omega)
        · rw [any_eqv]
          refine ⟨(g1.trans gT).wr hD0, ?_⟩
          rw [upd_same, List.take_add_one, es, List.map_append, List.map_append]
          rfl
      · obtain ⟨g1, hDl⟩ := p
        rw [← sl, List.take_length] at hDl
        refine ⟨D, _, rfl, .inl (.inl hDl), ?_⟩
        rw [List.all_map]
        exact q H' (g.trans g1)
    refine ⟨.ref wa, rfl, .ref wa, rfl, 1, rfl, wa, ns.map V.int, rfl, .inl (.inl hwa), fun z => ?_, fun _ p' np => ?_⟩
    · have e : ns.map V.int = [] := List.length_eq_zero_iff.mp (sixZero z.1)
      refine key wa H Gx.refl ?_
      rw [e] at hwa ⊢
      exact .inl (.inl hwa)
    · refine key p' _ (Gx.new np) ?_
      rw [← cut1]
      exact .inl (.inl upd_same)
end K66

set_option Elab.async false
set_option linter.all false
set_option maxRecDepth 100000
set_option maxHeartbeats 4000000
namespace K66
open PySem PySem.Spec PyProof.Rows L2 TK MR
variable {P : Program} {w : World} {K : PySem.W.Frag} {mg : Str → Option Value} {base : Heap}
/-! shows_odd_walk -/
def oddW (es : List (List Int)) (ns : List Int) : Bool := decide (ns.length ≠ 0) && (decide (ns.length % 2 = 0) && (decide (ns.getD 0 0 = ns.getD (ns.length - 1) 0) && (steps ns).all fun e => decide (e ∈ es ∨ e ∈ es.map swp)))
/-- is no tuple of an even number of values, at least two -/
def BadW (K : PySem.W.Frag) (H : Hp) (sz : Int) (u : V) : Prop :=
  (∃ ty : String, (∀ H', Gr H H' → TyX K H' u (.type ty)) ∧ kitB ty "tuple" = some false) ∨ (∃ (a : Addr) (xs : List V), u = .ref a ∧ H a = some (.tup xs) ∧ (xs.length = 0 ∨ xs.length % 2 ≠ 0)) ∨
  ∃ (a : Addr) (x : V) (xs : List V), u = .ref a ∧ H a = some (.tup (x :: xs)) ∧ (x :: xs).length % 2 = 0 ∧ NoInt K H sz x
theorem at_last {ns : List Int} (h : ns ≠ []) : atI (ns.map V.int) (-1) = some (.int (ns.getD (ns.length - 1) 0)) := by
  obtain ⟨l, x, rfl⟩ : ∃ l x, ns = l ++ [x] := ⟨ns.dropLast, ns.getLast h, (List.dropLast_concat_getLast h).symm⟩
  rw [List.map_append]
  show atI (l.map V.int ++ [V.int x]) (-1) = _
  rw [atI_last, List.length_append, List.getD_eq_getElem?_getD]
  simp
theorem at_first {ns : List Int} (h : ns ≠ []) : atI (ns.map V.int) 0 = some (.int (ns.getD 0 0)) := by
  cases ns with
  | nil => exact absurd rfl h
  | cons x ns => exact atI_nat (j := 0) rfl
def sp_shows_odd_walk (T : Txt K mg base) : Sp := fun vs H Q _ => ∃ (sz : Nat) (v u : V) (es : List (List Int)) (ns : List Int), vs = [.int sz, v, u] ∧ DT K H v (.tuple (es.map rowD)) ∧ TT T.tabs H ∧ GrOk sz es ∧ DT K H u (rowD ns) ∧ ns.length ≤ 100 ∧ (∀ x ∈ ns, 0 ≤ x ∧ x < (sz : Int)) ∧ ∀ H', Gr H H' → Q (.bl (oddW es ns)) H'
def sp_shows_bad (T : Txt K mg base) : Sp := fun vs H Q _ => ∃ (sz : Nat) (v u : V) (es : List (List Int)), vs = [.int sz, v, u] ∧ DT K H v (.tuple (es.map rowD)) ∧ TT T.tabs H ∧ GrOk sz es ∧ BadW K H sz u ∧ ∀ H', Gr H H' → Q (.bl false) H'
theorem ok_shows_odd_walk (T : Txt K mg base) : FnOk P w K mg base CX0 9 T.shows_odd_walk.f T.shows_odd_walk.fd p_shows_odd_walk (sp_shows_odd_walk T) := by
  refine T.shows_odd_walk.F.ok sc_shows_odd_walk (fun vs H Q E h => ?_) (fun A outer s H vs Q E hr h => ?_)
  · obtain ⟨_, _, _, _, _, rfl, _⟩ := h
    rfl
  · obtain ⟨sz, v, u, es, ns, rfl, hv, hT, G, hu, few, val, q⟩ := h
    refine ⟨_, (pss_cons (ps_expr (pe_call (ok_check_graph T) hr (by rfl) T.check_graph.g T.check_graph.F.kp T.check_graph.b .nil pass0 (pa_cons (pv 0) (pa_cons (pv 1) pa_nil)))) (pss_cons (ps_if (PW.pt (pw_or (pt_not (pt_val (pe_callB call_isi (by rfl) T.b_isinstance boot_isinstance (pa_cons (pv 2) (pa_cons (pe_bltn (v := .ty "tuple") (by rfl) T.b_tuple boot_tuple rfl) pa_nil)))))
        (pw_or (pt_cmpR op_eq (pe_callB (call_len_seqK K) (by rfl) T.b_len PySem.boot_len (pa_cons (pv 2) pa_nil)) pe_int (nomark _))
        (pw_or1 (pt_cmpR op_ne (pe_op op_mod (pe_callB (call_len_seqK K) (by rfl) T.b_len PySem.boot_len (pa_cons (pv 2) pa_nil)) pe_int) pe_int (nomark _)))))) (pss_one (ps_ret pe_bl)) pss_nil) (pss_cons (ps_if (pt_not (pt_val (GA.pe_all (k := 1) (hr.mono (by decide)) (by rfl) T.b_all T.shows_odd_walk.TB rfl (GA.gNames_by (N := n_shows_odd_walk) (M := ["size", "edges", "value", "entry"]) (sc := defScope s_shows_odd_walk) (by decide +kernel)) (pi_tup (pv 2))
          (fun A sz Hz C code fp pn hrA => pe_call (ok_is_integer2 T) hrA (by rfl) T.is_integer.g T.is_integer.F.kp T.is_integer.b .nil pass0 (pa_cons (pv 3) (pa_cons (pe_int) (pa_cons (pe_op op_sub (pv 0) pe_int) pa_nil))))))) (pss_one (ps_ret pe_bl)) pss_nil) (pss_one (ps_ret (pe_and (pe_cmpR op_eq (pe_ix (ix_tupK K) (pv 2) pe_int (fun _ _ => rfl)) (pe_ix (ix_tupK K) (pv 2) (pe_un un_neg pe_int) (fun _ _ => rfl)) (nomark _)) (pe_one (pe_call (ok_is_walk T) (hr.mono (by decide)) (by rfl) T.is_walk.g T.is_walk.F.kp T.is_walk.b .nil pass0 (pa_cons ((pe_call (ok_directed T) (hr.mono (by decide)) (by rfl) T.directed.g T.directed.F.kp T.directed.b .nil pass0 (pa_cons (pv 1) pa_nil))) (pa_cons (pv 2) pa_nil)))))))))), ?_⟩
    refine ⟨.int sz, rfl, v, rfl, sz, v, es, rfl, hv, hT, G, fun H1 g1 => ?_⟩
    have hT1 := g1.tt hT
    have hv1 := hv.gr g1
    obtain ⟨a, rfl, ha⟩ := (hu.gr g1).row_invS
    have hS : SqT K H1 a (ns.map V.int) := .inl (.inl ha)
    refine ⟨.ref a, rfl, .ref a, .ty "tuple", _, _, true, rfl, .ty _, tyT hS, kit_ty (by decide +kernel), true, rfl, iteF ?_⟩
    refine ⟨.ref a, rfl, a, _, rfl, .inr hS, rfl, _, rfl, ?_⟩
    rw [List.length_map]
    refine ite2 (fun h0 => ?_) (fun h0 => ?_)
    · have h0 : ns.length = 0 := by have := V.int.inj (of_decide_eq_true h0); omega
      have e : oddW es ns = false := by unfold oddW; simp [h0]
      rw [← e]
      exact q H1 g1
    have h0 : ns.length ≠ 0 := fun z => h0 (decide_eq_true (by rw [z]; rfl))
    have hne : ns ≠ [] := fun z => h0 (by rw [z]; rfl)
    refine ⟨.ref a, rfl, a, _, rfl, .inr hS, _, 2, rfl, rfl, (show (0 : Int) < 2 by decide), rfl, _, rfl, ?_⟩
    rw [List.length_map]
    dsimp only
    refine ite2 (fun h2 => ?_) (fun h2 => ?_)
    · have e : oddW es ns = false := by
        have : ns.length % 2 ≠ 0 := fun z => by
          have z' : ((ns.length : Nat) : Int) % 2 = 0 := by omega
          have h2' : (!decide (V.int (((ns.length : Nat) : Int) % 2) = V.int 0)) = true := h2
          simp [z'] at h2'
        unfold oddW
        simp [this]
      rw [← e]
      exact q H1 g1
    have h2 : ns.length % 2 = 0 := by
      have : ¬ (((ns.length : Nat) : Int) % 2 ≠ 0) := fun z => h2 (by simp [z])
      omega
    refine ⟨.ref a, rfl, a, rfl, ⟨_, hS⟩, hT1 _ (by simp), fun H2 ht => ⟨ns.length, fun i H' => Gr H1 H', Gx.tabbed (hT1 _ (by simp)) ht, fun i H3 hi hw => ?_, fun H3 hw => ?_⟩⟩
    · have e : (ns.map V.int)[i]? = some (.int ns[i]) := by
        rw [List.getElem?_map, List.getElem?_eq_getElem hi]
        rfl
      refine ⟨⟨_, _, hw.seqT hS, e⟩, fun x H4 hy => ?_⟩
      obtain ⟨rfl, hx⟩ := hy
      have ex : x = .int ns[i] := Option.some.inj ((hx _ (hw.seqT hS)).symm.trans e)
      subst ex
      refine ⟨_, rfl, .int sz, rfl, sz, 1, rfl, rfl, .inl ⟨ns[i], 0, sz - 1, rfl, _, rfl, fun _ => hw, fun hf => ?_⟩⟩
      have := val ns[i] (List.getElem_mem hi)
      rw [decide_eq_true ⟨this.1, by omega⟩] at hf
      cases hf
    · refine ⟨⟨_, hw.seqT hS, by rw [List.length_map]; exact Nat.le_refl _⟩, true, rfl, iteF ?_⟩
      have g2 := g1.trans hw
      have ha3 := Gx.tupS hw .nil ha
      have hS3 : SqT K H3 a (ns.map V.int) := .inl (.inl ha3)
      refine ⟨.ref a, rfl, a, _, 0, _, rfl, rfl, hS3, at_first hne, ?_⟩
      refine ⟨.ref a, rfl, 1, rfl, a, _, -1, _, rfl, rfl, hS3, at_last hne, rfl, _, rfl, ?_⟩
      have eo : oddW es ns = (decide (ns.getD 0 0 = ns.getD (ns.length - 1) 0) && (steps ns).all fun e => decide (e ∈ es ∨ e ∈ es.map swp)) := by
        unfold oddW
        rw [decide_eq_true h0, decide_eq_true h2]
        rfl
      refine ite2 (fun h => ?_) (fun h => ?_)
      · have h := V.int.inj (of_decide_eq_true h)
        refine ⟨v, rfl, sz, v, es, rfl, hv1.gr hw, G, fun p H4 rs g4 np hp ar mr => ?_⟩
        refine ⟨.ref a, rfl, p, .ref a, rs, ns, rfl, hp, (DT.row ha3).gr g4, few, fun H5 g5 => ?_⟩
        have er : ((steps ns).all fun e => decide (e ∈ rs)) = oddW es ns := by
          rw [eo, decide_eq_true h, Bool.true_and]
          congr 1
          funext e
          exact decide_eq_decide.mpr (mr e)
        rw [er]
        exact q H5 ((g2.trans g4).trans g5)
      · have h : ¬ ns.getD 0 0 = ns.getD (ns.length - 1) 0 := fun z => h (decide_eq_true (by rw [z]))
        have e : oddW es ns = false := by rw [eo, decide_eq_false h]; rfl
        rw [← e]
        exact q H3 g2
theorem ok_shows_bad (T : Txt K mg base) : FnOk P w K mg base CX0 9 T.shows_odd_walk.f T.shows_odd_walk.fd p_shows_odd_walk (sp_shows_bad T) := by
  refine T.shows_odd_walk.F.ok sc_shows_odd_walk (fun vs H Q E h => ?_) (fun A outer s H vs Q E hr h => ?_)
  · obtain ⟨_, _, _, _, rfl, _⟩ := h
    rfl
  · obtain ⟨sz, v, u, es, rfl, hv, hT, G, hu, q⟩ := h
    refine ⟨_, (pss_cons (ps_expr (pe_call (ok_check_graph T) hr (by rfl) T.check_graph.g T.check_graph.F.kp T.check_graph.b .nil pass0 (pa_cons (pv 0) (pa_cons (pv 1) pa_nil)))) (pss_cons (ps_if (PW.pt (pw_or (pt_not (pt_val (pe_callB call_isi (by rfl) T.b_isinstance boot_isinstance (pa_cons (pv 2) (pa_cons (pe_bltn (v := .ty "tuple") (by rfl) T.b_tuple boot_tuple rfl) pa_nil)))))
        (pw_or (pt_cmpR op_eq (pe_callB (call_len_seqK K) (by rfl) T.b_len PySem.boot_len (pa_cons (pv 2) pa_nil)) pe_int (nomark _))
        (pw_or1 (pt_cmpR op_ne (pe_op op_mod (pe_callB (call_len_seqK K) (by rfl) T.b_len PySem.boot_len (pa_cons (pv 2) pa_nil)) pe_int) pe_int (nomark _)))))) (pss_one (ps_ret pe_bl)) pss_nil) (pss_cons (ps_if (pt_not (pt_val (GA.pe_all (k := 1) (hr.mono (by decide)) (by rfl) T.b_all T.shows_odd_walk.TB rfl (GA.gNames_by (N := n_shows_odd_walk) (M := ["size", "edges", "value", "entry"]) (sc := defScope s_shows_odd_walk) (by decide +kernel)) (pi_tup (pv 2))
          (fun A sz Hz C code fp pn hrA => pe_call (ok_is_integer2 T) hrA (by rfl) T.is_integer.g T.is_integer.F.kp T.is_integer.b .nil pass0 (pa_cons (pv 3) (pa_cons (pe_int) (pa_cons (pe_op op_sub (pv 0) pe_int) pa_nil))))))) (pss_one (ps_ret pe_bl)) pss_nil) (pss_one (ps_never))))), ?_⟩
    refine ⟨.int sz, rfl, v, rfl, sz, v, es, rfl, hv, hT, G, fun H1 g1 => ?_⟩
    have hT1 := g1.tt hT
    rcases hu with ⟨ty, ht, hk⟩ | ⟨a, xs, rfl, ha, hl⟩ | ⟨a, x, xs, rfl, ha, hl, hx⟩
    · exact ⟨u, rfl, u, .ty "tuple", _, _, false, rfl, .ty _, ht H1 g1, kit_ty hk, false, rfl, iteT (q H1 g1)⟩
    · have hS : SqT K H1 a xs := .inl (.inl (Gx.tupS g1 .nil ha))
      refine ⟨.ref a, rfl, .ref a, .ty "tuple", _, _, true, rfl, .ty _, tyT hS, kit_ty (by decide +kernel), true, rfl, iteF ?_⟩
      refine ⟨.ref a, rfl, a, _, rfl, .inr hS, rfl, _, rfl, ?_⟩
      refine ite2 (fun h0 => q H1 g1) (fun h0 => ?_)
      have h0 : xs.length ≠ 0 := fun z => h0 (decide_eq_true (by rw [z]; rfl))
      refine ⟨.ref a, rfl, a, _, rfl, .inr hS, _, 2, rfl, rfl, (show (0 : Int) < 2 by decide), rfl, _, rfl, ?_⟩
      refine ite2 (fun h2 => q H1 g1) (fun h2 => ?_)
      have h2 : ¬ (((xs.length : Nat) : Int) % 2 ≠ 0) := fun z => h2 (by simp [z])
      omega
    · have hS : SqT K H1 a (x :: xs) := .inl (.inl (Gx.tupS g1 .nil ha))
      refine ⟨.ref a, rfl, .ref a, .ty "tuple", _, _, true, rfl, .ty _, tyT hS, kit_ty (by decide +kernel), true, rfl, iteF ?_⟩
      refine ⟨.ref a, rfl, a, _, rfl, .inr hS, rfl, _, rfl, ?_⟩
      refine ite2 (fun h0 => q H1 g1) (fun _ => ?_)
      refine ⟨.ref a, rfl, a, _, rfl, .inr hS, _, 2, rfl, rfl, (show (0 : Int) < 2 by decide), rfl, _, rfl, ?_⟩
      refine ite2 (fun h2 => q H1 g1) (fun _ => ?_)
      refine ⟨.ref a, rfl, a, rfl, ⟨_, hS⟩, hT1 _ (by simp), fun H2 ht => ⟨1, fun i H' => i = 0 ∧ Gr H1 H', ⟨rfl, Gx.tabbed (hT1 _ (by simp)) ht⟩, fun i H3 hi hw => ?_, fun H3 hw => ?_⟩⟩
      · obtain ⟨rfl, hw⟩ := hw
        refine ⟨⟨_, _, hw.seqT hS, rfl⟩, fun y H4 hy => ?_⟩
        obtain ⟨rfl, hx'⟩ := hy
        have ex : y = x := Option.some.inj ((hx' _ (hw.seqT hS)).symm.trans rfl)
        subst ex
        exact ⟨y, rfl, .int sz, rfl, sz, 1, rfl, rfl, .inr ⟨y, sz, rfl, hx.gr (g1.trans hw), false, rfl, fun z => absurd rfl z, fun _ => ⟨false, rfl, iteT (q _ (g1.trans hw))⟩⟩⟩
      · exact absurd hw.1 (by decide)
end K66

set_option Elab.async false
set_option linter.all false
/-! costs: what a row costs, the least of all rows -/
namespace MR
open PySem PySem.W PyProof.Rows PySem.SeqAt
abbrev CF := Nat × List Int
/-- a term: the function's index, the scope, the weight -/
abbrev TmC := Nat × List Nat × Int
def pk (ps : List Nat) (r : List Int) : List Int := ps.map fun p => r.getD p 0
def tcost (sz : Nat) (fs : List CF) (t : TmC) (vs : List Int) : Int := t.2.2 * (fs.getD t.1 (0, [])).2.getD (idxI sz (pk t.2.1 vs)).toNat 0
def tot (sz : Nat) (fs : List CF) (ts : List TmC) (vs : List Int) : Int := ts.foldl (fun a t => a + tcost sz fs t vs) 0
def mx : List Nat → Nat
  | [] => 0
  | x :: xs => xs.foldl max x
theorem foldl_add {α : Type} (f : α → Int) : ∀ (l : List α) (a : Int), l.foldl (fun a t => a + f t) a = a + l.foldl (fun a t => a + f t) 0
  | [], a => by simp
  | x :: l, a => by
    rw [List.foldl_cons, List.foldl_cons, foldl_add f l (a + f x), foldl_add f l (0 + f x)]
    omega
theorem tot_cons (sz : Nat) (fs : List CF) (t : TmC) (ts : List TmC) (vs : List Int) : tot sz fs (t :: ts) vs = tcost sz fs t vs + tot sz fs ts vs := by
  unfold tot
  rw [List.foldl_cons, foldl_add]
  omega
theorem tot_snoc (sz : Nat) (fs : List CF) (t : TmC) (ts : List TmC) (vs : List Int) : tot sz fs (ts ++ [t]) vs = tot sz fs ts vs + tcost sz fs t vs := by
  unfold tot
  rw [List.foldl_append]
  rfl
theorem le_fold : ∀ (l : List Nat) (a : Nat), a ≤ l.foldl max a ∧ ∀ x ∈ l, x ≤ l.foldl max a
  | [], a => ⟨Nat.le_refl _, fun x hx => by simp at hx⟩
  | y :: l, a => by
    obtain ⟨h1, h2⟩ := le_fold l (max a y)
    rw [List.foldl_cons]
    refine ⟨by omega, fun x hx => ?_⟩
    rcases List.mem_cons.mp hx with rfl | hx
    · omega
    · exact h2 x hx
theorem le_mx {l : List Nat} {x : Nat} (h : x ∈ l) : x ≤ mx l := by
  cases l with
  | nil => simp at h
  | cons y l =>
    obtain ⟨h1, h2⟩ := le_fold l y
    rcases List.mem_cons.mp h with rfl | h
    · exact h1
    · exact h2 x h
theorem fold_mem : ∀ (l : List Nat) (a : Nat), l.foldl max a = a ∨ l.foldl max a ∈ l
  | [], a => .inl rfl
  | y :: l, a => by
    rw [List.foldl_cons]
    rcases fold_mem l (max a y) with h | h
    · rw [h]
      by_cases hy : a ≤ y
      · exact .inr (by rw [Nat.max_eq_right hy]; exact List.mem_cons_self)
      · exact .inl (Nat.max_eq_left (by omega))
    · exact .inr (List.mem_cons_of_mem _ h)
theorem mx_mem {l : List Nat} (h : l ≠ []) : mx l ∈ l := by
  cases l with
  | nil => exact absurd rfl h
  | cons y l =>
    rcases fold_mem l y with e | e
    · show l.foldl max y ∈ y :: l
      rw [e]
      exact List.mem_cons_self
    · exact List.mem_cons_of_mem _ e
theorem pk_app {ps : List Nat} {vs : List Int} {x : Int} (h : ∀ p ∈ ps, p < vs.length) : pk ps (vs ++ [x]) = pk ps vs := by
  unfold pk
  refine List.map_congr_left fun p hp => ?_
  rw [List.getD_eq_getElem?_getD, List.getD_eq_getElem?_getD, List.getElem?_append_left (h p hp)]
/-- the terms whose greatest variable is below v; is v -/
def below (ts : List TmC) (v : Nat) : List TmC := ts.filter fun t => decide (mx t.2.1 < v)
def ended (ts : List TmC) (v : Nat) : List TmC := ts.filter fun t => decide (mx t.2.1 = v)
theorem tot_next {sz : Nat} {fs : List CF} {v : Nat} {vs : List Int} {x : Int} (hl : vs.length = v) : ∀ (ts : List TmC), tot sz fs (below ts (v + 1)) (vs ++ [x]) = tot sz fs (below ts v) vs + tot sz fs (ended ts v) (vs ++ [x])
  | [] => rfl
  | t :: ts => by
    have ih := tot_next (sz := sz) (fs := fs) (x := x) hl ts
    unfold below ended at ih ⊢
    have ex : mx t.2.1 < v → tcost sz fs t (vs ++ [x]) = tcost sz fs t vs := fun h1 => by
      unfold tcost
      rw [pk_app fun p hp => by have := le_mx hp; omega]
    by_cases h1 : mx t.2.1 < v
    · have d1 : decide (mx t.2.1 < v) = true := decide_eq_true h1
      have d2 : decide (mx t.2.1 < v + 1) = true := decide_eq_true (by omega)
      have d3 : decide (mx t.2.1 = v) = false := decide_eq_false (by omega)
      simp only [List.filter_cons, d1, d2, d3, if_true, Bool.false_eq_true, if_false]
      rw [tot_cons, tot_cons, ih, ex h1]
      omega
    · have d1 : decide (mx t.2.1 < v) = false := decide_eq_false h1
      by_cases h3 : mx t.2.1 = v
      · have d2 : decide (mx t.2.1 < v + 1) = true := decide_eq_true (by omega)
        have d3 : decide (mx t.2.1 = v) = true := decide_eq_true h3
        simp only [List.filter_cons, d1, d2, d3, if_true, Bool.false_eq_true, if_false]
        rw [tot_cons, tot_cons, ih]
        omega
      · have d2 : decide (mx t.2.1 < v + 1) = false := decide_eq_false (by omega)
        have d3 : decide (mx t.2.1 = v) = false := decide_eq_false h3
        simp only [List.filter_cons, d1, d2, d3, Bool.false_eq_true, if_false]
        rw [ih]
theorem below_all {ts : List TmC} {n : Nat} (h : ∀ t ∈ ts, mx t.2.1 < n) : below ts n = ts := List.filter_eq_self.mpr fun t ht => decide_eq_true (h t ht)
theorem below_none {ts : List TmC} : below ts 0 = [] := List.filter_eq_nil_iff.mpr fun t _ => by simp
/-! the least -/
def costD (c : Int) (vs : List Int) : PyData := .tuple [.int c, .tuple (vs.map PyData.int)]
/-- the first of the least -/
def best (f : List Int → Int) (a : List Int) (l : List (List Int)) : List Int := l.foldl (fun a y => if f y < f a then y else a) a
theorem lex_lt : ∀ {a b : List Int}, HT.lexLt a b = true → a < b
  | [], [], h => by simp [HT.lexLt] at h
  | [], y :: ys, _ => List.nil_lt_cons ..
  | x :: xs, [], h => by simp [HT.lexLt] at h
  | x :: xs, y :: ys, h => by
    rw [HT.lexLt_cons] at h
    by_cases e : x = y
    · subst e
      rw [if_pos rfl] at h
      exact List.cons_lt_cons_iff.mpr (.inr ⟨rfl, lex_lt h⟩)
    · rw [if_neg e] at h
      exact List.cons_lt_cons_iff.mpr (.inl (of_decide_eq_true h))
theorem alike_ints : ∀ (a b : List Int), alikeAll (a.map PyData.int) (b.map PyData.int) = true
  | [], b => by simp [alikeAll]
  | x :: a, [] => by simp [alikeAll]
  | x :: a, y :: b => by simp [alikeAll, alike, alike_ints a b]
theorem costD_lt {cy ca : Int} {y a : List Int} (h : HT.lexLt a y = true) : dataLt (costD cy y) (costD ca a) = decide (cy < ca) := by
  have hlt := lex_lt h
  have hn : ¬ y < a := fun z => List.lt_irrefl _ (List.lt_trans hlt z)
  unfold costD
  rw [dataLt_tuple, dataLt_cons (by simp [alike]), dataLt_int]
  by_cases e : cy = ca
  · subst e
    have e1 : PyData.eqv (.int cy) (.int cy) = true := by simp [PyData.eqv]
    rw [e1, if_pos rfl, dataLt_cons (by show alikeAll _ _ = true; exact alike_ints y a)]
    have e2 : PyProof.Rows.lexLt itemOrd (keyToksAll []) (keyToksAll []) = false := lex_irrefl _
    have e3 : dataLt (.tuple (y.map PyData.int)) (.tuple (a.map PyData.int)) = false := by
      rw [dataLt_tuple]
      show rowLt _ _ = false
      rw [dataLt_ints, decide_eq_false hn]
    rw [e2, e3, ite_self, decide_eq_false (Int.lt_irrefl _)]
  · have e1 : PyData.eqv (.int cy) (.int ca) = false := by simp [PyData.eqv, e]
    rw [e1, if_neg Bool.false_ne_true]
theorem minD_best (f : List Int → Int) : ∀ (l : List (List Int)) (a : List Int), Asc (a :: l) → minD (costD (f a) a) (l.map fun y => costD (f y) y) = costD (f (best f a l)) (best f a l)
  | [], a, _ => rfl
  | y :: l, a, h => by
    obtain ⟨h1, h2⟩ := List.pairwise_cons.mp h
    obtain ⟨h3, h4⟩ := List.pairwise_cons.mp h2
    unfold minD best
    rw [List.map_cons, List.foldl_cons, List.foldl_cons, costD_lt (h1 y List.mem_cons_self)]
    by_cases hc : f y < f a
    · rw [decide_eq_true hc, if_pos rfl, if_pos hc]
      exact minD_best f l y h2
    · rw [decide_eq_false hc, if_neg Bool.false_ne_true, if_neg hc]
      exact minD_best f l a (List.pairwise_cons.mpr ⟨fun z hz => h1 z (List.mem_cons_of_mem _ hz), h4⟩)
theorem alike_cost (c c' : Int) (a b : List Int) : alike (costD c a) (costD c' b) = true := by
  unfold costD
  show alikeAll _ _ = true
  simp only [alikeAll, alike, alike_ints a b, Bool.and_self]
theorem depth_cost (c : Int) (a : List Int) : (costD c a).depth ≤ 3 := by
  have : PyData.depthAll (a.map PyData.int) ≤ 1 := by
    induction a with
    | nil => simp [PyData.depthAll]
    | cons n ns ih =>
      simp only [List.map_cons, PyData.depthAll, PyData.depth]
      omega
  unfold costD
  simp only [PyData.depth, PyData.depthAll]
  omega
theorem cost_alike (f : List Int → Int) (l : List (List Int)) : AlikeAll (l.map fun y => costD (f y) y) ∧ PyData.depthAll (l.map fun y => costD (f y) y) ≤ 3 := by
  refine ⟨⟨fun x hx y hy => ?_, fun x hx => ?_⟩, ?_⟩
  · obtain ⟨a, _, rfl⟩ := List.mem_map.mp hx
    obtain ⟨b, _, rfl⟩ := List.mem_map.mp hy
    exact alike_cost ..
  · obtain ⟨a, _, rfl⟩ := List.mem_map.mp hx
    intro z
    cases z
  · induction l with
    | nil => simp [PyData.depthAll]
    | cons y l ih =>
      have := depth_cost (f y) y
      simp only [List.map_cons, PyData.depthAll]
      omega
theorem best_mem (f : List Int → Int) : ∀ (l : List (List Int)) (a : List Int), best f a l ∈ a :: l
  | [], a => List.mem_cons_self
  | y :: l, a => by
    unfold best
    rw [List.foldl_cons]
    have := best_mem f l (if f y < f a then y else a)
    unfold best at this
    rcases List.mem_cons.mp this with e | e
    · rw [e]
      split
      · exact List.mem_cons_of_mem _ List.mem_cons_self
      · exact List.mem_cons_self
    · exact List.mem_cons_of_mem _ (List.mem_cons_of_mem _ e)
end MR

set_option Elab.async false
set_option linter.all false
/-! graphs: walks, sides, parts -/
namespace MR
open PySem PySem.W PyProof.Rows PySem.SeqAt
/-- the steps of a graph: both directions, values below sz -/
structure Stp (sz : Nat) (B : List (List Int)) : Prop where
  pair : ∀ e ∈ B, ∃ u v : Int, e = [u, v] ∧ 0 ≤ u ∧ u < (sz : Int) ∧ 0 ≤ v ∧ v < (sz : Int)
  sym : ∀ u v : Int, [u, v] ∈ B → [v, u] ∈ B
def stepsL (ns : List Int) : List (List Int) := (List.range (ns.length - 1)).map fun i => [ns.getD i 0, ns.getD (i + 1) 0]
def isW (B : List (List Int)) (ns : List Int) : Bool := (stepsL ns).all fun e => decide (e ∈ B)
theorem isW_iff {B : List (List Int)} {ns : List Int} : isW B ns = true ↔ ∀ i, i + 1 < ns.length → [ns.getD i 0, ns.getD (i + 1) 0] ∈ B := by
  unfold isW stepsL
  rw [List.all_eq_true]
  constructor
  · intro h i hi
    exact of_decide_eq_true (h _ (List.mem_map.mpr ⟨i, List.mem_range.mpr (by omega), rfl⟩))
  · intro h e he
    obtain ⟨i, hi, rfl⟩ := List.mem_map.mp he
    exact decide_eq_true (h i (by have := List.mem_range.mp hi; omega))
/-- the closed walk of these values -/
def cl (vs : List Int) : List Int := vs ++ vs.take 1
def good (B : List (List Int)) (vs : List Int) : Bool := isW B (cl vs)
/-- sides that differ along each step -/
def sidesOk (B : List (List Int)) (s : List Int) : Prop := ∀ u v : Int, [u, v] ∈ B → s.getD u.toNat 0 ≠ s.getD v.toNat 0
/-! a walk with an odd number of steps does not close where there are sides -/
theorem walk_side {sz : Nat} {B : List (List Int)} {s ns : List Int} (S : Stp sz B) (h : sidesOk B s) (hs : ∀ x ∈ s, x = 0 ∨ x = 1) (hl : s.length = sz) (hw : ∀ i, i + 1 < ns.length → [ns.getD i 0, ns.getD (i + 1) 0] ∈ B) :
    ∀ i, i < ns.length → 2 ≤ ns.length → s.getD (ns.getD i 0).toNat 0 = (s.getD (ns.getD 0 0).toNat 0 + i) % 2 := by
  have two : ∀ {u v : Int}, [u, v] ∈ B → (s.getD u.toNat 0 = 0 ∨ s.getD u.toNat 0 = 1) := fun {u v} e => by
    obtain ⟨a, b, e1, a0, a1, _, _⟩ := S.pair _ e
    injection e1 with e1 _
    subst e1
    have hu : u.toNat < s.length := by omega
    rw [List.getD_eq_getElem?_getD, List.getElem?_eq_getElem hu]
    exact hs _ (List.getElem_mem hu)
  intro i
  induction i with
  | zero =>
    intro h0 h2
    have := two (hw 0 (by omega))
    omega
  | succ i ih =>
    intro h1 h2
    have e := hw i h1
    have i1 := ih (by omega) h2
    have d := h _ _ e
    have t1 := two e
    have t2 := two (S.sym _ _ e)
    omega
theorem odd_none {sz : Nat} {B : List (List Int)} {s : List Int} (S : Stp sz B) (h : sidesOk B s) (hs : ∀ x ∈ s, x = 0 ∨ x = 1) (hl : s.length = sz) {ns : List Int} {L : Nat} (hn : ns.length = L + 1) (ho : L % 2 = 1) (hw : isW B ns = true) : ns.getD 0 0 ≠ ns.getD L 0 := fun e => by
  have w := walk_side S h hs hl (isW_iff.mp hw)
  have a := w 0 (by omega) (by omega)
  have b := w L (by omega) (by omega)
  rw [← e] at b
  omega
/-! no loop, no triangle: sides -/
def tri (b : Nat → Nat → Bool) : Bool := (b 0 1 && b 1 2 && b 0 2) || (b 0 1 && b 1 3 && b 0 3) || (b 0 2 && b 2 3 && b 0 3) || (b 1 2 && b 2 3 && b 1 3)
def adjB (p q r s t u : Bool) (i j : Nat) : Bool := if i = 0 ∧ j = 1 then p else if i = 0 ∧ j = 2 then q else if i = 0 ∧ j = 3 then r else if i = 1 ∧ j = 2 then s else if i = 1 ∧ j = 3 then t else if i = 2 ∧ j = 3 then u else false
def colB (b : Nat → Nat → Bool) (c : Nat) : Bool := (List.range 4).all fun i => (List.range 4).all fun j => !(b i j) || (c.testBit i != c.testBit j)
theorem all_col : ∀ p q r s t u : Bool, tri (adjB p q r s t u) = true ∨ ∃ c, c < 16 ∧ colB (adjB p q r s t u) c = true := by
  have h : ∀ p q r s t u : Bool, (tri (adjB p q r s t u) || (List.range 16).any fun c => colB (adjB p q r s t u) c) = true := by decide +kernel
  intro p q r s t u
  rcases Bool.or_eq_true_iff.mp (h p q r s t u) with h | h
  · exact .inl h
  · obtain ⟨c, hc, h⟩ := List.any_eq_true.mp h
    exact .inr ⟨c, List.mem_range.mp hc, h⟩
theorem adj_eq {f : Nat → Nat → Bool} {i j : Nat} (hij : i < j) (hj : j < 4) : adjB (f 0 1) (f 0 2) (f 0 3) (f 1 2) (f 1 3) (f 2 3) i j = f i j := by
  have : (i = 0 ∧ j = 1) ∨ (i = 0 ∧ j = 2) ∨ (i = 0 ∧ j = 3) ∨ (i = 1 ∧ j = 2) ∨ (i = 1 ∧ j = 3) ∨ (i = 2 ∧ j = 3) := by omega
  rcases this with ⟨rfl, rfl⟩ | ⟨rfl, rfl⟩ | ⟨rfl, rfl⟩ | ⟨rfl, rfl⟩ | ⟨rfl, rfl⟩ | ⟨rfl, rfl⟩ <;> rfl
def closedW (B : List (List Int)) (L : Nat) : Prop := ∃ ns : List Int, ns.length = L + 1 ∧ isW B ns = true ∧ ns.getD 0 0 = ns.getD L 0
theorem isW3 {B : List (List Int)} {a b c d : Int} (h1 : [a, b] ∈ B) (h2 : [b, c] ∈ B) (h3 : [c, d] ∈ B) : isW B [a, b, c, d] = true := isW_iff.mpr fun i hi => by
  have hi : i + 1 < 4 := hi
  have : i = 0 ∨ i = 1 ∨ i = 2 := by omega
  rcases this with rfl | rfl | rfl
  · exact h1
  · exact h2
  · exact h3
theorem col_of {sz : Nat} {B : List (List Int)} (S : Stp sz B) (s4 : sz ≤ 4) (n1 : ¬ closedW B 1) (n3 : 3 ≤ sz → ¬ closedW B 3) : ∃ s : List Int, s.length = sz ∧ (∀ x ∈ s, x = 0 ∨ x = 1) ∧ sidesOk B s := by
  let f : Nat → Nat → Bool := fun i j => decide ([(i : Int), (j : Int)] ∈ B)
  have bd : ∀ {i j : Nat}, f i j = true → i < sz ∧ j < sz := fun {i j} h => by
    obtain ⟨u, v, e, _, h1, _, h2⟩ := S.pair _ (of_decide_eq_true h)
    injection e with e1 e2
    injection e2 with e2 _
    omega
  have tr : ∀ {i j k : Nat}, f i j = true → f j k = true → f i k = true → k < 4 → i < j → j < k → False := fun {i j k} h1 h2 h3 hk hij hjk => by
    have b1 := bd h2
    exact n3 (by omega) ⟨[i, j, k, i], rfl, isW3 (of_decide_eq_true h1) (of_decide_eq_true h2) (S.sym _ _ (of_decide_eq_true h3)), rfl⟩
  rcases all_col (f 0 1) (f 0 2) (f 0 3) (f 1 2) (f 1 3) (f 2 3) with h | ⟨c, hc, h⟩
  · exfalso
    unfold tri at h
    rw [adj_eq (f := f) (i := 0) (j := 1) (by decide) (by decide), adj_eq (f := f) (i := 1) (j := 2) (by decide) (by decide), adj_eq (f := f) (i := 0) (j := 2) (by decide) (by decide), adj_eq (f := f) (i := 1) (j := 3) (by decide) (by decide), adj_eq (f := f) (i := 0) (j := 3) (by decide) (by decide), adj_eq (f := f) (i := 2) (j := 3) (by decide) (by decide)] at h
    simp only [Bool.or_eq_true, Bool.and_eq_true] at h
    rcases h with ((⟨⟨a, b⟩, d⟩ | ⟨⟨a, b⟩, d⟩) | ⟨⟨a, b⟩, d⟩) | ⟨⟨a, b⟩, d⟩
    · exact tr a b d (by decide) (by decide) (by decide)
    · exact tr a b d (by decide) (by decide) (by decide)
    · exact tr a b d (by decide) (by decide) (by decide)
    · exact tr a b d (by decide) (by decide) (by decide)
  · refine ⟨(List.range sz).map fun i => if c.testBit i then 1 else 0, by rw [List.length_map, List.length_range], fun x hx => ?_, fun u v e => ?_⟩
    · obtain ⟨i, _, rfl⟩ := List.mem_map.mp hx
      split
      · exact .inr rfl
      · exact .inl rfl
    · obtain ⟨u', v', e1, u0, u1, v0, v1⟩ := S.pair _ e
      injection e1 with e1 e2
      injection e2 with e2 _
      subst e1 e2
      obtain ⟨i, rfl⟩ := Int.eq_ofNat_of_zero_le u0
      obtain ⟨j, rfl⟩ := Int.eq_ofNat_of_zero_le v0
      have hi : i < sz := by omega
      have hj : j < sz := by omega
      have gi : ∀ {k : Nat}, k < sz → ((List.range sz).map fun i => if c.testBit i then (1 : Int) else 0).getD k 0 = if c.testBit k then 1 else 0 := fun {k} hk => by
        rw [List.getD_eq_getElem?_getD, List.getElem?_map, List.getElem?_range hk]
        rfl
      rw [Int.toNat_natCast, Int.toNat_natCast, gi hi, gi hj]
      have key : ∀ {i j : Nat}, i < j → j < 4 → f i j = true → c.testBit i ≠ c.testBit j := fun {i j} hij hj4 hf => by
        have h1 := List.all_eq_true.mp h i (List.mem_range.mpr (by omega))
        have h2 := List.all_eq_true.mp h1 j (List.mem_range.mpr hj4)
        rw [adj_eq (f := f) hij hj4, hf] at h2
        simpa using h2
      have fe : f i j = true := decide_eq_true e
      have fe' : f j i = true := decide_eq_true (S.sym _ _ e)
      have ne : c.testBit i ≠ c.testBit j := by
        rcases Nat.lt_trichotomy i j with h | h | h
        · exact key h (by omega) fe
        · subst h
          exact absurd ⟨[(i : Int), (i : Int)], rfl, isW_iff.mpr (fun k hk => by
            have hk : k + 1 < 2 := hk
            have : k = 0 := by omega
            subst this
            exact e), rfl⟩ n1
        · exact (key h (by omega) fe').symm
      cases h1 : c.testBit i <;> cases h2 : c.testBit j <;> simp_all
end MR

set_option Elab.async false
set_option linter.all false
namespace MR
open PySem PySem.W PyProof.Rows PySem.SeqAt
/-! the walks, row by row -/
def lastI (r : List Int) : Int := r.getD (r.length - 1) 0
theorem isW_snoc {B : List (List Int)} {r : List Int} {b : Int} (h : r ≠ []) : isW B (r ++ [b]) = (isW B r && decide ([lastI r, b] ∈ B)) := by
  have hl : 0 < r.length := List.length_pos_iff.mpr h
  have g1 : ∀ i, i < r.length → (r ++ [b]).getD i 0 = r.getD i 0 := fun i hi => by rw [List.getD_eq_getElem?_getD, List.getD_eq_getElem?_getD, List.getElem?_append_left hi]
  have g2 : (r ++ [b]).getD r.length 0 = b := by rw [List.getD_eq_getElem?_getD, List.getElem?_append_right (Nat.le_refl _), Nat.sub_self]; rfl
  rw [Bool.eq_iff_iff, Bool.and_eq_true, isW_iff, isW_iff, decide_eq_true_eq]
  constructor
  · intro w
    refine ⟨fun i hi => ?_, ?_⟩
    · have := w i (by rw [List.length_append]; omega)
      rwa [g1 i (by omega), g1 (i + 1) hi] at this
    · have := w (r.length - 1) (by rw [List.length_append]; show r.length - 1 + 1 < r.length + 1; omega)
      rw [g1 _ (by omega), show r.length - 1 + 1 = r.length by omega, g2] at this
      exact this
  · rintro ⟨w, e⟩ i hi
    rw [List.length_append] at hi
    have hi : i + 1 < r.length + 1 := hi
    by_cases hir : i + 1 < r.length
    · rw [g1 i (by omega), g1 (i + 1) hir]
      exact w i hir
    · have : i = r.length - 1 := by omega
      subst this
      rw [g1 _ (by omega), show r.length - 1 + 1 = r.length by omega, g2]
      exact e
/-- the walks with L steps, as the law makes them -/
def wl (B : List (List Int)) (sz : Nat) : Nat → List (List Int)
  | 0 => (List.range sz).map fun (v : Nat) => [(v : Int)]
  | L + 1 => (wl B sz L).flatMap fun r => ((List.range sz).filter fun (b : Nat) => decide ([lastI r, (b : Int)] ∈ B)).map fun (b : Nat) => r ++ [(b : Int)]
theorem filter_flat {α β : Type} (p : β → Bool) (f : α → List β) : ∀ l : List α, (l.flatMap f).filter p = l.flatMap fun a => (f a).filter p
  | [] => rfl
  | a :: l => by rw [List.flatMap_cons, List.filter_append, filter_flat p f l, List.flatMap_cons]
theorem flat_filter {α β : Type} (q : α → Bool) (f : α → List β) : ∀ l : List α, (l.filter q).flatMap f = l.flatMap fun a => if q a = true then f a else []
  | [] => rfl
  | a :: l => by
    rw [List.filter_cons, List.flatMap_cons]
    by_cases h : q a = true
    · rw [if_pos h, if_pos h, List.flatMap_cons, flat_filter q f l]
    · rw [if_neg h, if_neg h, flat_filter q f l, List.nil_append]
theorem flat_congr {α β : Type} {f g : α → List β} : ∀ {l : List α}, (∀ a ∈ l, f a = g a) → l.flatMap f = l.flatMap g
  | [], _ => rfl
  | a :: l, h => by rw [List.flatMap_cons, List.flatMap_cons, h a List.mem_cons_self, flat_congr fun b hb => h b (List.mem_cons_of_mem _ hb)]
theorem wl_eq (B : List (List Int)) (sz : Nat) : ∀ L, wl B sz L = (allRows sz (L + 1)).filter (isW B)
  | 0 => by
    show (List.range sz).map (fun (v : Nat) => [(v : Int)]) = List.filter (isW B) (ext sz [[]])
    rw [ext_one]
    have e : ((List.range sz).map fun (v : Nat) => ([] : List Int) ++ [(v : Int)]) = (List.range sz).map fun (v : Nat) => [(v : Int)] := rfl
    rw [e]
    refine (List.filter_eq_self.mpr fun r hr => ?_).symm
    obtain ⟨v, _, rfl⟩ := List.mem_map.mp hr
    exact isW_iff.mpr fun i hi => by
      have hi : i + 1 < 1 := hi
      omega
  | L + 1 => by
    show (wl B sz L).flatMap _ = List.filter (isW B) (ext sz (allRows sz (L + 1)))
    rw [wl_eq B sz L, flat_filter]
    unfold ext
    rw [filter_flat]
    refine flat_congr fun r hr => ?_
    have hl := (allRows_ok hr).1
    have hne : r ≠ [] := fun z => by rw [z] at hl; simp at hl
    rw [List.filter_map]
    by_cases h : isW B r = true
    · rw [if_pos h]
      congr 1
      refine List.filter_congr fun b _ => ?_
      show _ = isW B (r ++ [(b : Int)])
      rw [isW_snoc hne, h, Bool.true_and]
    · rw [if_neg h]
      have : List.filter ((isW B) ∘ fun (v : Nat) => r ++ [(v : Int)]) (List.range sz) = [] := List.filter_eq_nil_iff.mpr fun b _ => by
        show ¬ isW B (r ++ [(b : Int)]) = true
        rw [isW_snoc hne, Bool.and_eq_true]
        exact fun z => h z.1
      rw [this]
      rfl
def closedB (r : List Int) : Bool := decide (r.getD 0 0 = lastI r)
/-! least -/
theorem lex_app2 : ∀ {a b c d : List Int}, a.length = b.length → HT.lexLt a b = true → HT.lexLt (a ++ c) (b ++ d) = true
  | [], [], _, _, _, h => by simp [HT.lexLt] at h
  | [], _ :: _, _, _, hl, _ => by simp at hl
  | _ :: _, [], _, _, hl, _ => by simp at hl
  | x :: a, y :: b, c, d, hl, h => by
    rw [List.cons_append, List.cons_append, HT.lexLt_cons]
    rw [HT.lexLt_cons] at h
    by_cases e : x = y
    · rw [if_pos e] at h ⊢
      exact lex_app2 (by simpa using hl) h
    · rw [if_neg e] at h ⊢
      exact h
theorem lex_no {a b : List Int} (h1 : HT.lexLt a b = true) (h2 : HT.lexLt b a = true) : False := List.lt_irrefl _ (List.lt_trans (lex_lt h1) (lex_lt h2))
/-- the first of an ascending list that passes is before all others that do -/
theorem find_least {p : List Int → Bool} : ∀ {l : List (List Int)} {a : List Int}, Asc l → l.find? p = some a → ∀ b ∈ l, p b = true → a = b ∨ HT.lexLt a b = true
  | [], _, _, h, _, _, _ => by simp at h
  | x :: l, a, asc, h, b, hb, pb => by
    obtain ⟨h1, h2⟩ := List.pairwise_cons.mp asc
    rw [List.find?_cons] at h
    cases e : p x with
    | true =>
      rw [e] at h
      cases h
      rcases List.mem_cons.mp hb with rfl | hb
      · exact .inl rfl
      · exact .inr (h1 b hb)
    | false =>
      rw [e] at h
      rcases List.mem_cons.mp hb with rfl | hb
      · rw [pb] at e
        cases e
      · exact find_least h2 h b hb pb
theorem cl_len {vs : List Int} (h : vs ≠ []) : (cl vs).length = vs.length + 1 := by
  unfold cl
  cases vs with
  | nil => exact absurd rfl h
  | cons v vs => simp
theorem cl_take {ns : List Int} {L : Nat} (hL : 1 ≤ L) (hn : ns.length = L + 1) (h : closedB ns = true) : cl (ns.take L) = ns := by
  have e := of_decide_eq_true h
  unfold lastI at e
  rw [hn, Nat.add_sub_cancel] at e
  have e1 : (ns.take L).take 1 = [ns.getD 0 0] := by
    cases ns with
    | nil => simp at hn
    | cons x ns =>
      cases L with
      | zero => omega
      | succ L => rfl
  unfold cl
  rw [e1, e]
  have e2 : ns.take (L + 1) = ns := List.take_of_length_le (by omega)
  rw [List.take_add_one, List.getElem?_eq_getElem (by omega)] at e2
  rw [List.getD_eq_getElem?_getD, List.getElem?_eq_getElem (by omega)]
  exact e2
theorem cl_closed {vs : List Int} (h : vs ≠ []) : closedB (cl vs) = true := by
  refine decide_eq_true ?_
  unfold lastI
  rw [cl_len h, Nat.add_sub_cancel]
  unfold cl
  cases vs with
  | nil => exact absurd rfl h
  | cons v vs =>
    show v = _
    rw [List.getD_eq_getElem?_getD, List.getElem?_append_right (Nat.le_refl _), Nat.sub_self]
    rfl
theorem allRows_sub {sz L : Nat} {ns : List Int} (h : ns ∈ allRows sz (L + 1)) : ns.take L ∈ allRows sz L := by
  obtain ⟨h1, h2⟩ := allRows_ok h
  exact mem_allRows (by rw [List.length_take]; omega) fun x hx => h2 x (List.mem_of_mem_take hx)
/-- the closed walks with L steps: the first of them is the program's -/
theorem closed_head (B : List (List Int)) (sz : Nat) {L : Nat} (hL : 1 ≤ L) : ((wl B sz L).filter closedB).head? = ((allRows sz L).find? (good B)).map cl := by
  have asc : Asc ((wl B sz L).filter closedB) := by
    rw [wl_eq]
    exact ((allRows_asc sz (L + 1)).sublist List.filter_sublist).sublist List.filter_sublist
  have mem : ∀ ns, ns ∈ (wl B sz L).filter closedB ↔ ns ∈ allRows sz (L + 1) ∧ isW B ns = true ∧ closedB ns = true := fun ns => by
    rw [wl_eq, List.mem_filter, List.mem_filter, and_assoc]
  have back : ∀ ns, ns ∈ (wl B sz L).filter closedB → ns.take L ∈ allRows sz L ∧ good B (ns.take L) = true ∧ cl (ns.take L) = ns := fun ns h => by
    obtain ⟨h1, h2, h3⟩ := (mem ns).mp h
    have e := cl_take hL (allRows_ok h1).1 h3
    exact ⟨allRows_sub h1, by unfold good; rw [e]; exact h2, e⟩
  cases hf : (allRows sz L).find? (good B) with
  | none =>
    have : (wl B sz L).filter closedB = [] := List.eq_nil_iff_forall_not_mem.mpr fun ns h => by
      obtain ⟨h1, h2, _⟩ := back ns h
      exact List.find?_eq_none.mp hf _ h1 h2
    rw [this]
    rfl
  | some p =>
    have pm := List.mem_of_find?_eq_some hf
    have pg := List.find?_some hf
    obtain ⟨pl, pv⟩ := allRows_ok pm
    have pne : p ≠ [] := fun z => by rw [z] at pl; simp at pl; omega
    have cm : cl p ∈ (wl B sz L).filter closedB := (mem _).mpr ⟨mem_allRows (by rw [cl_len pne, pl]) fun x hx => by
      unfold cl at hx
      rcases List.mem_append.mp hx with hx | hx
      · exact pv x hx
      · exact pv x (List.mem_of_mem_take hx), pg, cl_closed pne⟩
    cases hc : (wl B sz L).filter closedB with
    | nil => rw [hc] at cm; simp at cm
    | cons h t =>
      show some h = some (cl p)
      rw [hc] at cm asc
      rcases List.mem_cons.mp cm with e | hm
      · rw [e]
      · exfalso
        have hlt := (List.pairwise_cons.mp asc).1 _ hm
        obtain ⟨b1, b2, b3⟩ := back h (by rw [hc]; exact List.mem_cons_self)
        rcases find_least (allRows_asc sz L) hf _ b1 b2 with e | e
        · rw [← b3, ← e] at hlt
          exact lex_no hlt hlt
        · have := lex_app2 (c := p.take 1) (d := (h.take L).take 1) (by rw [pl, (allRows_ok b1).1]) e
          have e2 : HT.lexLt (cl p) h = true := by
            rw [← b3]
            exact this
          exact lex_no hlt e2
/-- min of an ascending list of rows is its first -/
theorem minD_head (a : List Int) : ∀ (l : List (List Int)), Asc (a :: l) → minD (.tuple (a.map PyData.int)) (l.map fun r => PyData.tuple (r.map PyData.int)) = .tuple (a.map PyData.int)
  | [], _ => rfl
  | y :: l, h => by
    obtain ⟨h1, h2⟩ := List.pairwise_cons.mp h
    unfold minD
    rw [List.map_cons, List.foldl_cons]
    have e : dataLt (.tuple (y.map PyData.int)) (.tuple (a.map PyData.int)) = false := by
      rw [dataLt_tuple]
      show rowLt _ _ = false
      rw [dataLt_ints]
      exact decide_eq_false fun z => List.lt_irrefl _ (List.lt_trans (lex_lt (h1 y List.mem_cons_self)) z)
    rw [e, if_neg Bool.false_ne_true]
    exact minD_head a l (List.pairwise_cons.mpr ⟨fun z hz => h1 z (List.mem_cons_of_mem _ hz), (List.pairwise_cons.mp h2).2⟩)
theorem rows_alike (l : List (List Int)) : AlikeAll (l.map fun r => PyData.tuple (r.map PyData.int)) ∧ PyData.depthAll (l.map fun r => PyData.tuple (r.map PyData.int)) ≤ 2 := by
  refine ⟨⟨fun x hx y hy => ?_, fun x hx => ?_⟩, ?_⟩
  · obtain ⟨a, _, rfl⟩ := List.mem_map.mp hx
    obtain ⟨b, _, rfl⟩ := List.mem_map.mp hy
    show alikeAll _ _ = true
    exact alike_ints a b
  · obtain ⟨a, _, rfl⟩ := List.mem_map.mp hx
    intro z
    cases z
  · induction l with
    | nil => simp [PyData.depthAll]
    | cons y l ih =>
      have h1 : PyData.depthAll (y.map PyData.int) ≤ 1 := by
        induction y with
        | nil => simp [PyData.depthAll]
        | cons n ns ih =>
          simp only [List.map_cons, PyData.depthAll, PyData.depth]
          omega
      simp only [List.map_cons, PyData.depthAll, PyData.depth]
      omega
theorem wl_len (B : List (List Int)) (sz L : Nat) : (wl B sz L).length ≤ sz ^ (L + 1) := by
  rw [wl_eq, ← allRows_len]
  exact List.length_filter_le ..
/-! parts -/
theorem lex_at : ∀ {a b : List Int} {k : Nat}, a.length = b.length → k < a.length → (∀ j, j < k → a.getD j 0 = b.getD j 0) → a.getD k 0 < b.getD k 0 → HT.lexLt a b = true
  | [], _, k, _, hk, _, _ => by simp at hk
  | _ :: _, [], _, hl, _, _, _ => by simp at hl
  | x :: a, y :: b, 0, _, _, _, h => by
    have h : x < y := h
    rw [HT.lexLt_cons, if_neg (by omega)]
    exact decide_eq_true h
  | x :: a, y :: b, k + 1, hl, hk, he, h => by
    have e : x = y := he 0 (by omega)
    rw [HT.lexLt_cons, if_pos e]
    exact lex_at (k := k) (by simpa using hl) (by simpa using hk) (fun j hj => he (j + 1) (by omega)) h
def flipS (s P : List Int) : List Int := (List.range s.length).map fun (i : Nat) => if (i : Int) ∈ P then 1 - s.getD i 0 else s.getD i 0
theorem flip_at {s P : List Int} {i : Nat} (h : i < s.length) : (flipS s P).getD i 0 = if (i : Int) ∈ P then 1 - s.getD i 0 else s.getD i 0 := by
  unfold flipS
  rw [List.getD_eq_getElem?_getD, List.getElem?_map, List.getElem?_range h]
  rfl
theorem first_zero {sz : Nat} {B : List (List Int)} {s P : List Int} {m : Nat} (S : Stp sz B) (hs : s ∈ allRows 2 sz) (hc : sidesOk B s) (least : ∀ t ∈ allRows 2 sz, sidesOk B t → s = t ∨ HT.lexLt s t = true)
    (shut : ∀ u ∈ P, ∀ v : Int, [u, v] ∈ B → v ∈ P) (hm : m < sz) (mP : (m : Int) ∈ P) (min : ∀ x ∈ P, (m : Int) ≤ x) : s.getD m 0 = 0 := by
  obtain ⟨sl, sv⟩ := allRows_ok hs
  have v2 : ∀ i, i < sz → s.getD i 0 = 0 ∨ s.getD i 0 = 1 := fun i hi => by
    rw [List.getD_eq_getElem?_getD, List.getElem?_eq_getElem (by omega)]
    have := sv _ (List.getElem_mem (show i < s.length by omega))
    show s[i] = 0 ∨ s[i] = 1
    omega
  rcases v2 m hm with h | h
  · exact h
  · exfalso
    have fl : (flipS s P).length = sz := by unfold flipS; rw [List.length_map, List.length_range, sl]
    have tm : flipS s P ∈ allRows 2 sz := mem_allRows fl fun x hx => by
      unfold flipS at hx
      obtain ⟨i, hi, rfl⟩ := List.mem_map.mp hx
      have := v2 i (by have := List.mem_range.mp hi; omega)
      split <;> omega
    have tc : sidesOk B (flipS s P) := fun u v e => by
      obtain ⟨u', v', e1, u0, u1, v0, v1⟩ := S.pair _ e
      injection e1 with e1 e2
      injection e2 with e2 _
      subst e1 e2
      have d := hc _ _ e
      have a1 := v2 u.toNat (by omega)
      have a2 := v2 v.toNat (by omega)
      rw [flip_at (by omega), flip_at (by omega), Int.toNat_of_nonneg u0, Int.toNat_of_nonneg v0]
      by_cases hu : u ∈ P
      · have hv := shut u hu v e
        rw [if_pos hu, if_pos hv]
        omega
      · have hv : v ∉ P := fun z => hu (shut v z u (S.sym _ _ e))
        rw [if_neg hu, if_neg hv]
        exact d
    have lt : HT.lexLt (flipS s P) s = true := lex_at (k := m) (by rw [fl, sl]) (by omega) (fun j hj => by
      rw [flip_at (by omega), if_neg fun z => by have := min _ z; omega]) (by
      rw [flip_at (by omega), if_pos mP, h]
      decide)
    rcases least _ tm tc with e | e
    · rw [← e] at lt
      exact lex_no lt lt
    · exact lex_no e lt
theorem len_ints {l m : List Int} (h : l.Nodup) (hs : ∀ x ∈ l, x ∈ m) : l.length ≤ m.length := by
  have := len_le_of_sub (l := l.map fun x => [x]) (m := m.map fun x => [x]) (by
    rw [List.Nodup, List.pairwise_map]
    exact h.imp fun hne e => hne (List.cons.inj e).1) fun x hx => by
      obtain ⟨y, hy, rfl⟩ := List.mem_map.mp hx
      exact List.mem_map.mpr ⟨y, hs y hy, rfl⟩
  rw [List.length_map, List.length_map] at this
  exact this
end MR

set_option Elab.async false
set_option linter.all false
set_option maxRecDepth 100000
set_option maxHeartbeats 4000000
namespace K66
open PySem PySem.Spec PyProof.Rows L2 TK MR
variable {P : Program} {w : World} {K : PySem.W.Frag} {mg : Str → Option Value} {base : Heap}
/-! graph -/
abbrev graphD (sz : Nat) (rs : List (List Int)) : PyData := .tuple [.int sz, .tuple [.tuple [.int 2, .tuple (rs.map rowD)]]]
def sp_graph (T : Txt K mg base) : Sp := fun vs H Q _ => ∃ (sz : Nat) (v : V) (es : List (List Int)), vs = [.int sz, v] ∧ DT K H v (.tuple (es.map rowD)) ∧ TT T.tabs H ∧ GrOk sz es ∧ ∀ x H' rs, Gr H H' → DT K H' x (graphD sz rs) → Asc rs → (∀ x, x ∈ rs ↔ x ∈ es ∨ x ∈ es.map swp) → Q x H'
theorem ok_graph (T : Txt K mg base) : FnOk P w K mg base CX0 9 T.graph.f T.graph.fd p_graph (sp_graph T) := by
  refine T.graph.F.ok sc_graph (fun vs H Q E h => ?_) (fun A outer s H vs Q E hr h => ?_)
  · obtain ⟨_, _, _, rfl, _⟩ := h
    rfl
  · obtain ⟨sz, v, es, rfl, hv, hT, G, q⟩ := h
    refine ⟨_, (pss_cons (ps_expr (pe_call (ok_check_graph T) (hr.mono (by decide)) (by rfl) T.check_graph.g T.check_graph.F.kp T.check_graph.b .nil pass0 (pa_cons (pv 0) (pa_cons (pv 1) pa_nil)))) (pss_one (ps_ret (pe_tup (pa_cons (pv 0) (pa_cons (pe_tup (pa_cons (pe_tup (pa_cons (pe_int) (pa_cons ((pe_callTy (call_tuple_ofK K) (by rfl) T.b_tuple boot_tuple (pa_cons ((pe_call (ok_directed T) (hr.mono (by decide)) (by rfl) T.directed.g T.directed.F.kp T.directed.b .nil pass0 (pa_cons (pv 1) pa_nil))) pa_nil))) pa_nil))) pa_nil)) pa_nil)))))), ?_⟩
    refine ⟨.int sz, rfl, v, rfl, sz, v, es, rfl, hv, hT, G, fun H1 g1 => ?_⟩
    refine ⟨.int sz, rfl, v, rfl, sz, v, es, rfl, hv.gr g1, G, fun p H2 rs g2 hp0 hp as mem => ?_⟩
    obtain ⟨xs, hp, hx⟩ := hp
    refine ⟨p, xs, rfl, .inl ⟨.inl (.inl hp), fun t nt => ?_⟩⟩
    have g3 : Gr H2 (upd H2 t (.tup xs)) := Gx.new nt
    have ht : DT K (upd H2 t (.tup xs)) (.ref t) (.tuple (rs.map rowD)) := .mk upd_same (hx.gr g3)
    generalize upd H2 t (.tup xs) = H3 at *
    refine ⟨by show 2 ≤ sizeLine; decide, fun t4 n4 => ?_⟩
    have g4 : Gr H3 (upd H3 t4 (.tup [.int 2, .ref t])) := Gx.new n4
    have h4 : DT K (upd H3 t4 (.tup [.int 2, .ref t])) (.ref t4) (.tuple [.int 2, .tuple (rs.map rowD)]) := .mk upd_same (.cons (.int 2) (.one (ht.gr g4)))
    generalize upd H3 t4 (.tup [.int 2, .ref t]) = H4 at *
    refine ⟨by show 1 ≤ sizeLine; decide, fun t5 n5 => ?_⟩
    have g5 : Gr H4 (upd H4 t5 (.tup [.ref t4])) := Gx.new n5
    have h5 : DT K (upd H4 t5 (.tup [.ref t4])) (.ref t5) (.tuple [.tuple [.int 2, .tuple (rs.map rowD)]]) := .mk upd_same (.one (h4.gr g5))
    generalize upd H4 t5 (.tup [.ref t4]) = H5 at *
    refine ⟨by show 2 ≤ sizeLine; decide, fun t6 n6 => ?_⟩
    have g6 : Gr H5 (upd H5 t6 (.tup [.int sz, .ref t5])) := Gx.new n6
    exact q (.ref t6) _ rs (((((g1.trans g2).trans g3).trans g4).trans g5).trans g6) (.mk upd_same (.cons (.int sz) (.one (h5.gr g6)))) as mem
/-! two_sides -/
def sok (es : List (List Int)) (s : List Int) : Bool := es.all fun e => decide (s.getD (e.getD 0 0).toNat 0 ≠ s.getD (e.getD 1 0).toNat 0)
def OptD (K : PySem.W.Frag) (H : Hp) (v : V) (o : Option (List Int)) : Prop := match o with | none => v = .non | some r => DT K H v (rowD r)
def sp_two_sides (T : Txt K mg base) : Sp := fun vs H Q _ => ∃ (sz : Nat) (v : V) (es : List (List Int)), vs = [.int sz, v] ∧ DT K H v (.tuple (es.map rowD)) ∧ TT T.tabs H ∧ GrOk sz es ∧ ∀ x H', Gr H H' → OptD K H' x ((allRows 2 sz).find? (sok es)) → Q x H'
theorem find_take {α : Type} {p : α → Bool} : ∀ {l : List α} {i : Nat} {r : α}, l[i]? = some r → (∀ x ∈ l.take i, p x = false) → p r = true → l.find? p = some r
  | [], _, _, h, _, _ => by simp at h
  | x :: l, 0, r, h, _, hp => by
    cases h
    rw [List.find?_cons, hp]
  | x :: l, i + 1, r, h, hn, hp => by
    rw [List.find?_cons, hn x List.mem_cons_self]
    exact find_take (by simpa using h) (fun y hy => hn y (List.mem_cons_of_mem _ hy)) hp
theorem ok_two_sides (T : Txt K mg base) : FnOk P w K mg base CX0 9 T.two_sides.f T.two_sides.fd p_two_sides (sp_two_sides T) := by
  refine T.two_sides.F.ok sc_two_sides (fun vs H Q E h => ?_) (fun A outer s H vs Q E hr h => ?_)
  · obtain ⟨_, _, _, rfl, _⟩ := h
    rfl
  · obtain ⟨sz, v, es, rfl, hv, hT, G, q⟩ := h
    refine ⟨_, (pss_cons (ps_expr (pe_call (ok_check_graph T) (hr.mono (by decide)) (by rfl) T.check_graph.g T.check_graph.F.kp T.check_graph.b .nil pass0 (pa_cons (pv 0) (pa_cons (pv 1) pa_nil)))) (pss_cons (ps_for PassesOwn.never rfl (pi_listK K (pe_call (ok_all_rows T) (hr.mono (by decide)) (by rfl) T.all_rows.g T.all_rows.F.kp T.all_rows.b .nil pass0 (pa_cons (pe_int) (pa_cons (pv 0) pa_nil)))) (pg_name (i := 2) sc_two_sides.nd rfl (by first | exact .inl rfl | exact .inr rfl))
        (pss_one (ps_if (pt_val (pe_callB (cr_all rfl) (by rfl) T.b_all boot_all (pa_cons (pe_lc (own := [("a", 3), ("b", 4)]) (g := gTup K 2 (gCons (gName 3) (gCons (gName 4) gNil))) (tt := tYes) rfl sc_two_sides.nd (pi_tupK K (pv 1))
          (blkOk_by (N := n_two_sides) (sc := defScope s_two_sides) (by decide +kernel)) (fun _ _ _ _ _ => pg_tup (by rfl) (pgs_cons (pg_name (i := 3) sc_two_sides.nd rfl (by first | exact .inl rfl | exact .inr rfl)) (pgs_cons (pg_name (i := 4) sc_two_sides.nd rfl (by first | exact .inl rfl | exact .inr rfl)) pgs_nil)))
          (fun _ _ _ _ _ => pts_nil) (fun _ _ _ _ _ => pe_cmpR op_ne (pe_ix (ix_tupK K) (pv 2) (pv 3) (fun _ _ => rfl)) (pe_ix (ix_tupK K) (pv 2) (pv 4) (fun _ _ => rfl)) (nomark _))) pa_nil))) (pss_one (ps_ret (pv 2))) pss_nil))) (pss_one (ps_ret pe_non)))), ?_⟩
    have G4 := G.s4
    refine ⟨.int sz, rfl, v, rfl, sz, v, es, rfl, hv, hT, G, fun H1 g1 => ?_⟩
    refine ⟨.int sz, rfl, 2, sz, rfl, by decide, G4, fun p H2 g2 np hp => ?_⟩
    obtain ⟨xs, hp, hx⟩ := hp
    have xl : xs.length = (allRows 2 sz).length := by rw [hx.1, List.length_map]
    refine ⟨p, rfl, ⟨_, .inl (.inl hp)⟩, ?_⟩
    refine for_list (K := K) (a := p) (xs := xs) (fun i σ H' => ∃ y2, σ = [some (.int sz), some v, y2, none, none] ∧ Gr H2 H' ∧ ∀ r ∈ (allRows 2 sz).take i, sok es r = false) ⟨none, rfl, Gx.refl, fun r hr => by simp at hr⟩ (fun i σ H' _ hp' => by
      obtain ⟨_, _, g, _⟩ := hp'
      exact .inl (.inl (g.lst hp))) (fun i x σ H' ex hp' => ?_) (fun σ H' hp' => ?_)
    · obtain ⟨y2, rfl, g, no⟩ := hp'
      obtain ⟨d, ed, dx⟩ := hx.at' ex
      rw [List.getElem?_map] at ed
      obtain ⟨r, er, rfl⟩ := Option.map_eq_some_iff.mp ed
      obtain ⟨rl, rv⟩ := allRows_ok (List.mem_of_getElem? er)
      obtain ⟨t, rfl, ht⟩ := (dx.gr g).row_invS
      have g02 := (g1.trans g2).trans g
      obtain ⟨b, ys, rfl, hb, hD⟩ := (hv.gr g02).tup_invS
      have yl : ys.length = es.length := by rw [hD.1, List.length_map]
      refine ⟨.ref b, rfl, b, rfl, ⟨_, .inl (.inl hb)⟩, fun D nD => ?_⟩
      refine lc_tup (K := K) (a := b) (xs := ys) (fun j H3 => Gr H' H3 ∧ H3 D = some (.lst (((es.take j).map fun e => decide (r.getD (e.getD 0 0).toNat 0 ≠ r.getD (e.getD 1 0).toNat 0)).map V.bl))) ⟨Gx.new nD, upd_same⟩ (fun j H3 _ p3 => .inl (.inl (Gx.tupS p3.1 .nil hb))) (fun j y H3 ey p3 => ?_) (fun H3 p3 => ?_)
      · obtain ⟨g3, hD3⟩ := p3
        obtain ⟨d, ed, dy⟩ := hD.at' ey
        rw [List.getElem?_map] at ed
        obtain ⟨e, ee, rfl⟩ := Option.map_eq_some_iff.mp ed
        obtain ⟨u, u', rfl, h1, h2, h3⟩ := G.pair e (List.mem_of_getElem? ee)
        obtain ⟨t', rfl, ht'⟩ := (dy.gr g3).row_invS
        have hj : j < es.length := (List.getElem?_eq_some_iff.mp ee).1
        have ht3 := Gx.tupS g3 .nil ht
        have at0 : ∀ {z : Int}, 0 ≤ z → z < (sz : Int) → atI (r.map V.int) z = some (.int (r.getD z.toNat 0)) := fun {z} z0 z1 => by
          have e : z = ((z.toNat : Nat) : Int) := by omega
          rw [e]
          refine atI_nat ?_
          rw [List.getElem?_map, List.getElem?_eq_getElem (by omega), List.getD_eq_getElem?_getD, List.getElem?_eq_getElem (by omega)]
          rfl
        refine ⟨t', _, rfl, .inl (.inl ht'), rfl, .int u, [.int u'], rfl, .int u', [], rfl, rfl, rfl, ?_⟩
        refine yesT ⟨.ref t, rfl, .int u, rfl, t, _, u, _, rfl, rfl, .inl (.inl ht3), at0 h1 (by omega), .ref t, rfl, .int u', rfl, t, _, u', _, rfl, rfl, .inl (.inl ht3), at0 (by omega) h3, rfl, ?_⟩
        refine ⟨_, hD3, ?_, g3.wr nD, ?_⟩
        · rw [List.length_map, List.length_map, List.length_take]
          exact small1000 (by have := G.few; omega)
        · rw [upd_same, List.take_add_one, ee, List.map_append, List.map_append, show (!decide (V.int (r.getD u.toNat 0) = V.int (r.getD u'.toNat 0))) = decide (r.getD u.toNat 0 ≠ r.getD u'.toNat 0) by simp]
          rfl
      · obtain ⟨g3, hD3⟩ := p3
        rw [yl, List.take_length] at hD3
        refine ⟨D, _, rfl, .inl (.inl hD3), ?_⟩
        have e : ((es.map fun e => decide (r.getD (e.getD 0 0).toNat 0 ≠ r.getD (e.getD 1 0).toNat 0)).all id) = sok es r := by
          unfold sok
          rw [List.all_map]
          rfl
        rw [e]
        refine ⟨_, rfl, ?_⟩
        refine ite2 (fun hs => ?_) (fun hs => ?_)
        · refine ⟨.ref t, rfl, ?_⟩
          have hf := find_take er no hs
          have q := q (.ref t) H3 (g02.trans g3)
          rw [hf] at q
          exact q (.row (Gx.tupS g3 .nil ht))
        · refine ⟨_, rfl, g.trans g3, fun r' hr' => ?_⟩
          rw [List.take_add_one, er] at hr'
          rcases List.mem_append.mp hr' with h | h
          · exact no r' h
          · rw [List.mem_singleton.mp h]
            simpa using hs
    · obtain ⟨y2, rfl, g, no⟩ := hp'
      rw [xl, List.take_length] at no
      have hf : (allRows 2 sz).find? (sok es) = none := List.find?_eq_none.mpr fun r hr => by
        rw [no r hr]
        exact Bool.false_ne_true
      have q := q .non H' ((g1.trans g2).trans g)
      rw [hf] at q
      exact q rfl
/-! _law_whole -/
theorem ok_law_whole (T : Txt K mg base) : FnOk P w K mg base CX0 1 T.law_whole.f T.law_whole.fd p_law_whole sp_is_integer := by
  refine T.law_whole.F.ok sc_law_whole (fun vs H Q E h => ?_) (fun A outer s H vs Q E hr h => ?_)
  · obtain ⟨v, lo, hi, rfl, _⟩ := h
    rfl
  · obtain ⟨v, lo, hi, rfl, q⟩ := h
    refine ⟨_, pss_one (ps_ret (pe_and (pe_callB call_isi (by rfl) T.b_isinstance boot_isinstance (pa_cons (pv 0) (pa_cons (pe_bltn (v := .ty "int") (by rfl) T.b_int boot_int rfl) pa_nil)))
      (pe_and (pe_not (pe_callB call_isi (by rfl) T.b_isinstance boot_isinstance (pa_cons (pv 0) (pa_cons (pe_bltn (v := .ty "bool") (by rfl) T.b_bool boot_bool rfl) pa_nil))))
        (pe_one (pe_chain op_le op_le (pv 1) (pv 0) (pv 2)))))), ?_⟩
    refine ⟨.int v, rfl, .int v, .ty "int", _, _, true, rfl, .ty _, .base (.int v), kit_ty (by decide +kernel), true, rfl, iteT ?_⟩
    refine ⟨.int v, rfl, .int v, .ty "bool", _, _, false, rfl, .ty _, .base (.int v), kit_ty (by decide +kernel), false, rfl, true, rfl, iteT ?_⟩
    refine ⟨.int lo, rfl, .int v, rfl, lo, v, rfl, rfl, _, rfl, ?_⟩
    by_cases h1 : lo ≤ v
    · rw [if_pos (decide_eq_true h1)]
      refine ⟨.int hi, rfl, v, hi, rfl, rfl, ?_⟩
      have e : decide (lo ≤ v ∧ v ≤ hi) = decide (v ≤ hi) := by simp [h1]
      rw [e] at q
      exact q
    · rw [if_neg (by simp [h1])]
      have e : decide (lo ≤ v ∧ v ≤ hi) = false := by simp [h1]
      rw [e] at q
      exact q
theorem sl_tupAK (K : PySem.W.Frag) {X : Cx} (hK : X.K = K := by rfl) : SlR X (rSlA K) := hK ▸ sl_tupA
/-! _law_once -/
theorem op_notInDK2 (K : PySem.W.Frag) {X : Cx} (hu : X.A.units + 65 < cLine) (hK : X.K = K := by rfl) : OpR X (compareOp .NotIn) (rNotInD K) := hK ▸ op_notInD hu
def Pr4 (rows : List (List Int)) : Prop := ∀ e ∈ rows, ∃ u v : Int, e = [u, v] ∧ 0 ≤ u ∧ u < 4 ∧ 0 ≤ v ∧ v < 4
def sp_law_once2 (K : PySem.W.Frag) : Sp := fun vs H Q _ => ∃ (p : Addr) (rows : List (List Int)), vs = [.ref p] ∧ LR K H p rows ∧ rows.length ≤ 60 ∧ Pr4 rows ∧ ∀ q H' rs, Gr H H' → H q = none → LR K H' q rs → Asc rs → (∀ x, x ∈ rs ↔ x ∈ rows) → Q (.ref q) H'
theorem ok_law_once2 (T : Txt K mg base) : FnOk P w K mg base CX0 1 T.law_once.f T.law_once.fd p_law_once (sp_law_once2 K) := by
  refine T.law_once.F.ok sc_law_once (fun vs H Q E h => ?_) (fun A outer s H vs Q E hr h => ?_)
  · obtain ⟨_, _, rfl, _⟩ := h
    rfl
  · obtain ⟨p, rows, rfl, hp, few, pr, q⟩ := h
    have hu65 : (A.deeper (envOfC "_law_once" (defScope s_law_once) s.heap.objs.size T.law_once.f (.ref T.law_once.c))).units + 65 < cLine := by have := hr.un; omega
    refine ⟨_, (pss_cons (ps_set (i := 1) sc_law_once.nd rfl (by first | exact .inl rfl | exact .inr rfl) (pe_lst pa_nil)) (pss_cons (ps_for PassesOwn.never rfl (pi_listK K (pv 0)) (pg_name (i := 2) sc_law_once.nd rfl (by first | exact .inl rfl | exact .inr rfl))
        (pss_one (ps_if (pt_cmpR (op_notInDK2 K hu65) (pv 2) (pv 1) (by rfl)) (pss_one (ps_expr (pe_bm PySem.F.plainAttrs_list PySem.F.slot_list_append PySem.F.type_list_append mt_append (pv 1) (pa_cons (pv 2) pa_nil)))) pss_nil))) (pss_one (ps_ret (pe_callB (cr_sortTK K (d := 2) (B := 4) (by decide)) (by rfl) T.b_sorted boot_sorted (pa_cons (pv 1) pa_nil)))))), ?_⟩
    obtain ⟨xs, hp, hx⟩ := hp
    have xl : xs.length = rows.length := by rw [hx.1, List.length_map]
    refine ⟨Nat.zero_le _, fun f nf => ?_⟩
    have npf : p ≠ f := fun z => by rw [z, nf] at hp; cases hp
    refine ⟨.ref p, rfl, p, rfl, ⟨_, .inl (.inl ((Gx.new (S := []) nf).lst hp))⟩, ?_⟩
    refine for_list (K := K) (a := p) (xs := xs) (fun i σ H' => ∃ y2 fs, σ = [some (.ref p), some (.ref f), y2] ∧ Gr H H' ∧ LR K H' f fs ∧ fs.length ≤ i ∧ fs.Nodup ∧ ∀ x, x ∈ fs ↔ x ∈ rows.take i)
      ⟨none, [], rfl, Gx.new nf, ⟨[], upd_same, .nil⟩, Nat.le_refl _, List.nodup_nil, fun x => by simp⟩ (fun i σ H' _ h => by
        obtain ⟨_, _, _, g, _⟩ := h
        exact .inl (.inl (g.lst hp))) (fun i x σ H' ex h => ?_) (fun σ H' h => ?_)
    · obtain ⟨y2, fs, rfl, g, hf, fl, nd, mem⟩ := h
      obtain ⟨d, ed, dx⟩ := hx.at' ex
      rw [List.getElem?_map] at ed
      obtain ⟨r, er, rfl⟩ := Option.map_eq_some_iff.mp ed
      have dx' := dx.gr g
      obtain ⟨ws, hw, hws⟩ := id hf
      have tk : rows.take (i + 1) = rows.take i ++ [r] := by rw [List.take_add_one, er]; rfl
      have hi : i < rows.length := (List.getElem?_eq_some_iff.mp er).1
      refine ⟨x, rfl, .ref f, rfl, _, _, dx'.dp, dp_rows hw hws, row_shaped r, rows_shaped fs, _, rfl, ?_⟩
      rw [any_eqv]
      refine ite2 (fun hn => ?_) (fun hn => ?_)
      · have hnot : r ∉ fs := by simpa using hn
        refine ⟨.ref f, rfl, .inl ⟨rfl, _, .inl (.inl hw)⟩, x, rfl, f, ws, x, rfl, rfl, hw, ?_, ?_⟩
        · rw [hws.1, List.length_map]
          exact small1000 (by omega)
        · refine ⟨_, fs ++ [r], rfl, g.wr nf, ⟨_, upd_same, LR.app (hws.wr hw) (DT.wr hw dx')⟩, by rw [List.length_append]; exact Nat.succ_le_succ fl, ?_, fun y => ?_⟩
          · rw [List.nodup_append]
            exact ⟨nd, by simp, fun a ha b hb => by
              rw [List.mem_singleton.mp hb]
              exact fun z => hnot (z ▸ ha)⟩
          · rw [tk, List.mem_append, List.mem_append, mem]
      · have hin : r ∈ fs := Decidable.byContradiction fun z => hn (by simpa using z)
        refine ⟨_, fs, rfl, g, hf, Nat.le_succ_of_le fl, nd, fun y => ?_⟩
        rw [tk, List.mem_append, mem, List.mem_singleton]
        exact ⟨.inl, fun h => h.elim id fun z => z ▸ (mem r).mp hin⟩
    · obtain ⟨y2, fs, rfl, g, hf, fl, nd, mem⟩ := h
      rw [xl, List.take_length] at mem
      obtain ⟨ws, hw, hws⟩ := hf
      have ok4 : ∀ z ∈ fs, z.length = 2 ∧ TS.Bd 4 z := fun z hz => by
        obtain ⟨u, v, e, h1, h2, h3, h4⟩ := pr z ((mem _).mp hz)
        rw [e]
        refine ⟨rfl, fun m hm => ?_⟩
        simp only [List.mem_cons, List.not_mem_nil, or_false] at hm
        rcases hm with rfl | rfl <;> omega
      have wl : ws.length = fs.length := by rw [hws.1, List.length_map]
      refine ⟨.ref f, rfl, f, ws, rfl, .inl (.inl hw), by omega, fun x hx => ?_, fun ys y pm pw ny => ?_⟩
      · obtain ⟨h1, h2⟩ := rows_each hws x hx
        obtain ⟨t, e1, e2⟩ := h1.row_invS
        exact ⟨_, ⟨t, e1, .inl (.inl e2)⟩, ok4 _ h2⟩
      · obtain ⟨qs, qd, qp, qw⟩ := sorted_rows (B := 4) (d := 2) hws pm nd ok4 (pw.imp fun h n m hn hm => h n m (let ⟨t, a, b⟩ := hn; ⟨t, a, .inl (.inl b)⟩) (let ⟨t, a, b⟩ := hm; ⟨t, a, .inl (.inl b)⟩))
        have gy : Gr H' (upd H' y (.lst ys)) := Gx.new ny
        exact q y _ qs (g.trans gy) (Gr.free g ny) ⟨_, upd_same, qd.gr gy⟩ qw fun x => (qp.mem_iff).trans (mem x)
def sp_law_once1 (K : PySem.W.Frag) : Sp := fun vs H Q _ => ∃ (p : Addr) (ms : List Int), vs = [.ref p] ∧ H p = some (.lst (ms.map V.int)) ∧ ms.length ≤ 100 ∧ (∀ x ∈ ms, 0 ≤ x ∧ x < 4) ∧ ∀ q H' (ns : List Int), Gr H H' → H q = none → H' q = some (.lst (ns.map V.int)) → ns.Pairwise (· < ·) → (∀ x, x ∈ ns ↔ x ∈ ms) → Q (.ref q) H'
theorem ints_shaped1 (ms : List Int) : SeqAt.shaped (.list (ms.map PyData.int)) = true := by
  have h : ∀ ns : List Int, PyData.canLayAll0 (ns.map PyData.int) = true := fun ns => by
    induction ns with
    | nil => simp [PyData.canLayAll0]
    | cons n ns ih => simp only [List.map_cons, PyData.canLayAll0, ih, PyData.canLay0, Bool.and_self]
  have h2 : PyData.depth (.list (ms.map PyData.int)) ≤ 64 := by
    have := ints_depth ms
    simp only [PyData.depth]
    omega
  show (PyData.canLay0 (.list (ms.map PyData.int)) && decide (PyData.depth (.list (ms.map PyData.int)) ≤ 64)) = true
  rw [Bool.and_eq_true]
  exact ⟨by simp only [PyData.canLay0]; exact h ms, decide_eq_true h2⟩
theorem dp_ints1 {H : Hp} {D : Addr} {ms : List Int} (h : H D = some (.lst (ms.map V.int))) : Dp K H (.ref D) (.list (ms.map PyData.int)) := by
  refine .lst (.inl (.inl h)) ?_
  have : ∀ ms : List Int, DpAll K H (ms.map V.int) (ms.map PyData.int) := fun ms => by
    induction ms with
    | nil => exact .nil
    | cons m ms ih => exact .cons (.int m) ih
  exact this ms
theorem any_int (m : Int) : ∀ ms : List Int, ((ms.map PyData.int).any fun z => z.eqv (.int m)) = decide (m ∈ ms)
  | [] => by simp
  | x :: ms => by
    rw [List.map_cons, List.any_cons, any_int m ms]
    by_cases e : x = m
    · simp [e, PyData.eqv]
    · have : m ≠ x := fun z => e z.symm
      simp [e, this, PyData.eqv]
theorem ok_law_once1 (T : Txt K mg base) : FnOk P w K mg base CX0 1 T.law_once.f T.law_once.fd p_law_once (sp_law_once1 K) := by
  refine T.law_once.F.ok sc_law_once (fun vs H Q E h => ?_) (fun A outer s H vs Q E hr h => ?_)
  · obtain ⟨_, _, rfl, _⟩ := h
    rfl
  · obtain ⟨p, ms, rfl, hp, few, pr, q⟩ := h
    have hu65 : (A.deeper (envOfC "_law_once" (defScope s_law_once) s.heap.objs.size T.law_once.f (.ref T.law_once.c))).units + 65 < cLine := by have := hr.un; omega
    refine ⟨_, (pss_cons (ps_set (i := 1) sc_law_once.nd rfl (by first | exact .inl rfl | exact .inr rfl) (pe_lst pa_nil)) (pss_cons (ps_for PassesOwn.never rfl (pi_listK K (pv 0)) (pg_name (i := 2) sc_law_once.nd rfl (by first | exact .inl rfl | exact .inr rfl))
        (pss_one (ps_if (pt_cmpR (op_notInDK2 K hu65) (pv 2) (pv 1) (by rfl)) (pss_one (ps_expr (pe_bm PySem.F.plainAttrs_list PySem.F.slot_list_append PySem.F.type_list_append mt_append (pv 1) (pa_cons (pv 2) pa_nil)))) pss_nil))) (pss_one (ps_ret (pe_callB (cr_sorted (X := _)) (by rfl) T.b_sorted boot_sorted (pa_cons (pv 1) pa_nil)))))), ?_⟩
    refine ⟨Nat.zero_le _, fun f nf => ?_⟩
    refine ⟨.ref p, rfl, p, rfl, ⟨_, .inl (.inl ((Gx.new (S := []) nf).lst hp))⟩, ?_⟩
    refine for_list (K := K) (a := p) (xs := ms.map V.int) (fun i σ H' => ∃ y2 fs, σ = [some (.ref p), some (.ref f), y2] ∧ Gr H H' ∧ H' f = some (.lst (fs.map V.int)) ∧ fs.Nodup ∧ ∀ x, x ∈ fs ↔ x ∈ ms.take i)
      ⟨none, [], rfl, Gx.new nf, upd_same, List.nodup_nil, fun x => by simp⟩ (fun i σ H' _ h => by
        obtain ⟨_, _, _, g, _⟩ := h
        exact .inl (.inl (g.lst hp))) (fun i x σ H' ex h => ?_) (fun σ H' h => ?_)
    · obtain ⟨y2, fs, rfl, g, hw, nd, mem⟩ := h
      rw [List.getElem?_map] at ex
      obtain ⟨m, em, rfl⟩ := Option.map_eq_some_iff.mp ex
      have tk : ms.take (i + 1) = ms.take i ++ [m] := by rw [List.take_add_one, em]; rfl
      have fl : fs.length ≤ ms.length := len_ints nd fun x hx => List.mem_of_mem_take ((mem x).mp hx)
      refine ⟨.int m, rfl, .ref f, rfl, _, _, .int m, dp_ints1 hw, rfl, ints_shaped1 fs, _, rfl, ?_⟩
      rw [any_int]
      refine ite2 (fun hn => ?_) (fun hn => ?_)
      · have hnot : m ∉ fs := by simpa using hn
        refine ⟨.ref f, rfl, .inl ⟨rfl, _, .inl (.inl hw)⟩, .int m, rfl, f, _, .int m, rfl, rfl, hw, ?_, ?_⟩
        · rw [List.length_map]
          exact small1000 (by omega)
        · refine ⟨_, fs ++ [m], rfl, g.wr nf, by rw [upd_same, List.map_append]; rfl, ?_, fun y => ?_⟩
          · rw [List.nodup_append]
            exact ⟨nd, by simp, fun a ha b hb => by
              rw [List.mem_singleton.mp hb]
              exact fun z => hnot (z ▸ ha)⟩
          · rw [tk, List.mem_append, List.mem_append, mem]
      · have hin : m ∈ fs := Decidable.byContradiction fun z => hn (by simpa using z)
        refine ⟨_, fs, rfl, g, hw, nd, fun y => ?_⟩
        rw [tk, List.mem_append, mem, List.mem_singleton]
        exact ⟨.inl, fun h => h.elim id fun z => z ▸ (mem m).mp hin⟩
    · obtain ⟨y2, fs, rfl, g, hw, nd, mem⟩ := h
      rw [List.length_map, List.take_length] at mem
      have fl : fs.length ≤ 4 := len_ints (m := [0, 1, 2, 3]) nd fun x hx => by
        have := pr x ((mem x).mp hx)
        simp only [List.mem_cons, List.not_mem_nil, or_false]
        omega
      refine ⟨.ref f, rfl, f, fs, rfl, .inl (.inl hw), by omega, fun ns y pm pw ny => ?_⟩
      refine q y _ ns (g.trans (Gx.new ny)) (Gr.free g ny) upd_same ?_ fun x => ?_
      · have nd2 : ns.Nodup := pm.nodup_iff.mpr nd
        refine (pw.and nd2).imp ?_
        rintro a b ⟨c, ne⟩
        omega
      · rw [← mem]
        exact pm.mem_iff
/-! odd_walk -/
def OddR (B : List (List Int)) (sz : Nat) (o : Option (List Int)) : Prop := (∃ i r, o = some (cl r) ∧ 1 + 2 * i ≤ sz ∧ (allRows sz (1 + 2 * i)).find? (good B) = some r ∧ ∀ j, j < i → (allRows sz (1 + 2 * j)).find? (good B) = none) ∨ (o = none ∧ ∀ j, 1 + 2 * j ≤ sz → (allRows sz (1 + 2 * j)).find? (good B) = none)
def sp_odd_walk (T : Txt K mg base) : Sp := fun vs H Q _ => ∃ (sz : Nat) (v : V) (es : List (List Int)), vs = [.int sz, v] ∧ DT K H v (.tuple (es.map rowD)) ∧ TT T.tabs H ∧ GrOk sz es ∧ ∀ x H' rs o, Gr H H' → Asc rs → (∀ x, x ∈ rs ↔ x ∈ es ∨ x ∈ es.map swp) → OddR rs sz o → OptD K H' x o → Q x H'
theorem steps_good (B : List (List Int)) (r : List Int) : (steps (cl r)).all (fun e => decide (e ∈ B)) = good B r := rfl
theorem ok_odd_walk (T : Txt K mg base) : FnOk P w K mg base CX0 9 T.odd_walk.f T.odd_walk.fd p_odd_walk (sp_odd_walk T) := by
  refine T.odd_walk.F.ok sc_odd_walk (fun vs H Q E h => ?_) (fun A outer s H vs Q E hr h => ?_)
  · obtain ⟨_, _, _, rfl, _⟩ := h
    rfl
  · obtain ⟨sz, v, es, rfl, hv, hT, G, q⟩ := h
    refine ⟨_, (pss_cons (ps_expr (pe_call (ok_check_graph T) (hr.mono (by decide)) (by rfl) T.check_graph.g T.check_graph.F.kp T.check_graph.b .nil pass0 (pa_cons (pv 0) (pa_cons (pv 1) pa_nil)))) (pss_cons (ps_set (i := 2) sc_odd_walk.nd rfl (by first | exact .inl rfl | exact .inr rfl) (pe_call (ok_directed T) (hr.mono (by decide)) (by rfl) T.directed.g T.directed.F.kp T.directed.b .nil pass0 (pa_cons (pv 1) pa_nil))) (pss_cons (ps_for PassesOwn.never rfl (pi_range3 (by rfl) T.b_range (pa_cons (pe_int) (pa_cons (pe_op op_add (pv 0) pe_int) (pa_cons (pe_int) pa_nil)))) (pg_name (i := 3) sc_odd_walk.nd rfl (by first | exact .inl rfl | exact .inr rfl))
        (pss_one (ps_for PassesOwn.never rfl (pi_listK K (pe_call (ok_all_rows T) (hr.mono (by decide)) (by rfl) T.all_rows.g T.all_rows.F.kp T.all_rows.b .nil pass0 (pa_cons (pv 0) (pa_cons (pv 3) pa_nil)))) (pg_name (i := 4) sc_odd_walk.nd rfl (by first | exact .inl rfl | exact .inr rfl))
          (pss_one (ps_if (pt_val (pe_call (ok_is_walk T) (hr.mono (by decide)) (by rfl) T.is_walk.g T.is_walk.F.kp T.is_walk.b .nil pass0 (pa_cons (pv 2) (pa_cons (pe_op (op_catAK K) (pv 4) (pe_slice (sl_tupAK K) (pv 4) po_none (po_some pe_int))) pa_nil)))) (pss_one (ps_ret (pe_op (op_catAK K) (pv 4) (pe_slice (sl_tupAK K) (pv 4) po_none (po_some pe_int))))) pss_nil))))) (pss_one (ps_ret pe_non))))), ?_⟩
    have G1 := G.s1
    have G4 := G.s4
    refine ⟨.int sz, rfl, v, rfl, sz, v, es, rfl, hv, hT, G, fun H1 g1 => ?_⟩
    refine ⟨v, rfl, sz, v, es, rfl, hv.gr g1, G, fun p H2 rs g2 np hp as mem => ?_⟩
    refine ⟨.int sz, rfl, _, _, rfl, rfl, 1, (sz : Int) + 1, 2, (sz + 1) / 2, rfl, ⟨by decide, by decide, ?_, ?_⟩, ?_⟩
    · have : sz = 1 ∨ sz = 2 ∨ sz = 3 ∨ sz = 4 := by omega
      rcases this with rfl | rfl | rfl | rfl <;> decide
    · have : sz = 1 ∨ sz = 2 ∨ sz = 3 ∨ sz = 4 := by omega
      rcases this with rfl | rfl | rfl | rfl <;> decide
    refine for_it (walk_rangeC (lo := 1) (c := 2) (n := (sz + 1) / 2)) (fun i σ H' => ∃ y3 y4, σ = [some (.int sz), some v, some (.ref p), y3, y4] ∧ Gr H2 H' ∧ ∀ j, j < i → (allRows sz (1 + 2 * j)).find? (good rs) = none) ⟨none, none, rfl, Gx.refl, fun j h => by omega⟩ (fun _ _ _ _ _ => trivial) (fun i x σ Hx H' hi hp' hy => ?_) (fun σ H' hp' => ?_)
    · obtain ⟨rfl, ex⟩ := hy
      obtain ⟨y3, y4, rfl, g, no⟩ := hp'
      have el : (1 : Int) + (i : Nat) * 2 = ((1 + 2 * i : Nat) : Int) := by omega
      rw [show (fun i : Nat => V.int (1 + (i : Int) * 2)) i = V.int ((1 + 2 * i : Nat) : Int) by show V.int _ = _; rw [el]] at ex
      subst ex
      refine ⟨.int sz, rfl, .int ((1 + 2 * i : Nat) : Int), rfl, sz, 1 + 2 * i, rfl, G4, by omega, fun p5 H5 g5 np5 hp5 => ?_⟩
      obtain ⟨xs, hp5, hx⟩ := hp5
      have xl : xs.length = (allRows sz (1 + 2 * i)).length := by rw [hx.1, List.length_map]
      refine ⟨p5, rfl, ⟨_, .inl (.inl hp5)⟩, ?_⟩
      refine for_list (K := K) (a := p5) (xs := xs) (fun k σ H6 => ∃ y4, σ = [some (.int sz), some v, some (.ref p), some (.int ((1 + 2 * i : Nat) : Int)), y4] ∧ Gr H5 H6 ∧ ∀ r ∈ (allRows sz (1 + 2 * i)).take k, good rs r = false) ⟨y4, rfl, Gx.refl, fun r hr => by simp at hr⟩ (fun k σ H6 _ hq => by
        obtain ⟨_, _, g, _⟩ := hq
        exact .inl (.inl (g.lst hp5))) (fun k x σ H6 ex hq => ?_) (fun σ H6 hq => ?_)
      · obtain ⟨y4, rfl, g6, no6⟩ := hq
        obtain ⟨d, ed, dx⟩ := hx.at' ex
        rw [List.getElem?_map] at ed
        obtain ⟨r, er, rfl⟩ := Option.map_eq_some_iff.mp ed
        obtain ⟨rl, rv⟩ := allRows_ok (List.mem_of_getElem? er)
        obtain ⟨t, rfl, ht⟩ := (dx.gr g6).row_invS
        have rne : r ≠ [] := fun z => by rw [z] at rl; simp at rl; omega
        have cut : cutV (r.map V.int) none (some 1) = (r.take 1).map V.int := by
          cases r with
          | nil => exact absurd rfl rne
          | cons a r =>
            show (((V.int a :: r.map V.int)).drop 0).take (min 1 (r.map V.int).length.succ - 0) = [V.int a]
            rw [show min 1 (r.map V.int).length.succ - 0 = 1 by omega]
            rfl
        have cat : ∀ {H7 : Hp} {R : VK}, Gr H6 H7 → (∀ z H8, Gr H7 H8 → DT K H8 z (rowD (cl r)) → R z H8) → tOp (rCatA K) (tVar 4) (tSl (rSlA K) (tVar 4) tNoPart (tPart (tC (.int 1)))) [some (.int sz), some v, some (.ref p), some (.int ((1 + 2 * i : Nat) : Int)), some (.ref t)] H7 R := fun {H7 R} g7 k => by
          have ht7 := Gx.tupS g7 .nil ht
          refine ⟨.ref t, rfl, .ref t, rfl, 1, rfl, t, _, rfl, .inl (.inl ht7), fun e => ?_, fun _ t8 n8 => ?_⟩
          · have e2 : (r.map V.int).length = 1 := by
              have := e.2
              show _ = _
              rw [show HT.sIx (r.map V.int).length (r.map V.int).length (some 1) = min 1 (r.map V.int).length from rfl] at this
              rw [List.length_map] at this ⊢
              omega
            have e3 : (r.take 1) = r := List.take_of_length_le (by rw [List.length_map] at e2; omega)
            refine ⟨t, t, _, _, rfl, rfl, .inl (.inl ht7), .inl (.inl ht7), (by rw [e2]; decide), (fun z => by rw [z] at e2; cases e2), (fun _ z => by rw [z] at e2; cases e2), fun _ _ t9 n9 => ?_⟩
            refine k _ _ (Gx.new n9) (.row ?_)
            rw [upd_same]
            unfold cl
            rw [e3, List.map_append]
          · have g8 : Gr H7 (upd H7 t8 (.tup (cutV (r.map V.int) none (some 1)))) := Gx.new n8
            have h8 : (upd H7 t8 (.tup (cutV (r.map V.int) none (some 1)))) t8 = some (.tup ((r.take 1).map V.int)) := by rw [upd_same, cut]
            have ht8 := Gx.tupS g8 .nil ht7
            generalize upd H7 t8 (.tup (cutV (r.map V.int) none (some 1))) = H8 at *
            have l1 : (r.take 1).length = 1 := by rw [List.length_take]; have := List.length_pos_iff.mpr rne; omega
            refine ⟨t, t8, _, _, rfl, rfl, .inl (.inl ht8), .inl (.inl h8), ?_, fun z => ?_, fun _ z => ?_, fun _ _ t9 n9 => ?_⟩
            · rw [List.length_map, List.length_map, rl, l1]
              exact Nat.le_of_lt (small1000 (by omega))
            · have := congrArg List.length z
              rw [List.length_map] at this
              exact absurd (List.length_eq_zero_iff.mp this) rne
            · have := congrArg List.length z
              rw [List.length_map, l1] at this
              cases this
            · refine k _ _ (g8.trans (Gx.new n9)) (.row ?_)
              rw [upd_same]
              unfold cl
              rw [List.map_append]
        refine ⟨.ref p, rfl, cat Gx.refl fun z H8 g8 hz => ?_⟩
        have g28 := ((g.trans g5).trans g6).trans g8
        refine ⟨p, z, rs, cl r, rfl, hp.gr g28, hz, by rw [cl_len rne, rl]; omega, fun H9 g9 => ?_⟩
        rw [steps_good]
        refine ⟨_, rfl, ?_⟩
        refine ite2 (fun hs => ?_) (fun hs => ?_)
        · refine cat (g8.trans g9) fun z H10 g10 hz => ?_
          exact q z H10 rs (some (cl r)) ((((g1.trans g2).trans g28).trans g9).trans g10) as mem (.inl ⟨i, r, rfl, by omega, find_take er no6 hs, no⟩) hz
        · refine ⟨_, rfl, (g6.trans g8).trans g9, fun r' hr' => ?_⟩
          rw [List.take_add_one, er] at hr'
          rcases List.mem_append.mp hr' with h | h
          · exact no6 r' h
          · rw [List.mem_singleton.mp h]
            simpa using hs
      · obtain ⟨y4, rfl, g6, no6⟩ := hq
        rw [xl, List.take_length] at no6
        refine ⟨_, _, rfl, (g.trans g5).trans g6, fun j hj => ?_⟩
        by_cases e : j = i
        · rw [e]
          exact List.find?_eq_none.mpr fun r hr => by
            rw [no6 r hr]
            exact Bool.false_ne_true
        · exact no j (by omega)
    · obtain ⟨y3, y4, rfl, g, no⟩ := hp'
      exact q .non H' rs none ((g1.trans g2).trans g) as mem (.inr ⟨rfl, fun j hj => no j (by omega)⟩) rfl
end K66

set_option Elab.async false
set_option linter.all false
set_option maxRecDepth 100000
set_option maxHeartbeats 4000000
/-! min of a list of data: the item itself -/
namespace MN
open PySem PySem.Spec PyProof.Rows L2 TK
open PySem.W PySem.SeqAt
theorem dpAll_ofD {K : PySem.W.Frag} {H : Hp} : ∀ {vs : List V} {ds : List PyData}, DTs K H vs ds → DpAll K H vs ds
  | [], [], _ => .nil
  | v :: vs, d :: ds, h => by
    obtain ⟨w, ws, e, h1, h2⟩ := h.cons_inv
    cases e
    exact .cons h1.dp (dpAll_ofD h2)
  | [], d :: ds, h => by have := h.1; simp at this
  | v :: vs, [], h => by have := h.1; simp at this
section
variable {prog : Program} {w : World} {A : Around} {E : Value → Shared → Prop} {s : Shared}
theorem min_list_at {l : Addr} {vs : Array Value} {x : PyData} {xs : List PyData} {as : List Addr} {Q : Value → Shared → Prop} (hh : A.handled = none) (hl : s.heap.IsList l vs) (hr : ReadsAll s.heap vs.toList (x :: xs) as) (ha : AlikeAll (x :: xs)) (hu : A.units + 1 + PyData.depthAll (x :: xs) < cLine)
    (q : ∀ (i : Nat) v h' tk, vs[i]? = some v → i < (x :: xs).length → (x :: xs).getD i .none = minD x xs → (∀ b o, s.heap.get? b = some o → h'.get? b = some o) → Q v { s with heap := h', toks := tk }) :
    wpAny (model prog w) A (call (.builtin "min") [.ref l]) Q E s := by
  have len : vs.size = xs.length + 1 := readsAll_len hr
  refine call_min_walkH (iter_listW (A := A.in1) hh hl fun s₂ e W st hfp hw hk => ⟨_, _, _, _, _, _, _, s.heap, _, rfl, W, st, hfp, by omega, hw, hk, cmpIn_lt (A := A.in1) hr ha (by show A.units + 1 + _ < _; exact hu), fun v s' hP m => ?_⟩)
  obtain ⟨h', tk, rfl, kp⟩ := moved_old e rfl m
  have last : vs.size - 1 = xs.length := by omega
  obtain ⟨le, e2⟩ := argBest_fold dataLt PyData.none x xs xs.length (Nat.le_refl _)
  rw [List.take_length] at e2
  rw [last] at hP
  exact q _ v h' tk hP (by rw [List.length_cons]; omega) e2 kp
end
def rMinD (K : PySem.W.Frag) : List V → Hp → VK → Prop := fun vs H Q => ∃ (a : Addr) (us : List V) (d : PyData) (ds : List PyData), vs = [V.ref a] ∧ SqL K H a us ∧ DTs K H us (d :: ds) ∧ AlikeAll (d :: ds) ∧ PyData.depthAll (d :: ds) ≤ 6 ∧ ∀ v, DT K H v (minD d ds) → Q v H
theorem cr_minD (K : PySem.W.Frag) {X : Cx} (hc : X.calm = true) (hu : X.A.units + 8 < cLine) (hK : X.K = K := by rfl) : CallR X (.builtin "min") (rMinD K) := by
  subst hK
  intro pins s σ H vs us Q I r h
  obtain ⟨a, ws, d, ds, rfl, ha, hd, hal, hdep, q⟩ := h
  rw [Vals.ref1 r]
  obtain ⟨its, rv, pl, hz⟩ := I.list ha
  obtain ⟨as, hr⟩ := Dp.readsAll I _ _ _ (dpAll_ofD hd) rv
  refine min_list_at (I.ok.hd hc) pl.isList (by simpa using hr) hal (by omega) fun i v h' tk ev hi em kp => ?_
  have evi : its[i]? = some v := by simpa using ev
  obtain ⟨x, ex, rx⟩ : ∃ x, ws[i]? = some x ∧ RelV x v := by
    have hl := rv.length
    have hi2 : i < ws.length := by
      have := (List.getElem?_eq_some_iff.mp evi).1
      omega
    refine ⟨ws[i], List.getElem?_eq_getElem hi2, ?_⟩
    obtain ⟨u, hu', ru⟩ := rv.get (List.getElem?_eq_getElem hi2)
    rw [hu'] at evi
    cases evi
    exact ru
  refine ⟨x, H, I.kept kp, rx, q x ?_⟩
  rw [← em, List.getD_eq_getElem?_getD, List.getElem?_eq_getElem hi]
  exact hd.2 i x _ ex (List.getElem?_eq_getElem hi)
end MN

set_option Elab.async false
set_option linter.all false
namespace MR
open PySem PySem.W PyProof.Rows PySem.SeqAt
theorem asc_ext : ∀ {l m : List (List Int)}, Asc l → Asc m → (∀ x, x ∈ l ↔ x ∈ m) → l = m
  | [], [], _, _, _ => rfl
  | [], y :: m, _, _, h => by have := (h y).mpr List.mem_cons_self; simp at this
  | x :: l, [], _, _, h => by have := (h x).mp List.mem_cons_self; simp at this
  | x :: l, y :: m, h1, h2, h => by
    obtain ⟨a1, a2⟩ := List.pairwise_cons.mp h1
    obtain ⟨b1, b2⟩ := List.pairwise_cons.mp h2
    have e : x = y := by
      rcases List.mem_cons.mp ((h x).mp List.mem_cons_self) with e | e
      · exact e
      · rcases List.mem_cons.mp ((h y).mpr List.mem_cons_self) with e2 | e2
        · exact e2.symm
        · exact (lex_no (a1 y e2) (b1 x e)).elim
    subst e
    have nl : x ∉ l := fun z => lex_no (a1 x z) (a1 x z)
    have nm : x ∉ m := fun z => lex_no (b1 x z) (b1 x z)
    rw [asc_ext a2 b2 fun z => ?_]
    constructor
    · intro hz
      rcases List.mem_cons.mp ((h z).mp (List.mem_cons_of_mem _ hz)) with e | e
      · exact absurd (e ▸ hz) nl
      · exact e
    · intro hz
      rcases List.mem_cons.mp ((h z).mpr (List.mem_cons_of_mem _ hz)) with e | e
      · exact absurd (e ▸ hz) nm
      · exact e
def fw (B : List (List Int)) (sz i : Nat) : Option (List Int) := (allRows sz (1 + 2 * i)).find? (good B)
/-- the law's walk behind the first i lengths -/
def wk (B : List (List Int)) (sz : Nat) : Nat → Option (List Int)
  | 0 => none
  | i + 1 => match wk B sz i with
    | some w => some w
    | none => (fw B sz i).map cl
theorem wk_none {B : List (List Int)} {sz : Nat} : ∀ {i : Nat}, (∀ j, j < i → fw B sz j = none) → wk B sz i = none
  | 0, _ => rfl
  | i + 1, h => by
    unfold wk
    rw [wk_none fun j hj => h j (by omega), h i (by omega)]
    rfl
theorem wk_some {B : List (List Int)} {sz i : Nat} {r : List Int} (h : ∀ j, j < i → fw B sz j = none) (e : fw B sz i = some r) : ∀ k, wk B sz (i + 1 + k) = some (cl r)
  | 0 => by
    show wk B sz (i + 1) = _
    unfold wk
    rw [wk_none h, e]
    rfl
  | k + 1 => by
    show wk B sz (i + 1 + k + 1) = _
    unfold wk
    rw [wk_some h e k]
theorem closed_row {sz : Nat} {B : List (List Int)} (S : Stp sz B) {L : Nat} (hL : 1 ≤ L) (h : closedW B L) : ∃ r ∈ allRows sz L, good B r = true := by
  obtain ⟨ns, hn, hw, hc⟩ := h
  have cb : closedB ns = true := decide_eq_true (by
    unfold lastI
    rw [hn, Nat.add_sub_cancel]
    exact hc)
  have e := cl_take hL hn cb
  refine ⟨ns.take L, mem_allRows (by rw [List.length_take]; omega) fun x hx => ?_, by unfold good; rw [e]; exact hw⟩
  obtain ⟨i, hi, rfl⟩ := List.getElem_of_mem hx
  rw [List.length_take] at hi
  rw [List.getElem_take]
  obtain ⟨u, v, e1, h0, h1, _, _⟩ := S.pair _ (isW_iff.mp hw i (by omega))
  injection e1 with e1 _
  rw [List.getD_eq_getElem?_getD, List.getElem?_eq_getElem (by omega)] at e1
  have e1 : ns[i] = u := e1
  rw [e1]
  exact ⟨h0, h1⟩
theorem fw_none {sz : Nat} {B : List (List Int)} (S : Stp sz B) {s : List Int} (h : sidesOk B s) (hs : ∀ x ∈ s, x = 0 ∨ x = 1) (hl : s.length = sz) (j : Nat) : fw B sz j = none := by
  refine List.find?_eq_none.mpr fun r hr g => ?_
  obtain ⟨rl, _⟩ := allRows_ok hr
  have rne : r ≠ [] := fun z => by rw [z] at rl; simp at rl; omega
  have c := of_decide_eq_true (cl_closed rne)
  unfold lastI at c
  rw [cl_len rne, Nat.add_sub_cancel, rl] at c
  exact odd_none S h hs hl (L := 1 + 2 * j) (by rw [cl_len rne, rl]) (by omega) g c
theorem sides_of {sz : Nat} {B : List (List Int)} (S : Stp sz B) (s1 : 1 ≤ sz) (s4 : sz ≤ 4) (h : ∀ j, 1 + 2 * j ≤ sz → fw B sz j = none) : ∃ s : List Int, s.length = sz ∧ (∀ x ∈ s, x = 0 ∨ x = 1) ∧ sidesOk B s := by
  have no : ∀ j, 1 + 2 * j ≤ sz → ¬ closedW B (1 + 2 * j) := fun j hj c => by
    obtain ⟨r, hr, g⟩ := closed_row S (by omega) c
    exact List.find?_eq_none.mp (h j hj) r hr g
  exact col_of S s4 (no 0 (by omega)) fun h3 => no 1 (by omega)
theorem side_row {sz : Nat} {s : List Int} (hl : s.length = sz) (hs : ∀ x ∈ s, x = 0 ∨ x = 1) : s ∈ allRows 2 sz := mem_allRows hl fun x hx => by rcases hs x hx with h | h <;> omega
theorem row_side {sz : Nat} {s : List Int} (h : s ∈ allRows 2 sz) : s.length = sz ∧ ∀ x ∈ s, x = 0 ∨ x = 1 := by
  obtain ⟨h1, h2⟩ := allRows_ok h
  exact ⟨h1, fun x hx => by have := h2 x hx; omega⟩
/-! growing parts -/
def Clsd (B : List (List Int)) (ns : List Int) : Prop := ∀ u ∈ ns, ∀ v : Int, [u, v] ∈ B → v ∈ ns
structure Part (sz : Nat) (B : List (List Int)) (m t : Nat) (ns : List Int) : Prop where
  asc : ns.Pairwise (· < ·)
  val : ∀ x ∈ ns, 0 ≤ x ∧ x < (sz : Int)
  mem : (m : Int) ∈ ns
  grow : Clsd B ns ∨ t + 1 ≤ ns.length
theorem Part.nd {sz m t : Nat} {B : List (List Int)} {ns : List Int} (h : Part sz B m t ns) : ns.Nodup := h.asc.imp fun h => by omega
theorem Part.len {sz m t : Nat} {B : List (List Int)} {ns : List Int} (h : Part sz B m t ns) : ns.length ≤ sz := by
  have := len_ints (m := (List.range sz).map fun (i : Nat) => (i : Int)) h.nd fun x hx => by
    obtain ⟨h0, h1⟩ := h.val x hx
    exact List.mem_map.mpr ⟨x.toNat, List.mem_range.mpr (by omega), by omega⟩
  rwa [List.length_map, List.length_range] at this
/-- where the steps of a part lead -/
def nexts (B : List (List Int)) (ns : List Int) : List Int := (B.filter fun e => decide (e.getD 0 0 ∈ ns)).map fun e => e.getD 1 0
theorem Part.step {sz m t : Nat} {B : List (List Int)} {ns ns' : List Int} (S : Stp sz B) (h : Part sz B m t ns) (ha : ns'.Pairwise (· < ·)) (hm : ∀ x, x ∈ ns' ↔ x ∈ ns ++ nexts B ns) : Part sz B m (t + 1) ns' := by
  have nx : ∀ x, x ∈ nexts B ns ↔ ∃ u ∈ ns, [u, x] ∈ B := fun x => by
    constructor
    · intro hx
      obtain ⟨e, he, rfl⟩ := List.mem_map.mp hx
      obtain ⟨h1, h2⟩ := List.mem_filter.mp he
      obtain ⟨u, v, rfl, _⟩ := S.pair e h1
      exact ⟨u, of_decide_eq_true h2, h1⟩
    · rintro ⟨u, hu, he⟩
      exact List.mem_map.mpr ⟨[u, x], List.mem_filter.mpr ⟨he, decide_eq_true hu⟩, rfl⟩
  have val : ∀ x ∈ ns', 0 ≤ x ∧ x < (sz : Int) := fun x hx => by
    rcases List.mem_append.mp ((hm x).mp hx) with hx | hx
    · exact h.val x hx
    · obtain ⟨u, _, he⟩ := (nx x).mp hx
      obtain ⟨a, b, e, _, _, h0, h1⟩ := S.pair _ he
      injection e with _ e
      injection e with e _
      rw [e]
      exact ⟨h0, h1⟩
  refine ⟨ha, val, (hm _).mpr (List.mem_append_left _ h.mem), ?_⟩
  have sub : ∀ x ∈ ns, x ∈ ns' := fun x hx => (hm x).mpr (List.mem_append_left _ hx)
  by_cases sh : Clsd B ns
  · refine .inl fun u hu v he => ?_
    have hu' : u ∈ ns := by
      rcases List.mem_append.mp ((hm u).mp hu) with hu | hu
      · exact hu
      · obtain ⟨w, hw, he2⟩ := (nx u).mp hu
        exact sh w hw u he2
    exact sub v (sh u hu' v he)
  · right
    have gr := h.grow.resolve_left sh
    obtain ⟨v, hv, hn⟩ : ∃ v ∈ ns', v ∉ ns := Decidable.byContradiction fun z => sh fun u hu v he => Decidable.byContradiction fun hv => z ⟨v, (hm v).mpr (List.mem_append_right _ ((nx v).mpr ⟨u, hu, he⟩)), hv⟩
    have := len_ints (l := v :: ns) (m := ns') (List.nodup_cons.mpr ⟨hn, h.nd⟩) fun x hx => by
      rcases List.mem_cons.mp hx with rfl | hx
      · exact hv
      · exact sub x hx
    rw [List.length_cons] at this
    omega
theorem Part.shut {sz m : Nat} {B : List (List Int)} {ns : List Int} (h : Part sz B m sz ns) : Clsd B ns := h.grow.resolve_right fun z => by have := h.len; omega
/-- the least of a part -/
theorem Part.head {sz m t : Nat} {B : List (List Int)} {ns : List Int} (h : Part sz B m t ns) : ∃ x : Nat, ns.getD 0 0 = (x : Int) ∧ ns[0]? = some (x : Int) ∧ x < sz ∧ (x : Int) ∈ ns ∧ ∀ y ∈ ns, (x : Int) ≤ y := by
  cases ns with
  | nil => have := h.mem; simp at this
  | cons a ns =>
    have v := h.val a List.mem_cons_self
    refine ⟨a.toNat, by show a = _; omega, by show some a = some _; congr 1; omega, by omega, by rw [Int.toNat_of_nonneg v.1]; exact List.mem_cons_self, fun y hy => ?_⟩
    rw [Int.toNat_of_nonneg v.1]
    rcases List.mem_cons.mp hy with rfl | hy
    · exact Int.le_refl _
    · have := (List.pairwise_cons.mp h.asc).1 y hy
      omega
theorem part_one {sz m : Nat} {B : List (List Int)} (h : m < sz) : Part sz B m 0 [(m : Int)] := ⟨List.pairwise_singleton .., fun x hx => by rw [List.mem_singleton.mp hx]; omega, List.mem_singleton.mpr rfl, .inr (by simp)⟩
end MR

set_option Elab.async false
set_option linter.all false
set_option maxRecDepth 100000
set_option maxHeartbeats 4000000
namespace K66
open PySem PySem.Spec PyProof.Rows L2 TK MR
variable {P : Program} {w : World} {K : PySem.W.Frag} {mg : Str → Option Value} {base : Heap}
theorem nat_add1 {x : Int} (h : 0 ≤ x) : ∃ n : Nat, 1 + x = (n : Int) := ⟨(1 + x).toNat, by omega⟩
theorem lex2 {a b c d : Int} (h : a < c ∨ (a = c ∧ b < d)) : HT.lexLt [a, b] [c, d] = true := by
  rcases h with h | ⟨rfl, h⟩
  · have : a ≠ c := by omega
    simp [HT.lexLt, h, this]
  · have : b ≠ d := by omega
    simp [HT.lexLt, h, this]
/-- the edges with their lesser value below i -/
structure Eds (sz i : Nat) (es : List (List Int)) : Prop where
  pair : ∀ e ∈ es, ∃ a b : Int, e = [a, b] ∧ 0 ≤ a ∧ a < (i : Int) ∧ a ≤ b ∧ b < (sz : Int)
  asc : es.Pairwise fun r q => HT.lexLt r q = true
  few : es.length ≤ 4 * i
/-- the edges with the lesser value i, the greater one below i + m -/
structure Ed1 (i m : Nat) (cs : List (List Int)) : Prop where
  pair : ∀ e ∈ cs, ∃ b : Int, e = [(i : Int), b] ∧ (i : Int) ≤ b ∧ b < (i : Int) + m
  asc : cs.Pairwise fun r q => HT.lexLt r q = true
  few : cs.length ≤ m
theorem Ed1.more {i m : Nat} {cs : List (List Int)} (h : Ed1 i m cs) : Ed1 i (m + 1) cs := ⟨fun e he => by obtain ⟨b, e1, e2, e3⟩ := h.pair e he; exact ⟨b, e1, e2, by omega⟩, h.asc, Nat.le_succ_of_le h.few⟩
theorem Ed1.add {i m : Nat} {cs : List (List Int)} (h : Ed1 i m cs) : Ed1 i (m + 1) (cs ++ [[(i : Int), (i : Int) + (m : Int)]]) := by
  refine ⟨fun e he => ?_, ?_, by rw [List.length_append]; exact Nat.succ_le_succ h.few⟩
  · rcases List.mem_append.mp he with he | he
    · obtain ⟨b, e1, e2, e3⟩ := h.pair e he
      exact ⟨b, e1, e2, by omega⟩
    · exact ⟨_, List.mem_singleton.mp he, by omega, by omega⟩
  · rw [List.pairwise_append]
    refine ⟨h.asc, List.pairwise_singleton .., fun a ha b hb => ?_⟩
    obtain ⟨x, rfl, _, e3⟩ := h.pair a ha
    rw [List.mem_singleton.mp hb]
    exact lex2 (.inr ⟨rfl, by omega⟩)
theorem Eds.add {sz i : Nat} {es cs : List (List Int)} (h : Eds sz i es) (k : Ed1 i (sz - i) cs) (hi : i < sz) (s4 : sz ≤ 4) : Eds sz (i + 1) (es ++ cs) := by
  refine ⟨fun e he => ?_, ?_, by rw [List.length_append]; have := h.few; have := k.few; omega⟩
  · rcases List.mem_append.mp he with he | he
    · obtain ⟨a, b, e1, e2, e3, e4, e5⟩ := h.pair e he
      exact ⟨a, b, e1, e2, by omega, e4, e5⟩
    · obtain ⟨b, e1, e2, e3⟩ := k.pair e he
      exact ⟨i, b, e1, by omega, by omega, e2, by omega⟩
  · rw [List.pairwise_append]
    refine ⟨h.asc, k.asc, fun a ha b hb => ?_⟩
    obtain ⟨x, y, rfl, _, e3, _⟩ := h.pair a ha
    obtain ⟨z, rfl, _⟩ := k.pair b hb
    exact lex2 (.inl e3)
structure St (T : Txt K mg base) (H : Hp) (r c : Addr) : Prop where
  row : RowSt K H r c
  live : Lv K H c
  tabs : TT T.tabs H
theorem St.gx {T : Txt K mg base} {H H' : Hp} {r c : Addr} (h : St T H r c) (g : Gx [r] H H') (hR : RowSt K H' r c) : St T H' r c := ⟨hR, Lv.gx g hR h.live, g.ttS h.row.ls h.tabs⟩
theorem St.gr {T : Txt K mg base} {H H' : Hp} {r c : Addr} (h : St T H r c) (g : Gr H H') : St T H' r c := h.gx g.x (h.row.gr g)
theorem LR.gxr {H H' : Hp} {r p : Addr} {rows : List (List Int)} (g : Gx [r] H H') (ls : LS [r] H) (n : p ≠ r) (h : LR K H p rows) : LR K H' p rows := by
  obtain ⟨xs, a, b⟩ := h
  exact ⟨xs, g.at (fun z => n (List.mem_singleton.mp z)) a (fun _ z => by cases z), b.gx g ls⟩
theorem row_nr {H : Hp} {r c p : Addr} (h : RowSt K H r c) (n : H p = none) : p ≠ r := fun z => by
  obtain ⟨xs, e⟩ := h.lst
  rw [← z, n] at e
  cases e
theorem St.wr {T : Txt K mg base} {H : Hp} {r c p : Addr} {xs : List V} {o : HO} (h : St T H r c) (n : p ≠ r) (nc : c ≠ p ∨ ∃ ns : List Int, SqL K (fun _ => none) c (ns.map V.int)) (hp : H p = some (.lst xs)) : St T (upd H p o) r c :=
  ⟨h.row.wr n.symm nc, h.live.imp_left fun z e => by
    unfold upd at e
    split at e
    · cases e
    · exact z e, Gx.ttS (S := [p]) (Gx.refl.wrS (List.mem_singleton.mpr rfl)) (.one hp) h.tabs⟩
theorem LR.wrO {H : Hp} {p d : Addr} {rows : List (List Int)} {xs : List V} {o : HO} (n : d ≠ p) (hp : H p = some (.lst xs)) (h : LR K H d rows) : LR K (upd H p o) d rows := by
  obtain ⟨vs, a, b⟩ := h
  exact ⟨vs, by rw [upd_ne n]; exact a, b.wr hp⟩
theorem ints_nil (ms : List Int) : PyData.eqv (.list (ms.map PyData.int)) (.list []) = decide (ms = []) := by
  cases ms with
  | nil => simp [PyData.eqv, PyData.eqvAll]
  | cons r rows => simp [PyData.eqv, PyData.eqvAll]
theorem joinX {α : Type} {k : L2.St → Hp → Prop} {st : α → L2.St} {hp : α → Hp} {Pa : α → Prop} {G : Prop} (step : (∀ a, Pa a → k (st a) (hp a)) → G) (rest : ∀ a, Pa a → k (st a) (hp a)) : G := step rest
theorem joinVH {i : Nat} {Pa : V → Hp → Prop} {σ : L2.St} {k : L2.St → Hp → Prop} {G : Prop} (step : (∀ v H, Pa v H → gName i v σ H k) → G) (rest : ∀ v H, Pa v H → gName i v σ H k) : G := step rest
theorem ok_alike_break (T : Txt K mg base) : FnOk P w K mg base CX0 5 T.law_alike.f T.law_alike.fd p_law_alike (fun vs H Q E => sp_law_alike K 4 vs H Q E ∨ sp_alike_non vs H Q E) := fn_or (ok_law_alike T 4) ((ok_alike_non T).mono (by decide))
theorem ok_law_alike6 (T : Txt K mg base) : FnOk P w K mg base CX0 7 T.law_alike.f T.law_alike.fd p_law_alike (sp_law_alike K 6) := ok_law_alike T 6
/-- the edges of which two lists are made -/
structure Lk (T : Txt K mg base) (H : Hp) (l pb : Addr) (es rs : List (List Int)) : Prop where
  ed : DT K H (.ref l) (.tuple (es.map rowD))
  bo : LR K H pb rs
  tabs : TT T.tabs H
theorem Lk.gr {T : Txt K mg base} {H H' : Hp} {l pb : Addr} {es rs : List (List Int)} (g : Gr H H') (h : Lk T H l pb es rs) : Lk T H' l pb es rs := ⟨h.ed.gr g, h.bo.gr g, g.tt h.tabs⟩
theorem stp_of {sz : Nat} {es rs : List (List Int)} (G : GrOk sz es) (mem : ∀ x, x ∈ rs ↔ x ∈ es ∨ x ∈ es.map swp) : Stp sz rs := by
  have sw : ∀ {u v : Int}, [u, v] ∈ es → [v, u] ∈ es.map swp := fun {u v} h => List.mem_map.mpr ⟨_, h, rfl⟩
  refine ⟨fun e he => ?_, fun u v h => ?_⟩
  · rcases (mem e).mp he with h | h
    · obtain ⟨a, b, e1, h1, h2, h3⟩ := G.pair e h
      exact ⟨a, b, e1, h1, by omega, by omega, h3⟩
    · obtain ⟨e', h', rfl⟩ := List.mem_map.mp h
      obtain ⟨a, b, rfl, h1, h2, h3⟩ := G.pair e' h'
      exact ⟨b, a, rfl, by omega, h3, h1, by omega⟩
  · refine (mem _).mpr ?_
    rcases (mem _).mp h with h | h
    · exact .inr (sw h)
    · obtain ⟨e', h', e⟩ := List.mem_map.mp h
      obtain ⟨a, b, rfl, _⟩ := G.pair e' h'
      injection e with e1 e
      injection e with e2 _
      have e1 : b = u := e1
      have e2 : a = v := e2
      subst e1 e2
      exact .inl h'
theorem sok_iff {sz : Nat} {es rs s : List (List Int)} {t : List Int} (G : GrOk sz es) (mem : ∀ x, x ∈ rs ↔ x ∈ es ∨ x ∈ es.map swp) : sok es t = true ↔ sidesOk rs t := by
  unfold sok sidesOk
  rw [List.all_eq_true]
  constructor
  · intro h u v he
    rcases (mem _).mp he with h1 | h1
    · exact of_decide_eq_true (h _ h1)
    · obtain ⟨e', h', e⟩ := List.mem_map.mp h1
      obtain ⟨a, b, rfl, _⟩ := G.pair e' h'
      injection e with e1 e
      injection e with e2 _
      have e1 : b = u := e1
      have e2 : a = v := e2
      subst e1 e2
      exact fun z => of_decide_eq_true (h _ h') z.symm
  · intro h e he
    obtain ⟨a, b, rfl, _⟩ := G.pair e he
    exact decide_eq_true (h a b ((mem _).mpr (.inl he)))
theorem it_graph {sz : Nat} {rs : List (List Int)} (h : rs.length ≤ 1000) (hl : ∀ r ∈ rs, r.length ≤ 1000) : IT 6 (graphD sz rs) := ⟨by show 2 ≤ 1000; omega, fun e he => by
  simp only [List.mem_cons, List.not_mem_nil, or_false] at he
  rcases he with rfl | rfl
  · exact trivial
  · exact ⟨by show 1 ≤ 1000; omega, fun e he => by
      rw [List.mem_singleton.mp he]
      exact it_rel (ar := 2) h hl⟩⟩
theorem few_rs {sz : Nat} {es rs : List (List Int)} (G : GrOk sz es) (as : Asc rs) (mem : ∀ x, x ∈ rs ↔ x ∈ es ∨ x ∈ es.map swp) : rs.length ≤ 60 := by
  have := len_le_of_sub (l := rs) (m := es ++ es.map swp) (as.imp fun {a b} h e => by subst e; exact lex_no h h) fun x hx => List.mem_append.mpr ((mem x).mp hx)
  rw [List.length_append, List.length_map] at this
  have := G.few
  omega
/-- the next steps of a walk -/
def nxt (B : List (List Int)) (sz m : Nat) (r : List Int) : List (List Int) := ((List.range m).filter fun (b : Nat) => decide ([lastI r, (b : Int)] ∈ B)).map fun (b : Nat) => r ++ [(b : Int)]
theorem wl_nxt (B : List (List Int)) (sz L : Nat) : wl B sz (L + 1) = (wl B sz L).flatMap (nxt B sz sz) := rfl
theorem nxt_more {B : List (List Int)} {sz m : Nat} {r : List Int} : nxt B sz (m + 1) r = nxt B sz m r ++ (if [lastI r, (m : Int)] ∈ B then [r ++ [(m : Int)]] else []) := by
  unfold nxt
  rw [List.range_succ, List.filter_append, List.map_append]
  by_cases h : [lastI r, (m : Int)] ∈ B
  · rw [if_pos h, List.filter_cons, if_pos (decide_eq_true h)]
    rfl
  · rw [if_neg h, List.filter_cons, if_neg (by simpa using h)]
    rfl
theorem take_flat {α β : Type} {f : α → List β} {l : List α} {k : Nat} : ((l.take k).flatMap f).length ≤ (l.flatMap f).length := by
  have e : l.flatMap f = (l.take k).flatMap f ++ (l.drop k).flatMap f := by rw [← List.flatMap_append, List.take_append_drop]
  rw [e, List.length_append]
  omega
theorem wl_row {B : List (List Int)} {sz L : Nat} {r : List Int} (h : r ∈ wl B sz L) : r.length = L + 1 ∧ ∀ x ∈ r, 0 ≤ x ∧ x < (sz : Int) := by
  rw [wl_eq] at h
  exact allRows_ok (List.mem_filter.mp h).1
theorem pow_few {sz n : Nat} (h : sz ≤ 4) (hn : n ≤ 8) : sz ^ n ≤ 65536 := Nat.le_trans (Nat.pow_le_pow_left h n) (Nat.le_trans (Nat.pow_le_pow_right (by decide) hn) (by decide))
theorem iteN {c : Bool} {A B : Prop} (h : c = false) (b : B) : if c = true then A else B := by rw [h]; exact b
theorem iteY {c : Bool} {A B : Prop} (h : c = true) (a : A) : if c = true then A else B := by rw [h, if_pos rfl]; exact a
theorem walk_eq {sz : Nat} {B : List (List Int)} {o : Option (List Int)} (S : Stp sz B) (s1 : 1 ≤ sz) (s4 : sz ≤ 4) (h : OddR B sz o) : MR.wk B sz 4 = o ∧ (o = none → ∃ s : List Int, s.length = sz ∧ (∀ x ∈ s, x = 0 ∨ x = 1) ∧ sidesOk B s) ∧ ∀ w, o = some w → (∃ i r, w = cl r ∧ r.length = 1 + 2 * i ∧ (∀ x ∈ r, 0 ≤ x ∧ x < (sz : Int)) ∧ good B r = true ∧ 1 + 2 * i ≤ sz) ∧ ∀ s : List Int, s.length = sz → (∀ x ∈ s, x = 0 ∨ x = 1) → ¬ sidesOk B s := by
  rcases h with ⟨i, r, rfl, hi, e, no⟩ | ⟨rfl, no⟩
  · have w := wk_some (B := B) (sz := sz) (i := i) (r := r) no e (3 - i)
    rw [show i + 1 + (3 - i) = 4 by omega] at w
    refine ⟨w, fun z => (by cases z), fun w' hw => ?_⟩
    cases hw
    obtain ⟨rl, rv⟩ := allRows_ok (List.mem_of_find?_eq_some e)
    refine ⟨⟨i, r, rfl, rl, rv, List.find?_some e, hi⟩, fun s hl hs hc => ?_⟩
    have n : (allRows sz (1 + 2 * i)).find? (good B) = none := fw_none S hc hs hl i
    rw [n] at e
    cases e
  · obtain ⟨s, hl, hs, hc⟩ := sides_of S s1 s4 no
    exact ⟨wk_none fun j _ => fw_none S hc hs hl j, fun _ => ⟨s, hl, hs, hc⟩, fun w z => by cases z⟩
theorem odd_cl {es rs r : List (List Int)} {w : List Int} {i : Nat} (mem : ∀ x, x ∈ rs ↔ x ∈ es ∨ x ∈ es.map swp) (hl : w.length = 1 + 2 * i) (hg : good rs w = true) : oddW es (cl w) = true := by
  have wne : w ≠ [] := fun z => by rw [z] at hl; simp at hl; omega
  have c := of_decide_eq_true (cl_closed wne)
  unfold lastI at c
  unfold oddW
  rw [Bool.and_eq_true, Bool.and_eq_true, Bool.and_eq_true]
  refine ⟨decide_eq_true ?_, decide_eq_true ?_, decide_eq_true c, ?_⟩
  · rw [cl_len wne]
    omega
  · rw [cl_len wne, hl]
    omega
  · rw [← hg, ← steps_good]
    congr 1
    funext e
    exact decide_eq_decide.mpr (mem e).symm
theorem nexts_take {B : List (List Int)} {ns : List Int} {m : Nat} {u v : Int} (e : B[m]? = some [u, v]) : nexts (B.take (m + 1)) ns = nexts (B.take m) ns ++ (if u ∈ ns then [v] else []) := by
  unfold nexts
  rw [List.take_add_one, e, List.filter_append, List.map_append]
  by_cases h : u ∈ ns
  · rw [if_pos h]
    simp [h]
  · rw [if_neg h]
    simp [h]
theorem nexts_len (B : List (List Int)) (ns : List Int) : (nexts B ns).length ≤ B.length := by
  unfold nexts
  rw [List.length_map]
  exact List.length_filter_le ..
theorem at_row {s : List Int} {z : Int} (h0 : 0 ≤ z) (h1 : z.toNat < s.length) : atI (s.map V.int) z = some (.int (s.getD z.toNat 0)) := by
  have e : z = ((z.toNat : Nat) : Int) := by omega
  have g : atI (s.map V.int) ((z.toNat : Nat) : Int) = some (.int (s.getD z.toNat 0)) := by
    refine atI_nat ?_
    rw [List.getElem?_map, List.getElem?_eq_getElem h1, List.getD_eq_getElem?_getD, List.getElem?_eq_getElem h1]
    rfl
  rw [← e] at g
  exact g
def sp_law (T : Txt K mg base) : Sp := fun vs H Q _ => ∃ (c : Addr) (ns : List Int), vs = [.ref c] ∧ SqL K H c (ns.map V.int) ∧ (H c ≠ none ∨ SqL K (fun _ => none) c (ns.map V.int)) ∧ TT T.tabs H ∧ ∀ H', Q (.bl true) H'
theorem ok_law (T : Txt K mg base) : FnOk P w K mg base CX0 10 T.law.f T.law.fd p_law (sp_law T) := by
  refine T.law.F.ok sc_law (fun vs H Q E h => ?_) (fun A outer s H vs Q E hr h => ?_)
  · obtain ⟨_, _, rfl, _⟩ := h
    rfl
  · obtain ⟨c, ns, rfl, hS, hc, hT, q⟩ := h
    have hu65 : (A.deeper (envOfC "law" (defScope s_law) s.heap.objs.size T.law.f (.ref T.law.c))).units + 65 < cLine := by have := hr.un; omega
    have hu8 : (A.deeper (envOfC "law" (defScope s_law) s.heap.objs.size T.law.f (.ref T.law.c))).units + 8 < cLine := by have := hr.un; omega
    refine ⟨_, (pss_cons (ps_set (i := 1) sc_law.nd rfl (by first | exact .inl rfl | exact .inr rfl) (pe_lst (pa_cons (pv 0) (pa_cons (pe_int) (pa_cons (pe_int) (pa_cons (pe_int) pa_nil)))))) (pss_cons (ps_par (i := 2) (j := 3) (by rfl) sc_law.nd rfl rfl (by decide) rfl rfl (pa_cons (pe_op op_add pe_int (pe_call (ok_law_taken T) (hr.mono (by decide)) (by rfl) T.law_taken.g T.law_taken.F.kp T.law_taken.b .nil pass0 (pa_cons (pv 1) (pa_cons (pe_int) pa_nil)))) (pa_cons (pe_lst pa_nil) pa_nil)) (by rfl)) (pss_cons (ps_set (i := 4) sc_law.nd rfl (by first | exact .inl rfl | exact .inr rfl) (pe_cmpR op_eq (pe_call (ok_law_taken T) (hr.mono (by decide)) (by rfl) T.law_taken.g T.law_taken.F.kp T.law_taken.b .nil pass0 (pa_cons (pv 1) (pa_cons (pe_int) pa_nil))) pe_int (nomark _))) (pss_cons (ps_for PassesOwn.never rfl (pi_range1 (by rfl) T.b_range (pa_cons (pv 2) pa_nil)) (pg_name (i := 5) sc_law.nd rfl (by first | exact .inl rfl | exact .inr rfl))
        (pss_one (ps_for PassesOwn.never rfl (pi_range2 (by rfl) T.b_range (pa_cons (pv 5) (pa_cons (pv 2) pa_nil))) (pg_name (i := 6) sc_law.nd rfl (by first | exact .inl rfl | exact .inr rfl))
          (pss_one (ps_if (PW.pt (pw_and (pt_cmpR op_eq (pe_call (ok_law_taken T) (hr.mono (by decide)) (by rfl) T.law_taken.g T.law_taken.F.kp T.law_taken.b .nil pass0 (pa_cons (pv 1) (pa_cons (pe_int) pa_nil))) pe_int (nomark _)) (pw_and1 (PW.pt (pw_or (pt_cmpR op_ne (pv 5) (pv 6) (nomark _)) (pw_or1 (PW.pt (pw_and (pt_val (pv 4)) (pw_and1 (pt_cmpR op_eq (pe_call (ok_law_taken T) (hr.mono (by decide)) (by rfl) T.law_taken.g T.law_taken.F.kp T.law_taken.b .nil pass0 (pa_cons (pv 1) (pa_cons (pe_int) pa_nil))) pe_int (nomark _))))))))))) (pss_one (ps_expr (pe_bm PySem.F.plainAttrs_list PySem.F.slot_list_append PySem.F.type_list_append mt_append (pv 3) (pa_cons (pe_tup (pa_cons (pv 5) (pa_cons (pv 6) pa_nil))) pa_nil)))) pss_nil))))) (pss_cons (ps_set (i := 3) sc_law.nd rfl (by first | exact .inl rfl | exact .inr rfl) (pe_callTy (call_tuple_ofK K) (by rfl) T.b_tuple boot_tuple (pa_cons (pv 3) pa_nil))) (pss_cons (ps_set (i := 7) sc_law.nd rfl (by first | exact .inl rfl | exact .inr rfl) (pe_call (ok_law_once2 T) (hr.mono (by decide)) (by rfl) T.law_once.g T.law_once.F.kp T.law_once.b .nil pass0 (pa_cons (pe_op op_cat (pe_callTy call_list_of (by rfl) T.b_list boot_list (pa_cons (pv 3) pa_nil)) (pe_lc (own := [("pair", 8)]) (g := gName 8) (tt := tYes) rfl sc_law.nd (pi_tupK K (pv 3)) (blkOk_by (N := n_law) (sc := defScope s_law) (by decide +kernel)) (fun _ _ _ _ _ => pg_name (i := 8) sc_law.nd rfl (by first | exact .inl rfl | exact .inr rfl)) (fun _ _ _ _ _ => pts_nil)
          (fun _ _ _ _ _ => pe_tup (pa_cons (pe_ix (ix_tupK K) (pv 8) pe_int (fun _ _ => rfl)) (pa_cons (pe_ix (ix_tupK K) (pv 8) pe_int (fun _ _ => rfl)) pa_nil))))) pa_nil))) (pss_cons (ps_if (pt_not (pt_val (pe_call (ok_law_alike6 T) (hr.mono (by decide)) (by rfl) T.law_alike.g T.law_alike.F.kp T.law_alike.b .nil pass0 (pa_cons ((pe_call (ok_graph T) hr (by rfl) T.graph.g T.graph.F.kp T.graph.b .nil pass0 (pa_cons (pv 2) (pa_cons (pv 3) pa_nil)))) (pa_cons (pe_tup (pa_cons (pv 2) (pa_cons (pe_tup (pa_cons (pe_tup (pa_cons (pe_int) (pa_cons ((pe_callTy (call_tuple_ofK K) (by rfl) T.b_tuple boot_tuple (pa_cons (pv 7) pa_nil))) pa_nil))) pa_nil)) pa_nil))) pa_nil))))) (pss_one (ps_never)) pss_nil) (pss_cons (ps_set (i := 9) sc_law.nd rfl (by first | exact .inl rfl | exact .inr rfl) pe_non) (pss_cons (ps_for PassesOwn.never rfl (pi_listK K (pe_lst (pa_cons (pe_int) (pa_cons (pe_int) (pa_cons (pe_int) (pa_cons (pe_int) pa_nil)))))) (pg_name (i := 10) sc_law.nd rfl (by first | exact .inl rfl | exact .inr rfl))
        (pss_one (ps_if (pt_cmpR op_isN (pv 9) pe_non (nomark _))
          (pss_cons (ps_setLc (i := 11) (own := [("node", 12)]) (g := gName 12) rfl sc_law.nd rfl rfl (sw_true rfl rfl rfl (by decide +kernel)) (pi_range1 (by rfl) T.b_range (pa_cons (pv 2) pa_nil)) (blkOk_by (N := n_law) (sc := defScope s_law) (by decide +kernel)) (fun _ _ _ _ _ => pg_name (i := 12) sc_law.nd rfl (by first | exact .inl rfl | exact .inr rfl)) (fun _ _ _ _ _ => pts_nil) (fun _ _ _ _ _ => pe_tup (pa_cons (pv 12) pa_nil))) (pss_cons (ps_for PassesOwn.never rfl (pi_range1 (by rfl) T.b_range (pa_cons (pv 10) pa_nil)) (pg_name (i := 13) sc_law.nd rfl (by first | exact .inl rfl | exact .inr rfl))
              (pss_cons (ps_set (i := 14) sc_law.nd rfl (by first | exact .inl rfl | exact .inr rfl) (pe_lst pa_nil)) (pss_cons (ps_for PassesOwn.never rfl (pi_listK K (pv 11)) (pg_name (i := 15) sc_law.nd rfl (by first | exact .inl rfl | exact .inr rfl))
                  (pss_one (ps_set (i := 14) sc_law.nd rfl (by first | exact .inl rfl | exact .inr rfl) (pe_op op_cat (pv 14) (pe_lc (own := [("b", 6)]) (g := gName 6) rfl sc_law.nd (pi_range1 (by rfl) T.b_range (pa_cons (pv 2) pa_nil)) (blkOk_by (N := n_law) (sc := defScope s_law) (by decide +kernel)) (fun _ _ _ _ _ => pg_name (i := 6) sc_law.nd rfl (by first | exact .inl rfl | exact .inr rfl))
                    (fun _ _ _ _ _ => pts_one (pt_cmpR (op_inDK K hu65) (pe_tup (pa_cons (pe_ix (ix_tupK K) (pv 15) (pe_un un_neg pe_int) (fun _ _ => rfl)) (pa_cons (pv 6) pa_nil))) (pv 7) (by rfl)))
                    (fun _ _ _ _ _ => pe_op (op_catAK K) (pv 15) (pe_tup (pa_cons (pv 6) pa_nil)))))))) (pss_one (ps_set (i := 11) sc_law.nd rfl (by first | exact .inl rfl | exact .inr rfl) (pv 14)))))) (pss_cons (ps_setLc (i := 16) (own := [("told", 15)]) (g := gName 15) rfl sc_law.nd rfl rfl (sw_true rfl rfl rfl (by decide +kernel)) (pi_listK K (pv 11)) (blkOk_by (N := n_law) (sc := defScope s_law) (by decide +kernel)) (fun _ _ _ _ _ => pg_name (i := 15) sc_law.nd rfl (by first | exact .inl rfl | exact .inr rfl))
                (fun _ _ _ _ _ => pts_one (pt_cmpR op_eq (pe_ix (ix_tupK K) (pv 15) pe_int (fun _ _ => rfl)) (pe_ix (ix_tupK K) (pv 15) (pe_un un_neg pe_int) (fun _ _ => rfl)) (nomark _))) (fun _ _ _ _ _ => pv 15)) (pss_one (ps_set (i := 9) sc_law.nd rfl (by first | exact .inl rfl | exact .inr rfl) (pe_ifExp (pt_cmpR (op_neD hr.units) (pv 16) (pe_lst pa_nil) (nomark _)) (pe_callB (MN.cr_minD K rfl hu8) (by rfl) T.b_min boot_min (pa_cons (pv 16) pa_nil)) pe_non)))))) pss_nil))) (pss_cons (ps_asg (pe_tup (pa_cons ((pe_call (ok_two_sides T) hr (by rfl) T.two_sides.g T.two_sides.F.kp T.two_sides.b .nil pass0 (pa_cons (pv 2) (pa_cons (pv 3) pa_nil)))) (pa_cons ((pe_call (ok_odd_walk T) hr (by rfl) T.odd_walk.g T.odd_walk.F.kp T.odd_walk.b .nil pass0 (pa_cons (pv 2) (pa_cons (pv 3) pa_nil)))) pa_nil))) (pg_tup (by rfl) (pgs_cons (pg_name (i := 17) sc_law.nd rfl (by first | exact .inl rfl | exact .inr rfl)) (pgs_cons (pg_name (i := 18) sc_law.nd rfl (by first | exact .inl rfl | exact .inr rfl)) pgs_nil)))) (pss_cons (ps_if (PW.pt (pw_or (pt_not (pt_val (pe_call (ok_alike_break T) (hr.mono (by decide)) (by rfl) T.law_alike.g T.law_alike.F.kp T.law_alike.b .nil pass0 (pa_cons (pv 18) (pa_cons (pv 9) pa_nil))))) (pw_or1 (pt_cmpR op_ne (pe_cmpR op_isN (pv 17) pe_non (nomark _)) (pe_cmpR op_notN (pv 9) pe_non (nomark _)) (nomark _))))) (pss_one (ps_never)) pss_nil) (pss_cons (ps_if (pt_cmpR op_notN (pv 17) pe_non (nomark _))
        (pss_cons (ps_if (PW.pt (pw_or (pt_not (pt_val (pe_callB call_isi (by rfl) T.b_isinstance boot_isinstance (pa_cons (pv 17) (pa_cons (pe_bltn (v := .ty "tuple") (by rfl) T.b_tuple boot_tuple rfl) pa_nil))))) (pw_or1 (pt_cmpR op_ne (pe_callB (call_len_seqK K) (by rfl) T.b_len PySem.boot_len (pa_cons (pv 17) pa_nil)) (pv 2) (nomark _))))) (pss_one (ps_never)) pss_nil) (pss_cons (ps_if (pt_cmpR (op_neD hr.units) (pe_lc (own := [("side", 19)]) (g := gName 19) rfl sc_law.nd (pi_tupK K (pv 17)) (blkOk_by (N := n_law) (sc := defScope s_law) (by decide +kernel)) (fun _ _ _ _ _ => pg_name (i := 19) sc_law.nd rfl (by first | exact .inl rfl | exact .inr rfl)) (fun _ _ _ _ _ => pts_one (pt_not (pt_val (pe_call (ok_law_whole T) (hr.mono (by decide)) (by rfl) T.law_whole.g T.law_whole.F.kp T.law_whole.b .nil pass0 (pa_cons (pv 19) (pa_cons (pe_int) (pa_cons (pe_int) pa_nil))))))) (fun _ _ _ _ _ => pv 19)) (pe_lst pa_nil) (nomark _)) (pss_one (ps_never)) pss_nil) (pss_cons (ps_if (pt_cmpR (op_neD hr.units) (pe_lc (own := [("pair", 8)]) (g := gName 8) rfl sc_law.nd (pi_tupK K (pv 3)) (blkOk_by (N := n_law) (sc := defScope s_law) (by decide +kernel)) (fun _ _ _ _ _ => pg_name (i := 8) sc_law.nd rfl (by first | exact .inl rfl | exact .inr rfl)) (fun _ _ _ _ _ => pts_one (pt_cmpR op_eq (pe_ix (ix_tupK K) (pv 17) (pe_ix (ix_tupK K) (pv 8) pe_int (fun _ _ => rfl)) (fun _ _ => rfl)) (pe_ix (ix_tupK K) (pv 17) (pe_ix (ix_tupK K) (pv 8) pe_int (fun _ _ => rfl)) (fun _ _ => rfl)) (nomark _))) (fun _ _ _ _ _ => pv 8)) (pe_lst pa_nil) (nomark _)) (pss_one (ps_never)) pss_nil) (pss_cons (ps_for PassesOwn.never rfl (pi_range1 (by rfl) T.b_range (pa_cons (pv 2) pa_nil)) (pg_name (i := 12) sc_law.nd rfl (by first | exact .inl rfl | exact .inr rfl))
            (pss_cons (ps_set (i := 20) sc_law.nd rfl (by first | exact .inl rfl | exact .inr rfl) (pe_lst (pa_cons (pv 12) pa_nil))) (pss_cons (ps_for PassesOwn.never rfl (pi_range1 (by rfl) T.b_range (pa_cons (pv 2) pa_nil)) (pg_name (i := 13) sc_law.nd rfl (by first | exact .inl rfl | exact .inr rfl))
                (pss_one (ps_set (i := 20) sc_law.nd rfl (by first | exact .inl rfl | exact .inr rfl) (pe_call (ok_law_once1 T) (hr.mono (by decide)) (by rfl) T.law_once.g T.law_once.F.kp T.law_once.b .nil pass0 (pa_cons (pe_op op_cat (pv 20) (pe_lc (own := [("pair", 8)]) (g := gName 8) rfl sc_law.nd (pi_listK K (pv 7)) (blkOk_by (N := n_law) (sc := defScope s_law) (by decide +kernel)) (fun _ _ _ _ _ => pg_name (i := 8) sc_law.nd rfl (by first | exact .inl rfl | exact .inr rfl)) (fun _ _ _ _ _ => pts_one (pt_cmpR (op_inDK K hu65) (pe_ix (ix_tupK K) (pv 8) pe_int (fun _ _ => rfl)) (pv 20) (by rfl))) (fun _ _ _ _ _ => pe_ix (ix_tupK K) (pv 8) pe_int (fun _ _ => rfl)))) pa_nil))))) (pss_one (ps_if (pt_cmpR op_ne (pe_ix (ix_tupK K) (pv 17) (pe_ix (ix_listK K) (pv 20) pe_int (fun _ _ => rfl)) (fun _ _ => rfl)) pe_int (nomark _)) (pss_one (ps_never)) pss_nil))))) (pss_one (ps_ret pe_bl)))))) pss_nil) (pss_one (ps_ret (pe_cmpR op_is_bl (pe_call (ok_shows_odd_walk T) hr (by rfl) T.shows_odd_walk.g T.shows_odd_walk.F.kp T.shows_odd_walk.b .nil pass0 (pa_cons (pv 2) (pa_cons (pv 3) (pa_cons (pv 18) pa_nil)))) pe_bl (nomark _)))))))))))))))), ?_⟩
    -- row
    refine ⟨.ref c, rfl, by show 4 ≤ sizeLine; decide, fun r nr => ?_⟩
    have hcr : Sep K c r ns := hc.imp_left fun h z => h (by rw [z]; exact nr)
    have g1 : Gr H (upd H r (.lst [.ref c, .int 0, .int 3266, .int 0])) := Gx.new nr
    have hR1 : RowSt K (upd H r (.lst [.ref c, .int 0, .int 3266, .int 0])) r c := ⟨ns, 0, 3266, 0, upd_same, seqL_upd hS hcr, hcr, by omega, by omega, by omega⟩
    have hc1 := Lv.gx g1.x hR1 (show Lv K H c from hc.imp_right fun h => ⟨ns, h⟩)
    have hT1 := g1.tt hT
    generalize upd H r (.lst [.ref c, .int 0, .int 3266, .int 0]) = H1 at *
    have S1 : St T H1 r c := ⟨hR1, hc1, hT1⟩
    -- size, edges
    refine ⟨.ref r, rfl, r, c, 4, rfl, hR1, by omega, by omega, fun x H2 hx0 hx1 g2 hR2 => ⟨_, _, rfl, rfl, ?_⟩⟩
    have S2 := S1.gx g2 hR2
    obtain ⟨sz, esz⟩ := nat_add1 hx0
    dsimp only
    rw [esz]
    have hsz : 1 ≤ sz ∧ sz ≤ 4 := by omega
    refine ⟨Nat.zero_le _, fun e0 ne0 => ⟨_, _, rfl, ?_⟩⟩
    have S3 := S2.gr (Gx.new (o := .lst []) ne0)
    have he0 : (upd H2 e0 (.lst [])) e0 = some (.lst []) := upd_same
    have ne0r := row_nr S2.row ne0
    have nce := live_ne S2.live ne0
    generalize upd H2 e0 (.lst []) = H3 at *
    clear hR1 hR2 hc1 hT1 hcr hS hc hT nr g1 g2 S1 S2
    -- loops
    refine ⟨.ref r, rfl, r, c, 3, rfl, S3.row, by omega, by omega, fun y H4 _ _ g4 hR4 => ⟨rfl, ?_⟩⟩
    have S4 := S3.gx g4 hR4
    have he4 : H4 e0 = some (.lst []) := g4.at (fun z => ne0r (List.mem_singleton.mp z)) he0 fun _ z => by cases z
    generalize decide (V.int y = V.int 0) = lp
    clear S3 he0 g4 hR4
    -- the edges
    refine ⟨.int sz, rfl, sz, rfl, by omega, by omega, ?_⟩
    refine for_range (n := ((sz : Nat) : Int).toNat) (fun i σ H' => ∃ y5 y6 es, σ = [some (.ref c), some (.ref r), some (.int sz), some (.ref e0), some (.bl lp), y5, y6, none, none, none, none, none, none, none, none, none, none, none, none, none, none] ∧ St T H' r c ∧ LR K H' e0 es ∧ Eds sz i es)
      ⟨none, none, [], rfl, S4, ⟨[], he4, .nil⟩, ⟨fun e he => by simp at he, .nil, by simp⟩⟩ (fun i σ H' hi hp => ?_) (fun σ H' hp => ?_)
    · obtain ⟨y5, y6, es, rfl, S, hL, E⟩ := hp
      have hi : i < sz := by omega
      have hz : (0 : Int) + (i : Int) = (i : Int) := Int.zero_add _
      rw [hz]
      refine ⟨.int i, rfl, .int sz, rfl, i, sz, rfl, ⟨by omega, by omega, by omega, by omega⟩, ?_⟩
      refine for_range (n := ((sz : Int) - i).toNat) (fun m σ H' => ∃ y6 cs, σ = [some (.ref c), some (.ref r), some (.int sz), some (.ref e0), some (.bl lp), some (.int i), y6, none, none, none, none, none, none, none, none, none, none, none, none, none, none] ∧ St T H' r c ∧ LR K H' e0 (es ++ cs) ∧ Ed1 i m cs)
        ⟨y6, [], rfl, S, by rw [List.append_nil]; exact hL, ⟨fun e he => by simp at he, .nil, by simp⟩⟩ (fun m σ H2 hm p => ?_) (fun σ H2 p => ?_)
      · obtain ⟨y6, cs, rfl, S2, hC, C⟩ := p
        have more : ∀ H3, St T H3 r c → LR K H3 e0 (es ++ cs) → ∃ y6 cs, ([some (.ref c), some (.ref r), some (.int sz), some (.ref e0), some (.bl lp), some (.int i), some (.int ((i : Int) + (m : Int))), none, none, none, none, none, none, none, none, none, none, none, none, none, none] : L2.St) = [some (.ref c), some (.ref r), some (.int sz), some (.ref e0), some (.bl lp), some (.int i), y6, none, none, none, none, none, none, none, none, none, none, none, none, none, none] ∧ St T H3 r c ∧ LR K H3 e0 (es ++ cs) ∧ Ed1 i (m + 1) cs := fun H3 S3 h3 => ⟨_, cs, rfl, S3, h3, C.more⟩
        refine ⟨.ref r, rfl, r, c, 2, rfl, S2.row, by omega, by omega, fun x H3 _ _ g3 hR3 => ⟨rfl, _, rfl, ?_⟩⟩
        have S3 := S2.gx g3 hR3
        have hC3 := LR.gxr g3 S2.row.ls ne0r hC
        refine ite2 (fun _ => ?_) (fun _ => iteF (more H3 S3 hC3))
        have app : ∀ {H3 : Hp} (t : Addr), H3 t = none → St T H3 r c → LR K H3 e0 (es ++ cs) → ∃ (l : Addr) (vs : List V) (v : V), V.ref e0 = V.ref l ∧ [V.ref t] = [v] ∧ upd H3 t (.tup [.int i, .int ((i : Int) + (m : Int))]) l = some (.lst vs) ∧ vs.length < sizeLine ∧ ∃ y6 cs, ([some (.ref c), some (.ref r), some (.int sz), some (.ref e0), some (.bl lp), some (.int i), some (.int ((i : Int) + (m : Int))), none, none, none, none, none, none, none, none, none, none, none, none, none, none] : L2.St) = [some (.ref c), some (.ref r), some (.int sz), some (.ref e0), some (.bl lp), some (.int i), y6, none, none, none, none, none, none, none, none, none, none, none, none, none, none] ∧ St T (upd (upd H3 t (.tup [.int i, .int ((i : Int) + (m : Int))])) l (.lst (vs ++ [v]))) r c ∧ LR K (upd (upd H3 t (.tup [.int i, .int ((i : Int) + (m : Int))])) l (.lst (vs ++ [v]))) e0 (es ++ cs) ∧ Ed1 i (m + 1) cs := fun {H3} t nt S3 hL3 => by
          obtain ⟨ws, hw, hws⟩ := hL3
          have gt : Gr H3 (upd H3 t (.tup [.int i, .int ((i : Int) + (m : Int))])) := Gx.new nt
          have wl : ws.length = (es ++ cs).length := by rw [hws.1, List.length_map]
          have hw4 := gt.lst hw
          refine ⟨e0, ws, .ref t, rfl, rfl, hw4, ?_, _, cs ++ [[(i : Int), (i : Int) + (m : Int)]], rfl, (S3.gr gt).wr ne0r nce hw4, ?_, C.add⟩
          · have := E.few
            have := C.few
            rw [wl, List.length_append]
            exact small1000 (by omega)
          · rw [← List.append_assoc]
            exact ⟨_, upd_same, LR.app ((hws.gr gt).wr hw4) (DT.wr hw4 (.row (ns := [(i : Int), (i : Int) + (m : Int)]) upd_same))⟩
        refine ⟨.int i, rfl, .int ((i : Int) + (m : Int)), rfl, rfl, _, rfl, ?_⟩
        refine ite2 (fun _ => iteT ?_) (fun _ => ?_)
        · refine ⟨.ref e0, rfl, .inl ⟨rfl, _, .inl (.inl hC3.choose_spec.1)⟩, .int i, rfl, .int ((i : Int) + (m : Int)), rfl, by show 2 ≤ sizeLine; decide, fun t nt => ?_⟩
          exact app t nt S3 hC3
        · refine ⟨.bl lp, rfl, lp, rfl, ite2 (fun _ => ?_) (fun _ => iteF (more H3 S3 hC3))⟩
          refine ⟨.ref r, rfl, r, c, 3, rfl, S3.row, by omega, by omega, fun z H4 _ _ g4 hR4 => ⟨rfl, _, rfl, ?_⟩⟩
          have S4 := S3.gx g4 hR4
          have hC4 := LR.gxr g4 S3.row.ls ne0r hC3
          refine ite2 (fun _ => ?_) (fun _ => more H4 S4 hC4)
          refine ⟨.ref e0, rfl, .inl ⟨rfl, _, .inl (.inl hC4.choose_spec.1)⟩, .int i, rfl, .int ((i : Int) + (m : Int)), rfl, by show 2 ≤ sizeLine; decide, fun t nt => ?_⟩
          exact app t nt S4 hC4
      · obtain ⟨y6, cs, rfl, S2, hC, C⟩ := p
        exact ⟨_, _, es ++ cs, rfl, S2, hC, E.add (by rw [show ((sz : Int) - (i : Int)).toNat = sz - i by omega] at C; exact C) hi hsz.2⟩
    · obtain ⟨y5, y6, es, rfl, S, ⟨xs, he, hxs⟩, E⟩ := hp
      have G : GrOk sz es := ⟨hsz.1, hsz.2, fun e he => by
        obtain ⟨a, b, e1, e2, e3, e4, e5⟩ := E.pair e he
        exact ⟨a, b, e1, e2, e4, e5⟩, E.asc, by have := E.few; omega⟩
      have xl : xs.length = es.length := by rw [hxs.1, List.length_map]
      -- edges = tuple(edges)
      refine ⟨.ref e0, rfl, e0, xs, rfl, .inl ⟨.inl (.inl he), fun l nl => ?_⟩⟩
      have gl : Gr H' (upd H' l (.tup xs)) := Gx.new nl
      have T2 := (S.gr gl).tabs
      have hl2 : (upd H' l (.tup xs)) l = some (.tup xs) := upd_same
      have hx2 := hxs.gr gl
      generalize upd H' l (.tup xs) = H4' at *
      have dv4 : DT K H4' (.ref l) (.tuple (es.map rowD)) := .mk hl2 hx2
      clear S4 he4 he S gl
      -- both
      refine ⟨.ref l, rfl, l, xs, rfl, .inr (.inl (.inl hl2)), fun b1 nb1 => ?_⟩
      have g5 : Gr H4' (upd H4' b1 (.lst xs)) := Gx.new nb1
      have hb5 : (upd H4' b1 (.lst xs)) b1 = some (.lst xs) := upd_same
      have hl5 := Gx.tupS g5 .nil hl2
      have hx5 := hx2.gr g5
      generalize upd H4' b1 (.lst xs) = H5 at *
      refine ⟨.ref l, rfl, l, rfl, ⟨_, .inl (.inl hl5)⟩, fun D nD => ?_⟩
      refine lc_tup (K := K) (a := l) (xs := xs) (fun i H' => Gr H5 H' ∧ LR K H' D ((es.take i).map swp)) ⟨Gx.new nD, [], upd_same, .nil⟩ (fun i H' _ p => .inl (.inl (Gx.tupS p.1 .nil hl5))) (fun i x H' ex p => ?_) (fun H6 p => ?_)
      · obtain ⟨g6, ws, hw, hws⟩ := p
        obtain ⟨d, ed, dv⟩ := hx5.at' ex
        rw [List.getElem?_map] at ed
        obtain ⟨e, ee, rfl⟩ := Option.map_eq_some_iff.mp ed
        obtain ⟨u, u', rfl, _⟩ := G.pair e (List.mem_of_getElem? ee)
        obtain ⟨t, rfl, ht⟩ := (dv.gr g6).row_invS
        have wl : ws.length = i := by
          rw [hws.1, List.length_map, List.length_map, List.length_take]
          have := (List.getElem?_eq_some_iff.mp ee).1
          omega
        have hi : i < es.length := (List.getElem?_eq_some_iff.mp ee).1
        refine ⟨rfl, yesT ⟨.ref t, rfl, t, _, 1, .int u', rfl, rfl, .inl (.inl ht), atI_nat (j := 1) rfl, .ref t, rfl, t, _, 0, .int u, rfl, rfl, .inl (.inl ht), atI_nat (j := 0) rfl, by show 2 ≤ sizeLine; decide, fun t2 nt2 => ?_⟩⟩
        have g7 : Gr H' (upd H' t2 (.tup [.int u', .int u])) := Gx.new nt2
        have hw3 := g7.lst hw
        refine ⟨ws, hw3, ?_, (g6.trans g7).wr nD, ws ++ [.ref t2], upd_same, ?_⟩
        · rw [wl]
          exact small1000 (by have := G.few; omega)
        · rw [List.take_add_one, ee, List.map_append]
          exact LR.app ((hws.gr g7).wr hw3) (DT.wr hw3 (.row (ns := [u', u]) upd_same))
      obtain ⟨g6, ws, hw, hws⟩ := p
      rw [xl, List.take_length] at hws
      have wl : ws.length = es.length := by rw [hws.1, List.length_map, List.length_map]
      refine ⟨b1, D, xs, ws, rfl, rfl, g6.lst hb5, hw, by have := G.few; exact Nat.le_of_lt (small1000 (by omega)), fun p6 np6 => ?_⟩
      have g7 : Gr H6 (upd H6 p6 (.lst (xs ++ ws))) := Gx.new np6
      have hb7 : LR K (upd H6 p6 (.lst (xs ++ ws))) p6 (es ++ es.map swp) := ⟨_, upd_same, by
        rw [List.map_append]
        exact (((hx5.gr g6).app hws).gr g7)⟩
      generalize upd H6 p6 (.lst (xs ++ ws)) = H7 at *
      refine ⟨p6, es ++ es.map swp, rfl, hb7, by rw [List.length_append, List.length_map]; have := G.few; omega, fun e he => ?_, fun pb H8 rs g8 _ hpb as mem' => ?_⟩
      · rcases List.mem_append.mp he with h | h
        · obtain ⟨a, b, e1, h1, h2, h3⟩ := G.pair e h
          exact ⟨a, b, e1, h1, by omega, by omega, by omega⟩
        · obtain ⟨e', h', rfl⟩ := List.mem_map.mp h
          obtain ⟨a, b, rfl, h1, h2, h3⟩ := G.pair e' h'
          exact ⟨b, a, rfl, by omega, by omega, h1, by omega⟩
      have mem : ∀ x, x ∈ rs ↔ x ∈ es ∨ x ∈ es.map swp := fun x => (mem' x).trans List.mem_append
      have Sp0 := stp_of G mem
      have L8 : Lk T H8 l pb es rs := ⟨(((dv4.gr g5).gr g6).gr g7).gr g8, hpb, ((g5.trans g6).trans (g7.trans g8)).tt T2⟩
      clear hw hws hb5 hl5 hx5 g5 g6 g7 g8 hl2 hx2 dv4 T2 hxs nl nb1 nD np6 hb7 mem' hpb wl
      -- graph
      have rfew := few_rs G as mem
      have rl2 : ∀ r ∈ rs, r.length ≤ 1000 := fun r hr => by
        obtain ⟨u, v, rfl, _⟩ := Sp0.pair r hr
        show 2 ≤ 1000
        decide
      refine ⟨.int sz, rfl, .ref l, rfl, sz, .ref l, es, rfl, L8.ed, L8.tabs, G, fun gx H9 rs2 g9 dg as2 mem2 => ?_⟩
      have ers : rs2 = rs := asc_ext as2 as fun x => (mem2 x).trans (mem x).symm
      subst ers
      have L9 := L8.gr g9
      obtain ⟨bs, hb9, hbs⟩ := id L9.bo
      refine ⟨.int sz, rfl, .ref pb, rfl, pb, bs, rfl, .inl ⟨.inl (.inl hb9), fun t nt => ?_⟩⟩
      have k3 : Gr H9 (upd H9 t (.tup bs)) := Gx.new nt
      have ht : DT K (upd H9 t (.tup bs)) (.ref t) (.tuple (rs2.map rowD)) := .mk upd_same (hbs.gr k3)
      generalize upd H9 t (.tup bs) = A3 at *
      refine ⟨by show 2 ≤ sizeLine; decide, fun t4 n4 => ?_⟩
      have k4 : Gr A3 (upd A3 t4 (.tup [.int 2, .ref t])) := Gx.new n4
      have h4 : DT K (upd A3 t4 (.tup [.int 2, .ref t])) (.ref t4) (.tuple [.int 2, .tuple (rs2.map rowD)]) := .mk upd_same (.cons (.int 2) (.one (ht.gr k4)))
      generalize upd A3 t4 (.tup [.int 2, .ref t]) = A4 at *
      refine ⟨by show 1 ≤ sizeLine; decide, fun t5 n5 => ?_⟩
      have k5 : Gr A4 (upd A4 t5 (.tup [.ref t4])) := Gx.new n5
      have h5 : DT K (upd A4 t5 (.tup [.ref t4])) (.ref t5) (.tuple [.tuple [.int 2, .tuple (rs2.map rowD)]]) := .mk upd_same (.one (h4.gr k5))
      generalize upd A4 t5 (.tup [.ref t4]) = A5 at *
      refine ⟨by show 2 ≤ sizeLine; decide, fun t6 n6 => ?_⟩
      have k6 : Gr A5 (upd A5 t6 (.tup [.int sz, .ref t5])) := Gx.new n6
      have h6 : DT K (upd A5 t6 (.tup [.int sz, .ref t5])) (.ref t6) (graphD sz rs2) := .mk upd_same (.cons (.int sz) (.one (h5.gr k6)))
      generalize upd A5 t6 (.tup [.int sz, .ref t5]) = A6 at *
      have k9 := ((k3.trans k4).trans k5).trans k6
      refine ⟨gx, .ref t6, graphD sz rs2, rfl, dg.gr k9, h6, it_graph (by omega) rl2, fun A7 k7 => ⟨true, rfl, iteF ?_⟩⟩
      have L10 := (L9.gr k9).gr k7
      clear L8 L9 g9 dg as2 mem2 hb9 hbs k3 ht k4 h4 k5 h5 k6 h6 k9 k7 nt n4 n5 n6
      -- walks
      refine ⟨by show 4 ≤ sizeLine; decide, fun q7 nq7 => ?_⟩
      have k8 : Gr A7 (upd A7 q7 (.lst [.int 1, .int 3, .int 5, .int 7])) := Gx.new nq7
      have h8 : (upd A7 q7 (.lst [.int 1, .int 3, .int 5, .int 7])) q7 = some (.lst [.int 1, .int 3, .int 5, .int 7]) := upd_same
      have L11 := L10.gr k8
      generalize upd A7 q7 (.lst [.int 1, .int 3, .int 5, .int 7]) = A8 at *
      clear L10 k8 nq7
      refine ⟨q7, rfl, ⟨_, .inl (.inl h8)⟩, ?_⟩
      refine for_list (K := K) (a := q7) (xs := [.int 1, .int 3, .int 5, .int 7]) (fun i σ H' => ∃ wv y10 y11 y13 y14 y15 y16, σ = [some (.ref c), some (.ref r), some (.int sz), some (.ref l), some (.bl lp), y5, y6, some (.ref pb), none, some wv, y10, y11, none, y13, y14, y15, y16, none, none, none, none] ∧ Gr A8 H' ∧ OptD K H' wv (MR.wk rs2 sz i))
        ⟨.non, none, none, none, none, none, none, rfl, Gx.refl, rfl⟩ (fun i σ H' _ p => by
          obtain ⟨_, _, _, _, _, _, _, _, g, _⟩ := p
          exact .inl (.inl (g.lst h8))) (fun i x σ H' ex p => ?_) (fun σ H' p => ?_)
      · obtain ⟨wv, y10, y11, y13, y14, y15, y16, rfl, g0, hw⟩ := p
        have hi : i < 4 := (List.getElem?_eq_some_iff.mp ex).1
        have ex' : x = V.int ((1 + 2 * i : Nat) : Int) := by
          have : i = 0 ∨ i = 1 ∨ i = 2 ∨ i = 3 := by omega
          rcases this with rfl | rfl | rfl | rfl <;> exact (Option.some.inj ex).symm
        subst ex'
        generalize hLL : 1 + 2 * i = L at *
        have hL1 : 1 ≤ L := by omega
        have hL7 : L ≤ 7 := by omega
        refine ⟨wv, rfl, rfl, _, rfl, ?_⟩
        cases hwk : MR.wk rs2 sz i with
        | some w =>
          rw [hwk] at hw
          have hw : DT K H' wv (rowD w) := hw
          obtain ⟨t, rfl, ht⟩ := hw.row_invS
          rw [show decide (V.ref t = V.non) = false by simp]
          refine iteF ⟨_, _, _, _, _, _, _, rfl, g0, ?_⟩
          have e : MR.wk rs2 sz (i + 1) = some w := by unfold MR.wk; rw [hwk]
          rw [e]
          exact hw
        | none =>
          rw [hwk] at hw
          have hw : wv = .non := hw
          subst hw
          rw [show decide (V.non = V.non) = true by simp]
          refine iteT ?_
          have ewk : MR.wk rs2 sz (i + 1) = (fw rs2 sz i).map cl := by
            show (match MR.wk rs2 sz i with | some w => some w | none => (fw rs2 sz i).map cl) = _
            rw [hwk]
          have L12 := L11.gr g0
          refine ⟨.int sz, rfl, sz, rfl, by omega, by omega, fun D nD => ?_⟩
          refine lc_range (n := ((sz : Nat) : Int).toNat) (fun m H2 => Gr H' H2 ∧ LR K H2 D ((List.range m).map fun (v : Nat) => [(v : Int)])) ⟨Gx.new nD, [], upd_same, .nil⟩ (fun m H2 hm p => ?_) (fun H2 p => ?_)
          · obtain ⟨g2, ws, hD, hws⟩ := p
            have wl1 : ws.length = m := by rw [hws.1, List.length_map, List.length_map, List.length_range]
            refine ⟨rfl, yesT ⟨.int ((0 : Int) + (m : Int)), rfl, by show 1 ≤ sizeLine; decide, fun t nt => ?_⟩⟩
            have gt : Gr H2 (upd H2 t (.tup [.int ((0 : Int) + (m : Int))])) := Gx.new nt
            have hD3 := gt.lst hD
            refine ⟨ws, hD3, small1000 (by omega), (g2.trans gt).wr nD, ws ++ [.ref t], upd_same, ?_⟩
            rw [List.range_succ, List.map_append]
            refine LR.app ((hws.gr gt).wr hD3) (DT.wr hD3 (.row (ns := [(m : Int)]) ?_))
            rw [upd_same, Int.zero_add]
            rfl
          obtain ⟨g2, h2⟩ := p
          rw [Int.toNat_natCast] at h2
          have h2 : LR K H2 D (wl rs2 sz 0) := h2
          -- the turns
          refine ⟨.int ((L : Nat) : Int), rfl, L, rfl, by omega, by omega, ?_⟩
          refine for_range (n := ((L : Nat) : Int).toNat) (fun j σ H3 => ∃ y13 y14 y15 p11, σ = [some (.ref c), some (.ref r), some (.int sz), some (.ref l), some (.bl lp), y5, y6, some (.ref pb), none, some .non, some (.int ((L : Nat) : Int)), some (.ref p11), none, y13, y14, y15, y16, none, none, none, none] ∧ Gr H' H3 ∧ LR K H3 p11 (wl rs2 sz j))
            ⟨y13, y14, y15, D, rfl, g2, h2⟩ (fun j σ H3 hj p => ?_) (fun σ H3 p => ?_)
          · obtain ⟨y13, y14, y15, p11, rfl, g3, us, h11, hus⟩ := p
            have hj : j < L := by omega
            have ul : us.length = (wl rs2 sz j).length := by rw [hus.1, List.length_map]
            have bound : ∀ k, (((wl rs2 sz j).take k).flatMap (nxt rs2 sz sz)).length ≤ 65536 := fun k => by
              refine Nat.le_trans take_flat ?_
              rw [← wl_nxt]
              exact Nat.le_trans (wl_len ..) (pow_few hsz.2 (by omega))
            refine ⟨Nat.zero_le _, fun q0 nq0 => ?_⟩
            have gq : Gr H3 (upd H3 q0 (.lst [])) := Gx.new nq0
            refine ⟨.ref p11, rfl, p11, rfl, ⟨_, .inl (.inl (gq.lst h11))⟩, ?_⟩
            refine for_list (K := K) (a := p11) (xs := us) (fun k σ H4 => ∃ y15 qk, σ = [some (.ref c), some (.ref r), some (.int sz), some (.ref l), some (.bl lp), y5, y6, some (.ref pb), none, some .non, some (.int ((L : Nat) : Int)), some (.ref p11), none, some (.int ((0 : Int) + (j : Int))), some (.ref qk), y15, y16, none, none, none, none] ∧ Gr H3 H4 ∧ LR K H4 qk (((wl rs2 sz j).take k).flatMap (nxt rs2 sz sz)))
              ⟨y15, q0, rfl, gq, [], upd_same, .nil⟩ (fun k σ H4 _ p => by
                obtain ⟨_, _, _, g, _⟩ := p
                exact .inl (.inl (g.lst h11))) (fun k x σ H4 ex p => ?_) (fun σ H4 p => ?_)
            · obtain ⟨y15, qk, rfl, g4, zs, hqk, hzs⟩ := p
              obtain ⟨d, ed, dx⟩ := hus.at' ex
              rw [List.getElem?_map] at ed
              obtain ⟨ro, er, rfl⟩ := Option.map_eq_some_iff.mp ed
              obtain ⟨rl, rv⟩ := wl_row (List.mem_of_getElem? er)
              have rne : ro ≠ [] := fun z => by rw [z] at rl; simp at rl
              obtain ⟨t, rfl, ht⟩ := (dx.gr g4).row_invS
              have L14 := (L12.gr g3).gr g4
              obtain ⟨bs, hb, hbs⟩ := L14.bo
              refine ⟨.ref qk, rfl, .int sz, rfl, sz, rfl, by omega, by omega, fun D2 nD2 => ?_⟩
              refine lc_range (n := ((sz : Nat) : Int).toNat) (fun m H5 => Gr H4 H5 ∧ LR K H5 D2 (nxt rs2 sz m ro)) ⟨Gx.new nD2, [], upd_same, .nil⟩ (fun m H5 hm p => ?_) (fun H5 p => ?_)
              · obtain ⟨g5, ws, hD, hws⟩ := p
                have hwl : ws.length ≤ m := by
                  rw [hws.1, List.length_map]
                  unfold nxt
                  rw [List.length_map]
                  exact Nat.le_trans (List.length_filter_le ..) (by rw [List.length_range]; exact Nat.le_refl _)
                have ht5 := Gx.tupS g5 .nil ht
                rw [show (0 : Int) + (m : Int) = (m : Int) from Int.zero_add _]
                refine ⟨rfl, .ref t, rfl, 1, rfl, t, _, -1, _, rfl, rfl, .inl (.inl ht5), at_last rne, .int (m : Int), rfl, by show 2 ≤ sizeLine; decide, fun t2 nt2 => ?_⟩
                have g6 : Gr H5 (upd H5 t2 (.tup [.int (ro.getD (ro.length - 1) 0), .int (m : Int)])) := Gx.new nt2
                have h6 : DT K (upd H5 t2 (.tup [.int (ro.getD (ro.length - 1) 0), .int (m : Int)])) (.ref t2) (rowD [lastI ro, (m : Int)]) := .row upd_same
                have hD6 := g6.lst hD
                have ht6 := Gx.tupS g6 .nil ht5
                generalize upd H5 t2 (.tup [.int (ro.getD (ro.length - 1) 0), .int (m : Int)]) = H6 at *
                refine ⟨.ref pb, rfl, _, _, h6.dp, dp_rows ((g5.trans g6).lst hb) (hbs.gr (g5.trans g6)), row_shaped _, rows_shaped _, _, rfl, ?_⟩
                rw [any_eqv]
                refine ite2 (fun hn => ?_) (fun hn => ?_)
                · have hn : [lastI ro, (m : Int)] ∈ rs2 := of_decide_eq_true hn
                  refine ⟨.ref t, rfl, .int (m : Int), rfl, by show 1 ≤ sizeLine; decide, fun t3 nt3 => ?_⟩
                  have g7 : Gr H6 (upd H6 t3 (.tup [.int (m : Int)])) := Gx.new nt3
                  have h7 : (upd H6 t3 (.tup [.int (m : Int)])) t3 = some (.tup [.int (m : Int)]) := upd_same
                  have hD7 := g7.lst hD6
                  have ht7 := Gx.tupS g7 .nil ht6
                  generalize upd H6 t3 (.tup [.int (m : Int)]) = H7 at *
                  refine ⟨t, t3, _, _, rfl, rfl, .inl (.inl ht7), .inl (.inl h7), ?_, fun z => ?_, fun _ z => (by cases z), fun _ _ t4 nt4 => ?_⟩
                  · rw [List.length_map, rl]
                    exact Nat.le_of_lt (small1000 (by show j + 1 + 1 ≤ 1000; omega))
                  · have := congrArg List.length z
                    rw [List.length_map, rl] at this
                    cases this
                  · have g8 : Gr H7 (upd H7 t4 (.tup (ro.map V.int ++ [.int (m : Int)]))) := Gx.new nt4
                    have hD8 := g8.lst hD7
                    have g58 := ((g5.trans g6).trans g7).trans g8
                    refine ⟨ws, hD8, small1000 (by omega), g58.wr nD2, ws ++ [.ref t4], upd_same, ?_⟩
                    rw [nxt_more, if_pos hn]
                    refine LR.app ((hws.gr ((g6.trans g7).trans g8)).wr hD8) (DT.wr hD8 (.row ?_))
                    rw [upd_same, List.map_append]
                    rfl
                · have hn : [lastI ro, (m : Int)] ∉ rs2 := by simpa using hn
                  refine ⟨g5.trans g6, ?_⟩
                  rw [nxt_more, if_neg hn, List.append_nil]
                  exact ⟨ws, hD6, hws.gr g6⟩
              · obtain ⟨g5, ws, hD, hws⟩ := p
                rw [Int.toNat_natCast] at hws
                have zl : zs.length = (((wl rs2 sz j).take k).flatMap (nxt rs2 sz sz)).length := by rw [hzs.1, List.length_map]
                have tk : (((wl rs2 sz j).take (k + 1)).flatMap (nxt rs2 sz sz)) = (((wl rs2 sz j).take k).flatMap (nxt rs2 sz sz)) ++ nxt rs2 sz sz ro := by
                  rw [List.take_add_one, er, List.flatMap_append]
                  simp
                have wl2 : ws.length = (nxt rs2 sz sz ro).length := by rw [hws.1, List.length_map]
                refine ⟨qk, D2, zs, ws, rfl, rfl, g5.lst hqk, hD, ?_, fun p np => ?_⟩
                · have := bound (k + 1)
                  rw [tk, List.length_append] at this
                  rw [zl, wl2, sizeLine_eq]
                  omega
                · have gp : Gr H5 (upd H5 p (.lst (zs ++ ws))) := Gx.new np
                  refine ⟨_, p, rfl, (g4.trans g5).trans gp, _, upd_same, ?_⟩
                  rw [tk, List.map_append]
                  exact ((hzs.gr g5).app hws).gr gp
            · obtain ⟨y15, qk, rfl, g4, h4⟩ := p
              rw [ul, List.take_length] at h4
              exact ⟨.ref qk, rfl, _, _, _, qk, rfl, g3.trans g4, h4⟩
          · obtain ⟨y13, y14, y15, p11, rfl, g3, us, h11, hus⟩ := p
            rw [Int.toNat_natCast] at hus
            have ul : us.length = (wl rs2 sz L).length := by rw [hus.1, List.length_map]
            have few : (wl rs2 sz L).length ≤ 65536 := Nat.le_trans (wl_len ..) (pow_few hsz.2 (by omega))
            -- closed
            refine ⟨.ref p11, rfl, p11, rfl, ⟨_, .inl (.inl h11)⟩, fun D2 nD2 => ?_⟩
            refine lc_list (K := K) (a := p11) (xs := us) (fun m H5 => Gr H3 H5 ∧ LR K H5 D2 (((wl rs2 sz L).take m).filter closedB)) ⟨Gx.new nD2, [], upd_same, .nil⟩ (fun m H5 _ p => .inl (.inl (p.1.lst h11))) (fun m x H5 ex p => ?_) (fun H5 p => ?_)
            · obtain ⟨g5, ws, hD, hws⟩ := p
              obtain ⟨d, ed, dx⟩ := hus.at' ex
              rw [List.getElem?_map] at ed
              obtain ⟨ro, er, rfl⟩ := Option.map_eq_some_iff.mp ed
              obtain ⟨rl, rv⟩ := wl_row (List.mem_of_getElem? er)
              have rne : ro ≠ [] := fun z => by rw [z] at rl; simp at rl
              obtain ⟨t, rfl, ht⟩ := (dx.gr g5).row_invS
              have tk : ((wl rs2 sz L).take (m + 1)).filter closedB = ((wl rs2 sz L).take m).filter closedB ++ (if closedB ro = true then [ro] else []) := by
                rw [List.take_add_one, er, List.filter_append]
                by_cases h : closedB ro = true
                · rw [if_pos h]
                  simp [h]
                · rw [if_neg h]
                  simp [h]
              refine ⟨rfl, .ref t, rfl, t, _, 0, _, rfl, rfl, .inl (.inl ht), at_first rne, .ref t, rfl, 1, rfl, t, _, -1, _, rfl, rfl, .inl (.inl ht), at_last rne, rfl, _, rfl, ?_⟩
              rw [show decide (V.int (ro.getD 0 0) = V.int (ro.getD (ro.length - 1) 0)) = closedB ro from decide_eq_decide.mpr (by unfold lastI; simp)]
              refine ite2 (fun hn => ?_) (fun hn => ?_)
              · refine ⟨.ref t, rfl, ws, hD, ?_, g5.wr nD2, ws ++ [.ref t], upd_same, ?_⟩
                · have := List.length_filter_le closedB ((wl rs2 sz L).take m)
                  rw [List.length_take] at this
                  rw [hws.1, List.length_map, sizeLine_eq]
                  omega
                · rw [tk, if_pos hn]
                  exact LR.app (hws.wr hD) (DT.wr hD (.row ht))
              · refine ⟨g5, ws, hD, ?_⟩
                rw [tk, if_neg (by simpa using hn), List.append_nil]
                exact hws
            · obtain ⟨g5, ws, hD, hws⟩ := p
              rw [ul, List.take_length] at hws
              have hh := closed_head rs2 sz hL1
              refine ⟨.ref D2, rfl, Nat.zero_le _, fun e ne => ?_⟩
              have ge : Gr H5 (upd H5 e (.lst [])) := Gx.new ne
              have hDe := ge.lst hD
              refine ⟨_, .list [], dp_rows hDe (hws.gr ge), .lst (.inl (.inl upd_same)) .nil, rows_shaped _, by decide, _, rfl, ?_⟩
              rw [any_nil]
              have hwsE := hws.gr ge
              have gE := (g3.trans g5).trans ge
              generalize upd H5 e (.lst []) = HE at *
              have fwe : (fw rs2 sz i).map cl = ((wl rs2 sz L).filter closedB).head? := by rw [hh]; unfold fw; rw [hLL]
              cases hc : (wl rs2 sz L).filter closedB with
              | nil =>
                rw [decide_eq_true rfl]
                refine iteF ⟨_, _, _, _, _, _, _, rfl, g0.trans gE, ?_⟩
                rw [ewk, fwe, hc]
                rfl
              | cons a m =>
                rw [hc] at hwsE
                rw [decide_eq_false (by simp)]
                refine iteT ⟨.ref D2, rfl, D2, ws, rowD a, m.map rowD, rfl, .inl (.inl hDe), hwsE, (rows_alike (a :: m)).1, Nat.le_trans (rows_alike (a :: m)).2 (by decide), fun v dv => ?_⟩
                refine ⟨_, _, _, _, _, _, _, rfl, g0.trans gE, ?_⟩
                rw [ewk, fwe, hc]
                have am : Asc (a :: m) := by
                  rw [← hc, wl_eq]
                  exact ((allRows_asc sz (L + 1)).sublist List.filter_sublist).sublist List.filter_sublist
                exact Eq.mp (congrArg (DT K HE v) (minD_head a m am)) dv
      · obtain ⟨wv, y10, y11, y13, y14, y15, y16, rfl, g0, hw⟩ := p
        have L12 := L11.gr g0
        have hw : OptD K H' wv (MR.wk rs2 sz 4) := hw
        clear L11 h8 g0
        -- sides, found
        refine ⟨.int sz, rfl, .ref l, rfl, sz, .ref l, es, rfl, L12.ed, L12.tabs, G, fun sv B1 k1 hsv => ?_⟩
        have L13 := L12.gr k1
        refine ⟨.int sz, rfl, .ref l, rfl, sz, .ref l, es, rfl, L13.ed, L13.tabs, G, fun fv B2 rs3 o k2 as3 mem3 od ho => ?_⟩
        have ers3 : rs3 = rs2 := asc_ext as3 as fun x => (mem3 x).trans (mem x).symm
        subst ers3
        refine ⟨by show 2 ≤ sizeLine; decide, fun tp ntp => ?_⟩
        have k3 : Gr B2 (upd B2 tp (.tup [sv, fv])) := Gx.new ntp
        have htp : (upd B2 tp (.tup [sv, fv])) tp = some (.tup [sv, fv]) := upd_same
        have L14 := (L13.gr k2).gr k3
        have k13 := (k1.trans k2).trans k3
        have k23 := k2.trans k3
        generalize upd B2 tp (.tup [sv, fv]) = B3 at *
        refine ⟨tp, _, rfl, .inl (.inl htp), rfl, sv, [fv], rfl, fv, [], rfl, rfl, ?_⟩
        obtain ⟨ewk, hnone, hsome⟩ := walk_eq Sp0 hsz.1 hsz.2 od
        rw [ewk] at hw
        clear htp ntp L12 L13 k1 k2 as3 mem3 od ewk
        cases ho' : o with
        | some w =>
          subst ho'
          obtain ⟨⟨i, ro, rfl, rl, rv, rg, ri⟩, nos⟩ := hsome _ rfl
          have rne : ro ≠ [] := fun z => by rw [z] at rl; simp at rl; omega
          have hf : (allRows 2 sz).find? (sok es) = none := by
            cases hf : (allRows 2 sz).find? (sok es) with
            | none => rfl
            | some s0 =>
              obtain ⟨h1, h2⟩ := row_side (List.mem_of_find?_eq_some hf)
              exact absurd ((sok_iff (s := []) G mem).mp (List.find?_some hf)) (nos s0 h1 h2)
          rw [hf] at hsv
          have hsv : sv = .non := hsv
          subst hsv
          have dw : DT K B3 wv (rowD (cl ro)) := DT.gr k13 hw
          have df : DT K B3 fv (rowD (cl ro)) := DT.gr k3 ho
          have len8 : (cl ro).length ≤ 100 := by rw [cl_len rne, rl]; omega
          refine ⟨fv, rfl, wv, rfl, .inl ⟨fv, wv, _, rfl, df, dw, ⟨by rw [List.length_map]; omega, fun e he => by
            obtain ⟨n, _, rfl⟩ := List.mem_map.mp he
            exact trivial⟩, fun B4 k4 => ⟨true, rfl, iteF ?_⟩⟩⟩
          obtain ⟨tw, rfl, _⟩ := dw.row_invS
          refine ⟨.non, rfl, rfl, .ref tw, rfl, rfl, rfl, _, rfl, iteN (by simp) ?_⟩
          refine ⟨.non, rfl, rfl, _, rfl, iteN (by simp) ?_⟩
          have L15 := L14.gr k4
          refine ⟨.int sz, rfl, .ref l, rfl, fv, rfl, sz, .ref l, fv, es, cl ro, rfl, L15.ed, L15.tabs, G, df.gr k4, len8, fun x hx => ?_, fun B5 k5 => ⟨_, _, rfl, rfl, ?_⟩⟩
          · unfold cl at hx
            rcases List.mem_append.mp hx with hx | hx
            · exact rv x hx
            · exact rv x (List.mem_of_mem_take hx)
          · rw [odd_cl (r := []) mem rl rg]
            exact q B5
        | none =>
          subst ho'
          obtain ⟨s1, hl1, hs1, hc1⟩ := hnone rfl
          cases hf : (allRows 2 sz).find? (sok es) with
          | none => exact absurd ((sok_iff (s := []) G mem).mpr hc1) (List.find?_eq_none.mp hf s1 (side_row hl1 hs1))
          | some s0 =>
            rw [hf] at hsv
            have hin := List.mem_of_find?_eq_some hf
            have hc0 := (sok_iff (s := []) G mem).mp (List.find?_some hf)
            obtain ⟨sl, s01⟩ := row_side hin
            have least : ∀ t ∈ allRows 2 sz, sidesOk rs3 t → s0 = t ∨ HT.lexLt s0 t = true := fun t ht hc => find_least (allRows_asc 2 sz) hf t ht ((sok_iff (s := []) G mem).mpr hc)
            have hwv : wv = .non := hw
            have hfv : fv = .non := ho
            subst hwv hfv
            have ds : DT K B3 sv (rowD s0) := DT.gr k23 hsv
            obtain ⟨ts, rfl, hts⟩ := ds.row_invS
            refine ⟨.non, rfl, .non, rfl, .inr ⟨rfl, fun B4 k4 => ⟨true, rfl, iteF ?_⟩⟩⟩
            refine ⟨.ref ts, rfl, rfl, .non, rfl, rfl, rfl, _, rfl, iteN (by simp) ?_⟩
            refine ⟨.ref ts, rfl, rfl, _, rfl, iteY (by simp) ?_⟩
            have L15 := L14.gr k4
            have ht4 := Gx.tupS k4 .nil hts
            have hSq : SqT K B4 ts (s0.map V.int) := .inl (.inl ht4)
            -- a tuple of so many sides
            refine ⟨.ref ts, rfl, .ref ts, .ty "tuple", _, _, true, rfl, .ty _, tyT hSq, kit_ty (by decide +kernel), true, rfl, iteF ?_⟩
            refine ⟨.ref ts, rfl, ts, _, rfl, .inr hSq, .int sz, rfl, rfl, _, rfl, iteN (by rw [List.length_map, sl]; simp) ?_⟩
            -- each of them 0 or 1
            refine ⟨.ref ts, rfl, ts, rfl, ⟨_, hSq⟩, fun D nD => ?_⟩
            refine lc_tup (K := K) (a := ts) (xs := s0.map V.int) (fun m H2 => Gr B4 H2 ∧ H2 D = some (.lst [])) ⟨Gx.new nD, upd_same⟩ (fun m H2 _ p => .inl (.inl (Gx.tupS p.1 .nil ht4))) (fun m x H2 ex p => ?_) (fun B5 p => ?_)
            · rw [List.getElem?_map] at ex
              obtain ⟨z, ez, rfl⟩ := Option.map_eq_some_iff.mp ex
              have z01 := s01 z (List.mem_of_getElem? ez)
              refine ⟨rfl, .int z, rfl, z, 0, 1, rfl, _, rfl, iteN ?_ p⟩
              rw [decide_eq_true (by omega)]
              rfl
            obtain ⟨k5, hD⟩ := p
            refine ⟨Nat.zero_le _, fun e ne => ⟨.list [], .list [], .lst (.inl (.inl ((Gx.new (S := []) ne).lst hD))) .nil, .lst (.inl (.inl upd_same)) .nil, by decide, by decide, _, rfl, iteN (by decide) ?_⟩⟩
            have k6 := k5.trans (Gx.new (o := .lst []) ne)
            generalize upd B5 e (.lst []) = B6 at *
            clear k5 hD ne nD
            have L16 := L15.gr k6
            have ht6 := Gx.tupS k6 .nil ht4
            -- no edge joins the same
            obtain ⟨bE, yE, eqE, hE, hDE⟩ := L16.ed.tup_invS
            cases eqE
            refine ⟨.ref l, rfl, l, rfl, ⟨_, .inl (.inl hE)⟩, fun D nD => ?_⟩
            refine lc_tup (K := K) (a := l) (xs := yE) (fun m H2 => Gr B6 H2 ∧ H2 D = some (.lst [])) ⟨Gx.new nD, upd_same⟩ (fun m H2 _ p => .inl (.inl (Gx.tupS p.1 .nil hE))) (fun m x H2 ex p => ?_) (fun B7 p => ?_)
            · obtain ⟨d, ed, dx⟩ := hDE.at' ex
              rw [List.getElem?_map] at ed
              obtain ⟨e, ee, rfl⟩ := Option.map_eq_some_iff.mp ed
              have heS := List.mem_of_getElem? ee
              obtain ⟨u, u', rfl, h1, h2, h3⟩ := G.pair e heS
              obtain ⟨t', rfl, ht'⟩ := (dx.gr p.1).row_invS
              have ht7 := Gx.tupS p.1 .nil ht6
              refine ⟨rfl, .ref ts, rfl, .ref t', rfl, t', _, 0, .int u, rfl, rfl, .inl (.inl ht'), atI_nat (j := 0) rfl, ts, _, u, _, rfl, rfl, .inl (.inl ht7), at_row h1 (by omega), .ref ts, rfl, .ref t', rfl, t', _, 1, .int u', rfl, rfl, .inl (.inl ht'), atI_nat (j := 1) rfl, ts, _, u', _, rfl, rfl, .inl (.inl ht7), at_row (by omega) (by omega), rfl, _, rfl, iteN ?_ p⟩
              have := hc0 u u' ((mem _).mpr (.inl heS))
              exact decide_eq_false fun z => this (by injection z)
            obtain ⟨k7, hD⟩ := p
            refine ⟨Nat.zero_le _, fun e ne => ⟨.list [], .list [], .lst (.inl (.inl ((Gx.new (S := []) ne).lst hD))) .nil, .lst (.inl (.inl upd_same)) .nil, by decide, by decide, _, rfl, iteN (by decide) ?_⟩⟩
            have k8 := k7.trans (Gx.new (o := .lst []) ne)
            generalize upd B7 e (.lst []) = B8 at *
            clear k7 hD ne nD
            have L18 := L16.gr k8
            have ht8 := Gx.tupS k8 .nil ht6
            -- the parts
            refine ⟨.int sz, rfl, sz, rfl, by omega, by omega, ?_⟩
            refine for_range (n := ((sz : Nat) : Int).toNat) (fun i σ H2 => ∃ y12 y13 y20, σ = [some (.ref c), some (.ref r), some (.int sz), some (.ref l), some (.bl lp), y5, y6, some (.ref pb), none, some .non, y10, y11, y12, y13, y14, y15, y16, some (.ref ts), some .non, none, y20] ∧ Gr B8 H2)
              ⟨none, y13, none, rfl, Gx.refl⟩ (fun i σ H2 hi p => ?_) (fun σ H2 p => ?_)
            · obtain ⟨y12, y13, y20, rfl, g⟩ := p
              have hi : i < sz := by omega
              rw [show (0 : Int) + (i : Int) = (i : Int) from Int.zero_add _]
              refine ⟨.int i, rfl, by show 1 ≤ sizeLine; decide, fun p0 np0 => ?_⟩
              have g1 : Gr H2 (upd H2 p0 (.lst [.int i])) := Gx.new np0
              have hp0 : (upd H2 p0 (.lst [.int i])) p0 = some (.lst ([(i : Int)].map V.int)) := upd_same
              have gg1 := g.trans g1
              generalize upd H2 p0 (.lst [.int i]) = H3 at *
              refine ⟨.int sz, rfl, sz, rfl, by omega, by omega, ?_⟩
              refine for_range (n := ((sz : Nat) : Int).toNat) (fun t σ H4 => ∃ y13 p20 ns, σ = [some (.ref c), some (.ref r), some (.int sz), some (.ref l), some (.bl lp), y5, y6, some (.ref pb), none, some .non, y10, y11, some (.int i), y13, y14, y15, y16, some (.ref ts), some .non, none, some (.ref p20)] ∧ Gr B8 H4 ∧ H4 p20 = some (.lst (ns.map V.int)) ∧ Part sz rs3 i t ns)
                ⟨y13, p0, _, rfl, gg1, hp0, part_one hi⟩ (fun t σ H4 ht p => ?_) (fun σ H4 p => ?_)
              · obtain ⟨y13, p20, ns, rfl, g4, h20, Pt⟩ := p
                have L19 := L18.gr g4
                obtain ⟨bs, hb, hbs⟩ := L19.bo
                have bl : bs.length = rs3.length := by rw [hbs.1, List.length_map]
                refine ⟨.ref p20, rfl, .ref pb, rfl, pb, rfl, ⟨_, .inl (.inl hb)⟩, fun D nD => ?_⟩
                refine lc_list (K := K) (a := pb) (xs := bs) (fun m H5 => Gr H4 H5 ∧ H5 D = some (.lst ((nexts (rs3.take m) ns).map V.int))) ⟨Gx.new nD, upd_same⟩ (fun m H5 _ p => .inl (.inl (p.1.lst hb))) (fun m x H5 ex p => ?_) (fun H5 p => ?_)
                · obtain ⟨g5, hD⟩ := p
                  obtain ⟨d, ed, dx⟩ := hbs.at' ex
                  rw [List.getElem?_map] at ed
                  obtain ⟨e, ee, rfl⟩ := Option.map_eq_some_iff.mp ed
                  obtain ⟨u, u', rfl, _⟩ := Sp0.pair e (List.mem_of_getElem? ee)
                  obtain ⟨t', rfl, ht'⟩ := (dx.gr g5).row_invS
                  have hm : m < rs3.length := (List.getElem?_eq_some_iff.mp ee).1
                  refine ⟨rfl, .ref t', rfl, t', _, 0, .int u, rfl, rfl, .inl (.inl ht'), atI_nat (j := 0) rfl, .ref p20, rfl, _, _, .int u, dp_ints1 (g5.lst h20), rfl, ints_shaped1 ns, _, rfl, ?_⟩
                  rw [any_int]
                  refine ite2 (fun hn => ?_) (fun hn => ?_)
                  · refine ⟨.ref t', rfl, t', _, 1, .int u', rfl, rfl, .inl (.inl ht'), atI_nat (j := 1) rfl, _, hD, ?_, g5.wr nD, ?_⟩
                    · have := nexts_len (rs3.take m) ns
                      rw [List.length_take] at this
                      rw [List.length_map]
                      exact small1000 (by omega)
                    · rw [upd_same, nexts_take ee, if_pos (of_decide_eq_true hn), List.map_append]
                      rfl
                  · refine ⟨g5, ?_⟩
                    rw [nexts_take ee, if_neg (by simpa using hn), List.append_nil]
                    exact hD
                · obtain ⟨g5, hD⟩ := p
                  rw [bl, List.take_length] at hD
                  have n1 := Pt.len
                  have n2 := nexts_len rs3 ns
                  have h20' := g5.lst h20
                  refine ⟨p20, D, _, _, rfl, rfl, h20', hD, ?_, fun p np => ?_⟩
                  · rw [List.length_map, List.length_map]
                    exact Nat.le_of_lt (small1000 (by omega))
                  have g6 : Gr H5 (upd H5 p (.lst (ns.map V.int ++ (nexts rs3 ns).map V.int))) := Gx.new np
                  refine ⟨p, ns ++ nexts rs3 ns, rfl, by rw [upd_same, List.map_append], by rw [List.length_append]; omega, fun x hx => ?_, fun p2 H6 ns2 g7 _ hp2 asc2 mem2 => ⟨_, p2, ns2, rfl, ((g4.trans g5).trans g6).trans g7, hp2, Pt.step Sp0 asc2 mem2⟩⟩
                  rcases List.mem_append.mp hx with hx | hx
                  · have := Pt.val x hx
                    omega
                  · obtain ⟨e, he, rfl⟩ := List.mem_map.mp hx
                    obtain ⟨u, u', rfl, _, _, h2, h3⟩ := Sp0.pair e (List.mem_filter.mp he).1
                    show 0 ≤ u' ∧ u' < 4
                    omega
              · obtain ⟨y13, p20, ns, rfl, g4, h20, Pt⟩ := p
                rw [Int.toNat_natCast] at Pt
                obtain ⟨x0, hx, hx0, hxs, hxm, hxl⟩ := Pt.head
                have z := first_zero Sp0 hin hc0 least Pt.shut hxs hxm hxl
                refine ⟨.ref ts, rfl, .ref p20, rfl, p20, _, 0, .int x0, rfl, rfl, .inl (.inl h20), atI_nat (j := 0) (by rw [List.getElem?_map, hx0]; rfl), ts, _, x0, _, rfl, rfl, .inl (.inl (Gx.tupS g4 .nil ht8)), at_row (by omega) (by omega), rfl, _, rfl, iteN ?_ ⟨_, _, _, rfl, g4⟩⟩
                rw [Int.toNat_natCast, z]
                rfl
            · obtain ⟨y12, y13, y20, rfl, g⟩ := p
              exact q H2
end K66

set_option Elab.async false
set_option linter.all false
set_option maxRecDepth 100000
set_option maxHeartbeats 4000000
namespace K66
open PySem PySem.Spec PyProof.Rows L2 TK MR
/-- walk_ofTs, with the empty tables of the defs of these names -/
theorem walk_ofAll {l : PySem.W.OpenLaw} {n k : Nat} {q : Program} {loose : List Str} {XP : (Str → Option Value) → Heap → Prop} {YP : World → Heap → Prop} {d : DefRec} {K : Params → PySem.W.Frag} {CX : World → CXT} {x : Str} (names : List Str)
    (hn : l.most = some n) (hn2 : n ≤ sizeLine) (hdf : d.params.defaults = []) (hr : Room k callerA) (hrec : (names.all fun y => (recsOf q).any fun e => e.name == y) = true) (hY : ∀ (w : World) (h : Heap), YP w h → (K w.params).In h)
    (F : ∀ (w : World) (mg : Str → Option Value) (fa : Addr) (h : Heap), YP w h → (K w.params).In h → h.Ns mainGlobals mg → mg d.name = some (.ref fa) → (∀ y ∈ names, ∀ fb, mg y = some (.ref fb) → LamX.OwnTab (K w.params) fb h) → LamX.LawAtS l w (K w.params) (CX w) k n x mg fa h)
    (hCX : ∀ (w : World) (H : Hp) (s : Shared) (e : Value) (s' : Shared), CX w [] H s (fun _ _ _ => False) e s' → False) :
    PySem.W.WalkO q loose XP YP l.row.toRowW d [] (fun f vs => PySem.call f vs) := by
  refine Att.attach_callB hn hdf fun w s₀ s₁ mg mb fa o pm cd doc a vs ns G Y ho hd hcd hmg hobj hints hlen hbits hg => ?_
  have KX := hY w _ Y
  have own : ∀ y ∈ names, ∀ fb, mg y = some (.ref fb) → LamX.OwnTab (K w.params) fb s₁.heap := fun y hy fb hfb c P o1 fd1 e dd vs1 sl k1 k2 k3 k4 k5 => by
    obtain ⟨dL, hm, hn1⟩ := List.any_eq_true.mp (List.all_eq_true.mp hrec y hy)
    have hn2 : dL.name = y := beq_iff_eq.mp hn1
    obtain ⟨a', o', fd', c', P', h1, h2, h3, h4, h5, h6⟩ := G.T.tab dL hm
    rw [hn2, hfb] at h1
    cases h1
    have g1 := KX _ _ k1
    rw [g1] at h2
    cases h2
    rw [k2] at h3
    cases h3
    rw [k3] at h4
    cases h4
    obtain ⟨⟨oc, vc, e1, _, e3, e4⟩, hP⟩ := h6
    have g2 := KX _ _ k4
    rw [g2] at e1
    cases e1
    cases e3
    rw [k5] at e4
    cases e4
    exact hP
  obtain ⟨fd, cs, sp, hT, nT, C, hb, hsp, hF⟩ := F w mg fa _ Y KX G.T.g hmg own
  exact LamX.law_callTs KX G.T.g G.T.b G.T.builtins G.T.nolimit hg hT nT C G.T.bmain hobj hints (Nat.le_trans hlen hn2) hr hF hb (fun H hH hS => hsp H a ns hlen hbits hH hS) fun H e s' => hCX w H s₁ e s'

abbrev tabNames : List Str := ["is_row", "_check_graph", "shows_odd_walk"]
theorem law_at {l : PySem.W.OpenLaw} {w : World} {K : PySem.W.Frag} {h : Heap} {mg : Str → Option Value} {fa : Addr} (X : K.In h) (G : h.Ns mainGlobals mg) (hfa : mg "law" = some (.ref fa)) (own : ∀ y ∈ tabNames, ∀ fb, mg y = some (.ref fb) → LamX.OwnTab K fb h)
    {f0 c0 : Addr} {oc0 kV0 dc0 pm0 ct0 : Value} {od0 an0 : Option Addr} {sl0 : Array (Option Value)}
    {f1 c1 : Addr} {oc1 kV1 dc1 pm1 ct1 : Value} {od1 an1 : Option Addr} {sl1 : Array (Option Value)}
    {f2 c2 : Addr} {oc2 kV2 dc2 pm2 ct2 : Value} {od2 an2 : Option Addr} {sl2 : Array (Option Value)}
    {f3 c3 : Addr} {oc3 kV3 dc3 pm3 ct3 : Value} {od3 an3 : Option Addr} {sl3 : Array (Option Value)}
    {f4 c4 : Addr} {oc4 kV4 dc4 pm4 ct4 : Value} {od4 an4 : Option Addr} {sl4 : Array (Option Value)}
    {f5 c5 : Addr} {oc5 kV5 dc5 pm5 ct5 : Value} {od5 an5 : Option Addr} {sl5 : Array (Option Value)}
    {f6 c6 : Addr} {oc6 kV6 dc6 pm6 ct6 : Value} {od6 an6 : Option Addr} {sl6 : Array (Option Value)}
    {f7 c7 : Addr} {oc7 kV7 dc7 pm7 ct7 : Value} {od7 an7 : Option Addr} {sl7 : Array (Option Value)}
    {f8 c8 : Addr} {oc8 kV8 dc8 pm8 ct8 : Value} {od8 an8 : Option Addr} {sl8 : Array (Option Value)}
    {f9 c9 : Addr} {oc9 kV9 dc9 pm9 ct9 : Value} {od9 an9 : Option Addr} {sl9 : Array (Option Value)}
    {f10 c10 : Addr} {oc10 kV10 dc10 pm10 ct10 : Value} {od10 an10 : Option Addr} {sl10 : Array (Option Value)}
    {f11 c11 : Addr} {oc11 kV11 dc11 pm11 ct11 : Value} {od11 an11 : Option Addr} {sl11 : Array (Option Value)}
    {f12 c12 : Addr} {oc12 kV12 dc12 pm12 ct12 : Value} {od12 an12 : Option Addr} {sl12 : Array (Option Value)}
    {f13 c13 : Addr} {oc13 kV13 dc13 pm13 ct13 : Value} {od13 an13 : Option Addr} {sl13 : Array (Option Value)}
    {f14 c14 : Addr} {oc14 kV14 dc14 pm14 ct14 : Value} {od14 an14 : Option Addr} {sl14 : Array (Option Value)}
    {f15 c15 : Addr} {oc15 kV15 dc15 pm15 ct15 : Value} {od15 an15 : Option Addr} {sl15 : Array (Option Value)}
    {f16 c16 : Addr} {oc16 kV16 dc16 pm16 ct16 : Value} {od16 an16 : Option Addr} {sl16 : Array (Option Value)}
    {f17 c17 : Addr} {oc17 kV17 dc17 pm17 ct17 : Value} {od17 an17 : Option Addr} {sl17 : Array (Option Value)}
    {P2 : Addr} {e2 : Value} {dd2 : Option Addr} {vs2 : Array Value} {ss2 : Array (Option Value)}
    {P6 : Addr} {e6 : Value} {dd6 : Option Addr} {vs6 : Array Value} {ss6 : Array (Option Value)}
    {P12 : Addr} {e12 : Value} {dd12 : Option Addr} {vs12 : Array Value} {ss12 : Array (Option Value)}
    {tMOST_VALUES : Tok}
    (a0 : PySem.W.nsIn K mainGlobals "is_integer" = some (some (.ref f0)))
    (l0 : K.lookup f0 = some ⟨oc0, od0, .func (PySem.W.fnOf "is_integer" "is_integer" (defArgs s_is_integer) (defBody s_is_integer) (defScope s_is_integer) .none kV0 dc0 pm0 an0 (.ref c0) ct0), sl0⟩)
    (d0 : PySem.W.codeIn K (.ref c0) "is_integer" = true)
    (k0 : PySem.W.keepIn K (.ref f0) = true)
    (a1 : PySem.W.nsIn K mainGlobals "is_tuple" = some (some (.ref f1)))
    (l1 : K.lookup f1 = some ⟨oc1, od1, .func (PySem.W.fnOf "is_tuple" "is_tuple" (defArgs s_is_tuple) (defBody s_is_tuple) (defScope s_is_tuple) .none kV1 dc1 pm1 an1 (.ref c1) ct1), sl1⟩)
    (d1 : PySem.W.codeIn K (.ref c1) "is_tuple" = true)
    (k1 : PySem.W.keepIn K (.ref f1) = true)
    (a2 : PySem.W.nsIn K mainGlobals "is_row" = some (some (.ref f2)))
    (l2 : K.lookup f2 = some ⟨oc2, od2, .func (PySem.W.fnOf "is_row" "is_row" (defArgs s_is_row) (defBody s_is_row) (defScope s_is_row) .none kV2 dc2 pm2 an2 (.ref c2) ct2), sl2⟩)
    (d2 : PySem.W.codeIn K (.ref c2) "is_row" = true)
    (k2 : PySem.W.keepIn K (.ref f2) = true)
    (a3 : PySem.W.nsIn K mainGlobals "check_size" = some (some (.ref f3)))
    (l3 : K.lookup f3 = some ⟨oc3, od3, .func (PySem.W.fnOf "check_size" "check_size" (defArgs s_check_size) (defBody s_check_size) (defScope s_check_size) .none kV3 dc3 pm3 an3 (.ref c3) ct3), sl3⟩)
    (d3 : PySem.W.codeIn K (.ref c3) "check_size" = true)
    (k3 : PySem.W.keepIn K (.ref f3) = true)
    (a4 : PySem.W.nsIn K mainGlobals "all_rows" = some (some (.ref f4)))
    (l4 : K.lookup f4 = some ⟨oc4, od4, .func (PySem.W.fnOf "all_rows" "all_rows" (defArgs s_all_rows) (defBody s_all_rows) (defScope s_all_rows) .none kV4 dc4 pm4 an4 (.ref c4) ct4), sl4⟩)
    (d4 : PySem.W.codeIn K (.ref c4) "all_rows" = true)
    (k4 : PySem.W.keepIn K (.ref f4) = true)
    (a5 : PySem.W.nsIn K mainGlobals "graph" = some (some (.ref f5)))
    (l5 : K.lookup f5 = some ⟨oc5, od5, .func (PySem.W.fnOf "graph" "graph" (defArgs s_graph) (defBody s_graph) (defScope s_graph) .none kV5 dc5 pm5 an5 (.ref c5) ct5), sl5⟩)
    (d5 : PySem.W.codeIn K (.ref c5) "graph" = true)
    (k5 : PySem.W.keepIn K (.ref f5) = true)
    (a6 : PySem.W.nsIn K mainGlobals "_check_graph" = some (some (.ref f6)))
    (l6 : K.lookup f6 = some ⟨oc6, od6, .func (PySem.W.fnOf "_check_graph" "_check_graph" (defArgs s_check_graph) (defBody s_check_graph) (defScope s_check_graph) .none kV6 dc6 pm6 an6 (.ref c6) ct6), sl6⟩)
    (d6 : PySem.W.codeIn K (.ref c6) "_check_graph" = true)
    (k6 : PySem.W.keepIn K (.ref f6) = true)
    (a7 : PySem.W.nsIn K mainGlobals "_is_edge" = some (some (.ref f7)))
    (l7 : K.lookup f7 = some ⟨oc7, od7, .func (PySem.W.fnOf "_is_edge" "_is_edge" (defArgs s_is_edge) (defBody s_is_edge) (defScope s_is_edge) .none kV7 dc7 pm7 an7 (.ref c7) ct7), sl7⟩)
    (d7 : PySem.W.codeIn K (.ref c7) "_is_edge" = true)
    (k7 : PySem.W.keepIn K (.ref f7) = true)
    (a8 : PySem.W.nsIn K mainGlobals "_directed" = some (some (.ref f8)))
    (l8 : K.lookup f8 = some ⟨oc8, od8, .func (PySem.W.fnOf "_directed" "_directed" (defArgs s_directed) (defBody s_directed) (defScope s_directed) .none kV8 dc8 pm8 an8 (.ref c8) ct8), sl8⟩)
    (d8 : PySem.W.codeIn K (.ref c8) "_directed" = true)
    (k8 : PySem.W.keepIn K (.ref f8) = true)
    (a9 : PySem.W.nsIn K mainGlobals "two_sides" = some (some (.ref f9)))
    (l9 : K.lookup f9 = some ⟨oc9, od9, .func (PySem.W.fnOf "two_sides" "two_sides" (defArgs s_two_sides) (defBody s_two_sides) (defScope s_two_sides) .none kV9 dc9 pm9 an9 (.ref c9) ct9), sl9⟩)
    (d9 : PySem.W.codeIn K (.ref c9) "two_sides" = true)
    (k9 : PySem.W.keepIn K (.ref f9) = true)
    (a10 : PySem.W.nsIn K mainGlobals "odd_walk" = some (some (.ref f10)))
    (l10 : K.lookup f10 = some ⟨oc10, od10, .func (PySem.W.fnOf "odd_walk" "odd_walk" (defArgs s_odd_walk) (defBody s_odd_walk) (defScope s_odd_walk) .none kV10 dc10 pm10 an10 (.ref c10) ct10), sl10⟩)
    (d10 : PySem.W.codeIn K (.ref c10) "odd_walk" = true)
    (k10 : PySem.W.keepIn K (.ref f10) = true)
    (a11 : PySem.W.nsIn K mainGlobals "_is_walk" = some (some (.ref f11)))
    (l11 : K.lookup f11 = some ⟨oc11, od11, .func (PySem.W.fnOf "_is_walk" "_is_walk" (defArgs s_is_walk) (defBody s_is_walk) (defScope s_is_walk) .none kV11 dc11 pm11 an11 (.ref c11) ct11), sl11⟩)
    (d11 : PySem.W.codeIn K (.ref c11) "_is_walk" = true)
    (k11 : PySem.W.keepIn K (.ref f11) = true)
    (a12 : PySem.W.nsIn K mainGlobals "shows_odd_walk" = some (some (.ref f12)))
    (l12 : K.lookup f12 = some ⟨oc12, od12, .func (PySem.W.fnOf "shows_odd_walk" "shows_odd_walk" (defArgs s_shows_odd_walk) (defBody s_shows_odd_walk) (defScope s_shows_odd_walk) .none kV12 dc12 pm12 an12 (.ref c12) ct12), sl12⟩)
    (d12 : PySem.W.codeIn K (.ref c12) "shows_odd_walk" = true)
    (k12 : PySem.W.keepIn K (.ref f12) = true)
    (a13 : PySem.W.nsIn K mainGlobals "_law_taken" = some (some (.ref f13)))
    (l13 : K.lookup f13 = some ⟨oc13, od13, .func (PySem.W.fnOf "_law_taken" "_law_taken" (defArgs s_law_taken) (defBody s_law_taken) (defScope s_law_taken) .none kV13 dc13 pm13 an13 (.ref c13) ct13), sl13⟩)
    (d13 : PySem.W.codeIn K (.ref c13) "_law_taken" = true)
    (k13 : PySem.W.keepIn K (.ref f13) = true)
    (a14 : PySem.W.nsIn K mainGlobals "_law_alike" = some (some (.ref f14)))
    (l14 : K.lookup f14 = some ⟨oc14, od14, .func (PySem.W.fnOf "_law_alike" "_law_alike" (defArgs s_law_alike) (defBody s_law_alike) (defScope s_law_alike) .none kV14 dc14 pm14 an14 (.ref c14) ct14), sl14⟩)
    (d14 : PySem.W.codeIn K (.ref c14) "_law_alike" = true)
    (k14 : PySem.W.keepIn K (.ref f14) = true)
    (a15 : PySem.W.nsIn K mainGlobals "_law_whole" = some (some (.ref f15)))
    (l15 : K.lookup f15 = some ⟨oc15, od15, .func (PySem.W.fnOf "_law_whole" "_law_whole" (defArgs s_law_whole) (defBody s_law_whole) (defScope s_law_whole) .none kV15 dc15 pm15 an15 (.ref c15) ct15), sl15⟩)
    (d15 : PySem.W.codeIn K (.ref c15) "_law_whole" = true)
    (k15 : PySem.W.keepIn K (.ref f15) = true)
    (a16 : PySem.W.nsIn K mainGlobals "_law_once" = some (some (.ref f16)))
    (l16 : K.lookup f16 = some ⟨oc16, od16, .func (PySem.W.fnOf "_law_once" "_law_once" (defArgs s_law_once) (defBody s_law_once) (defScope s_law_once) .none kV16 dc16 pm16 an16 (.ref c16) ct16), sl16⟩)
    (d16 : PySem.W.codeIn K (.ref c16) "_law_once" = true)
    (k16 : PySem.W.keepIn K (.ref f16) = true)
    (a17 : PySem.W.nsIn K mainGlobals "law" = some (some (.ref f17)))
    (l17 : K.lookup f17 = some ⟨oc17, od17, .func (PySem.W.fnOf "law" "law" (defArgs s_law) (defBody s_law) (defScope s_law) .none kV17 dc17 pm17 an17 (.ref c17) ct17), sl17⟩)
    (d17 : PySem.W.codeIn K (.ref c17) "law" = true)
    (k17 : PySem.W.keepIn K (.ref f17) = true)
    (m2 : K.lookup c2 = some ⟨e2, dd2, .fields vs2, ss2⟩)
    (v2 : vs2[11]? = some (.ref P2))
    (h2 : PySem.W.codeHdIn K c2 P2 = true)
    (n2 : K.lookup P2 = none)
    (m6 : K.lookup c6 = some ⟨e6, dd6, .fields vs6, ss6⟩)
    (v6 : vs6[11]? = some (.ref P6))
    (h6 : PySem.W.codeHdIn K c6 P6 = true)
    (n6 : K.lookup P6 = none)
    (m12 : K.lookup c12 = some ⟨e12, dd12, .fields vs12, ss12⟩)
    (v12 : vs12[11]? = some (.ref P12))
    (h12 : PySem.W.codeHdIn K c12 P12 = true)
    (n12 : K.lookup P12 = none)
    (qMOST_VALUES : PySem.W.nsIn K mainGlobals "MOST_VALUES" = some (some (.int 4 tMOST_VALUES)))
    (zall : PySem.W.nsIn K mainGlobals "all" = some none)
    (zbool : PySem.W.nsIn K mainGlobals "bool" = some none)
    (zint : PySem.W.nsIn K mainGlobals "int" = some none)
    (zisinstance : PySem.W.nsIn K mainGlobals "isinstance" = some none)
    (zlen : PySem.W.nsIn K mainGlobals "len" = some none)
    (zlist : PySem.W.nsIn K mainGlobals "list" = some none)
    (zmin : PySem.W.nsIn K mainGlobals "min" = some none)
    (zrange : PySem.W.nsIn K mainGlobals "range" = some none)
    (zset : PySem.W.nsIn K mainGlobals "set" = some none)
    (zsorted : PySem.W.nsIn K mainGlobals "sorted" = some none)
    (zstr : PySem.W.nsIn K mainGlobals "str" = some none)
    (ztuple : PySem.W.nsIn K mainGlobals "tuple" = some none)
    (zzip : PySem.W.nsIn K mainGlobals "zip" = some none) : LamX.LawAtS l w K CX0 10 63 "script" mg fa h := by
  have e : f17 = fa := by
    have z := (PySem.W.mg_of X G a17).symm.trans hfa
    cases z
    rfl
  subst e
  have F0 : FunC K "is_integer" s_is_integer f0 (PySem.W.fnOf "is_integer" "is_integer" (defArgs s_is_integer) (defBody s_is_integer) (defScope s_is_integer) .none kV0 dc0 pm0 an0 (.ref c0) ct0) c0 := ⟨⟨oc0, od0, kV0, dc0, pm0, an0, ct0, sl0, rfl, l0, d0⟩, k0⟩
  have b0 := F0.binds (ps := p_is_integer) fun _ _ _ _ _ _ us hl => match us, hl with | [_, _, _], _ => rfl
  have F1 : FunC K "is_tuple" s_is_tuple f1 (PySem.W.fnOf "is_tuple" "is_tuple" (defArgs s_is_tuple) (defBody s_is_tuple) (defScope s_is_tuple) .none kV1 dc1 pm1 an1 (.ref c1) ct1) c1 := ⟨⟨oc1, od1, kV1, dc1, pm1, an1, ct1, sl1, rfl, l1, d1⟩, k1⟩
  have b1 := F1.binds (ps := p_is_tuple) fun _ _ _ _ _ _ us hl => match us, hl with | [_, _, _], _ => rfl
  have F2 : FunC K "is_row" s_is_row f2 (PySem.W.fnOf "is_row" "is_row" (defArgs s_is_row) (defBody s_is_row) (defScope s_is_row) .none kV2 dc2 pm2 an2 (.ref c2) ct2) c2 := ⟨⟨oc2, od2, kV2, dc2, pm2, an2, ct2, sl2, rfl, l2, d2⟩, k2⟩
  have b2 := F2.binds (ps := p_is_row) fun _ _ _ _ _ _ us hl => match us, hl with | [_, _, _], _ => rfl
  have F3 : FunC K "check_size" s_check_size f3 (PySem.W.fnOf "check_size" "check_size" (defArgs s_check_size) (defBody s_check_size) (defScope s_check_size) .none kV3 dc3 pm3 an3 (.ref c3) ct3) c3 := ⟨⟨oc3, od3, kV3, dc3, pm3, an3, ct3, sl3, rfl, l3, d3⟩, k3⟩
  have b3 := F3.binds (ps := p_check_size) fun _ _ _ _ _ _ us hl => match us, hl with | [_], _ => rfl
  have F4 : FunC K "all_rows" s_all_rows f4 (PySem.W.fnOf "all_rows" "all_rows" (defArgs s_all_rows) (defBody s_all_rows) (defScope s_all_rows) .none kV4 dc4 pm4 an4 (.ref c4) ct4) c4 := ⟨⟨oc4, od4, kV4, dc4, pm4, an4, ct4, sl4, rfl, l4, d4⟩, k4⟩
  have b4 := F4.binds (ps := p_all_rows) fun _ _ _ _ _ _ us hl => match us, hl with | [_, _], _ => rfl
  have F5 : FunC K "graph" s_graph f5 (PySem.W.fnOf "graph" "graph" (defArgs s_graph) (defBody s_graph) (defScope s_graph) .none kV5 dc5 pm5 an5 (.ref c5) ct5) c5 := ⟨⟨oc5, od5, kV5, dc5, pm5, an5, ct5, sl5, rfl, l5, d5⟩, k5⟩
  have b5 := F5.binds (ps := p_graph) fun _ _ _ _ _ _ us hl => match us, hl with | [_, _], _ => rfl
  have F6 : FunC K "_check_graph" s_check_graph f6 (PySem.W.fnOf "_check_graph" "_check_graph" (defArgs s_check_graph) (defBody s_check_graph) (defScope s_check_graph) .none kV6 dc6 pm6 an6 (.ref c6) ct6) c6 := ⟨⟨oc6, od6, kV6, dc6, pm6, an6, ct6, sl6, rfl, l6, d6⟩, k6⟩
  have b6 := F6.binds (ps := p_check_graph) fun _ _ _ _ _ _ us hl => match us, hl with | [_, _], _ => rfl
  have F7 : FunC K "_is_edge" s_is_edge f7 (PySem.W.fnOf "_is_edge" "_is_edge" (defArgs s_is_edge) (defBody s_is_edge) (defScope s_is_edge) .none kV7 dc7 pm7 an7 (.ref c7) ct7) c7 := ⟨⟨oc7, od7, kV7, dc7, pm7, an7, ct7, sl7, rfl, l7, d7⟩, k7⟩
  have b7 := F7.binds (ps := p_is_edge) fun _ _ _ _ _ _ us hl => match us, hl with | [_, _], _ => rfl
  have F8 : FunC K "_directed" s_directed f8 (PySem.W.fnOf "_directed" "_directed" (defArgs s_directed) (defBody s_directed) (defScope s_directed) .none kV8 dc8 pm8 an8 (.ref c8) ct8) c8 := ⟨⟨oc8, od8, kV8, dc8, pm8, an8, ct8, sl8, rfl, l8, d8⟩, k8⟩
  have b8 := F8.binds (ps := p_directed) fun _ _ _ _ _ _ us hl => match us, hl with | [_], _ => rfl
  have F9 : FunC K "two_sides" s_two_sides f9 (PySem.W.fnOf "two_sides" "two_sides" (defArgs s_two_sides) (defBody s_two_sides) (defScope s_two_sides) .none kV9 dc9 pm9 an9 (.ref c9) ct9) c9 := ⟨⟨oc9, od9, kV9, dc9, pm9, an9, ct9, sl9, rfl, l9, d9⟩, k9⟩
  have b9 := F9.binds (ps := p_two_sides) fun _ _ _ _ _ _ us hl => match us, hl with | [_, _], _ => rfl
  have F10 : FunC K "odd_walk" s_odd_walk f10 (PySem.W.fnOf "odd_walk" "odd_walk" (defArgs s_odd_walk) (defBody s_odd_walk) (defScope s_odd_walk) .none kV10 dc10 pm10 an10 (.ref c10) ct10) c10 := ⟨⟨oc10, od10, kV10, dc10, pm10, an10, ct10, sl10, rfl, l10, d10⟩, k10⟩
  have b10 := F10.binds (ps := p_odd_walk) fun _ _ _ _ _ _ us hl => match us, hl with | [_, _], _ => rfl
  have F11 : FunC K "_is_walk" s_is_walk f11 (PySem.W.fnOf "_is_walk" "_is_walk" (defArgs s_is_walk) (defBody s_is_walk) (defScope s_is_walk) .none kV11 dc11 pm11 an11 (.ref c11) ct11) c11 := ⟨⟨oc11, od11, kV11, dc11, pm11, an11, ct11, sl11, rfl, l11, d11⟩, k11⟩
  have b11 := F11.binds (ps := p_is_walk) fun _ _ _ _ _ _ us hl => match us, hl with | [_, _], _ => rfl
  have F12 : FunC K "shows_odd_walk" s_shows_odd_walk f12 (PySem.W.fnOf "shows_odd_walk" "shows_odd_walk" (defArgs s_shows_odd_walk) (defBody s_shows_odd_walk) (defScope s_shows_odd_walk) .none kV12 dc12 pm12 an12 (.ref c12) ct12) c12 := ⟨⟨oc12, od12, kV12, dc12, pm12, an12, ct12, sl12, rfl, l12, d12⟩, k12⟩
  have b12 := F12.binds (ps := p_shows_odd_walk) fun _ _ _ _ _ _ us hl => match us, hl with | [_, _, _], _ => rfl
  have F13 : FunC K "_law_taken" s_law_taken f13 (PySem.W.fnOf "_law_taken" "_law_taken" (defArgs s_law_taken) (defBody s_law_taken) (defScope s_law_taken) .none kV13 dc13 pm13 an13 (.ref c13) ct13) c13 := ⟨⟨oc13, od13, kV13, dc13, pm13, an13, ct13, sl13, rfl, l13, d13⟩, k13⟩
  have b13 := F13.binds (ps := p_law_taken) fun _ _ _ _ _ _ us hl => match us, hl with | [_, _], _ => rfl
  have F14 : FunC K "_law_alike" s_law_alike f14 (PySem.W.fnOf "_law_alike" "_law_alike" (defArgs s_law_alike) (defBody s_law_alike) (defScope s_law_alike) .none kV14 dc14 pm14 an14 (.ref c14) ct14) c14 := ⟨⟨oc14, od14, kV14, dc14, pm14, an14, ct14, sl14, rfl, l14, d14⟩, k14⟩
  have b14 := F14.binds (ps := p_law_alike) fun _ _ _ _ _ _ us hl => match us, hl with | [_, _], _ => rfl
  have F15 : FunC K "_law_whole" s_law_whole f15 (PySem.W.fnOf "_law_whole" "_law_whole" (defArgs s_law_whole) (defBody s_law_whole) (defScope s_law_whole) .none kV15 dc15 pm15 an15 (.ref c15) ct15) c15 := ⟨⟨oc15, od15, kV15, dc15, pm15, an15, ct15, sl15, rfl, l15, d15⟩, k15⟩
  have b15 := F15.binds (ps := p_law_whole) fun _ _ _ _ _ _ us hl => match us, hl with | [_, _, _], _ => rfl
  have F16 : FunC K "_law_once" s_law_once f16 (PySem.W.fnOf "_law_once" "_law_once" (defArgs s_law_once) (defBody s_law_once) (defScope s_law_once) .none kV16 dc16 pm16 an16 (.ref c16) ct16) c16 := ⟨⟨oc16, od16, kV16, dc16, pm16, an16, ct16, sl16, rfl, l16, d16⟩, k16⟩
  have b16 := F16.binds (ps := p_law_once) fun _ _ _ _ _ _ us hl => match us, hl with | [_], _ => rfl
  have F17 : FunC K "law" s_law f17 (PySem.W.fnOf "law" "law" (defArgs s_law) (defBody s_law) (defScope s_law) .none kV17 dc17 pm17 an17 (.ref c17) ct17) c17 := ⟨⟨oc17, od17, kV17, dc17, pm17, an17, ct17, sl17, rfl, l17, d17⟩, k17⟩
  have b17 := F17.binds (ps := p_law) fun _ _ _ _ _ _ us hl => match us, hl with | [_], _ => rfl
  have w2 : h.get? P2 = some { cls := .none, data := .fields #[] } := own "is_row" (by simp [tabNames]) f2 (PySem.W.mg_of X G a2) c2 P2 _ _ _ _ _ _ l2 rfl rfl m2 v2
  have w6 : h.get? P6 = some { cls := .none, data := .fields #[] } := own "_check_graph" (by simp [tabNames]) f6 (PySem.W.mg_of X G a6) c6 P6 _ _ _ _ _ _ l6 rfl rfl m6 v6
  have w12 : h.get? P12 = some { cls := .none, data := .fields #[] } := own "shows_odd_walk" (by simp [tabNames]) f12 (PySem.W.mg_of X G a12) c12 P12 _ _ _ _ _ _ l12 rfl rfl m12 v12
  have three : ∀ {R : Addr × Addr → Prop}, R (c2, P2) → R (c6, P6) → R (c12, P12) → ∀ p ∈ ([(c2, P2), (c6, P6), (c12, P12)] : List (Addr × Addr)), R p := fun r2 r6 r12 p hp => by
    simp only [List.mem_cons, List.not_mem_nil, or_false] at hp
    rcases hp with rfl | rfl | rfl
    · exact r2
    · exact r6
    · exact r12
  refine ⟨(PySem.W.fnOf "law" "law" (defArgs s_law) (defBody s_law) (defScope s_law) .none kV17 dc17 pm17 an17 (.ref c17) ct17), [(c2, P2), (c6, P6), (c12, P12)], fun vs H Q _ => ∃ (c : Addr) (ns : List Int), vs = [.ref c] ∧ SqL K H c (ns.map V.int) ∧ (H c ≠ none ∨ SqL K (fun _ => none) c (ns.map V.int)) ∧ TT [P2, P6, P12] H ∧ ∀ H', Q (.bl true) H', three w2 w6 w12, three n2 n6 n12, three (PySem.W.codeHd_of_K X h2) (PySem.W.codeHd_of_K X h6) (PySem.W.codeHd_of_K X h12), fun s v => .of_eq rfl, fun H a ns _ _ hH hS => ⟨a, ns, rfl, hS, ?_, ?_, fun _ => rfl⟩, fun base kb nb hT => ?_⟩
  · rcases hS with (hS | ⟨o', hS⟩) | hS
    · exact .inl (by rw [hS]; intro z; cases z)
    · exact .inl (by rw [hS]; intro z; cases z)
    · exact .inr (.inr hS)
  · intro P hP
    obtain ⟨p, hp, rfl⟩ : ∃ p ∈ ([(c2, P2), (c6, P6), (c12, P12)] : List (Addr × Addr)), p.2 = P := by
      simp only [List.mem_cons, List.not_mem_nil, or_false] at hP
      rcases hP with rfl | rfl | rfl
      · exact ⟨_, List.mem_cons_self, rfl⟩
      · exact ⟨_, (List.mem_cons_of_mem _ List.mem_cons_self), rfl⟩
      · exact ⟨_, (List.mem_cons_of_mem _ (List.mem_cons_of_mem _ List.mem_cons_self)), rfl⟩
    exact ⟨#[], hH p hp, by first | exact trivial | constructor⟩
  · exact ok_law (P := l.prog) (w := w) {
      is_integer := { f := f0, fd := _, c := c0, F := F0, b := b0, g := PySem.W.mg_of X G a0 }
      is_tuple := { f := f1, fd := _, c := c1, F := F1, b := b1, g := PySem.W.mg_of X G a1 }
      is_row := { f := f2, fd := _, c := c2, F := F2, b := b2, g := PySem.W.mg_of X G a2, P := P2, TB := hT (c2, P2) (List.mem_cons_self) }
      check_size := { f := f3, fd := _, c := c3, F := F3, b := b3, g := PySem.W.mg_of X G a3 }
      all_rows := { f := f4, fd := _, c := c4, F := F4, b := b4, g := PySem.W.mg_of X G a4 }
      graph := { f := f5, fd := _, c := c5, F := F5, b := b5, g := PySem.W.mg_of X G a5 }
      check_graph := { f := f6, fd := _, c := c6, F := F6, b := b6, g := PySem.W.mg_of X G a6, P := P6, TB := hT (c6, P6) ((List.mem_cons_of_mem _ List.mem_cons_self)) }
      is_edge := { f := f7, fd := _, c := c7, F := F7, b := b7, g := PySem.W.mg_of X G a7 }
      directed := { f := f8, fd := _, c := c8, F := F8, b := b8, g := PySem.W.mg_of X G a8 }
      two_sides := { f := f9, fd := _, c := c9, F := F9, b := b9, g := PySem.W.mg_of X G a9 }
      odd_walk := { f := f10, fd := _, c := c10, F := F10, b := b10, g := PySem.W.mg_of X G a10 }
      is_walk := { f := f11, fd := _, c := c11, F := F11, b := b11, g := PySem.W.mg_of X G a11 }
      shows_odd_walk := { f := f12, fd := _, c := c12, F := F12, b := b12, g := PySem.W.mg_of X G a12, P := P12, TB := hT (c12, P12) ((List.mem_cons_of_mem _ (List.mem_cons_of_mem _ List.mem_cons_self))) }
      law_taken := { f := f13, fd := _, c := c13, F := F13, b := b13, g := PySem.W.mg_of X G a13 }
      law_alike := { f := f14, fd := _, c := c14, F := F14, b := b14, g := PySem.W.mg_of X G a14 }
      law_whole := { f := f15, fd := _, c := c15, F := F15, b := b15, g := PySem.W.mg_of X G a15 }
      law_once := { f := f16, fd := _, c := c16, F := F16, b := b16, g := PySem.W.mg_of X G a16 }
      law := { f := f17, fd := _, c := c17, F := F17, b := b17, g := PySem.W.mg_of X G a17 }
      c_MOST_VALUES := ⟨_, PySem.W.mg_of X G qMOST_VALUES⟩
      b_all := PySem.W.mg_none_of X G zall
      b_bool := PySem.W.mg_none_of X G zbool
      b_int := PySem.W.mg_none_of X G zint
      b_isinstance := PySem.W.mg_none_of X G zisinstance
      b_len := PySem.W.mg_none_of X G zlen
      b_list := PySem.W.mg_none_of X G zlist
      b_min := PySem.W.mg_none_of X G zmin
      b_range := PySem.W.mg_none_of X G zrange
      b_set := PySem.W.mg_none_of X G zset
      b_sorted := PySem.W.mg_none_of X G zsorted
      b_str := PySem.W.mg_none_of X G zstr
      b_tuple := PySem.W.mg_none_of X G ztuple
      b_zip := PySem.W.mg_none_of X G zzip
    }
end K66

set_option Elab.async false
set_option linter.all false
open PySem PySem.W PyProof.Rows
set_option maxRecDepth 100000 in
set_option maxHeartbeats 0 in
theorem PySem.Challenge.cw_templates_k66_whole_two_sides_holds : PySem.Challenge.rw_templates_k66_whole_two_sides.Holds := by
  w_on; o_law; k_head; (case hw => w_witness2)
  k_fill
  refine K66.walk_ofAll (l := PySem.Challenge.rw_templates_k66_whole_two_sides) (n := 63) (k := 10) (x := "script") (CX := fun _ => L2.CX0) K66.tabNames rfl (by decide) rfl ⟨rfl, by decide, by decide⟩ (by decide +kernel) (fun w h Y => PySem.W.kIn_of Y) ?F (fun _ _ _ _ _ h => h)
  case F =>
    intro w mg fa h Y KX G hmg own
    refine' K66.law_at KX G hmg own ?a0 ?l0 ?d0 ?k0 ?a1 ?l1 ?d1 ?k1 ?a2 ?l2 ?d2 ?k2 ?a3 ?l3 ?d3 ?k3 ?a4 ?l4 ?d4 ?k4 ?a5 ?l5 ?d5 ?k5 ?a6 ?l6 ?d6 ?k6 ?a7 ?l7 ?d7 ?k7 ?a8 ?l8 ?d8 ?k8 ?a9 ?l9 ?d9 ?k9 ?a10 ?l10 ?d10 ?k10 ?a11 ?l11 ?d11 ?k11 ?a12 ?l12 ?d12 ?k12 ?a13 ?l13 ?d13 ?k13 ?a14 ?l14 ?d14 ?k14 ?a15 ?l15 ?d15 ?k15 ?a16 ?l16 ?d16 ?k16 ?a17 ?l17 ?d17 ?k17 ?m2 ?v2 ?h2 ?n2 ?m6 ?v6 ?h6 ?n6 ?m12 ?v12 ?h12 ?n12 ?qMOST_VALUES ?zall ?zbool ?zint ?zisinstance ?zlen ?zlist ?zmin ?zrange ?zset ?zsorted ?zstr ?ztuple ?zzip
    (case a0 => k_is); (case l0 => k_is); (case d0 => k_is); (case k0 => k_is); (case a1 => k_is); (case l1 => k_is); (case d1 => k_is); (case k1 => k_is); (case a2 => k_is); (case l2 => k_is); (case d2 => k_is); (case k2 => k_is); (case a3 => k_is); (case l3 => k_is); (case d3 => k_is); (case k3 => k_is); (case a4 => k_is); (case l4 => k_is); (case d4 => k_is); (case k4 => k_is); (case a5 => k_is); (case l5 => k_is); (case d5 => k_is); (case k5 => k_is); (case a6 => k_is); (case l6 => k_is); (case d6 => k_is); (case k6 => k_is); (case a7 => k_is); (case l7 => k_is); (case d7 => k_is); (case k7 => k_is); (case a8 => k_is); (case l8 => k_is); (case d8 => k_is); (case k8 => k_is); (case a9 => k_is); (case l9 => k_is); (case d9 => k_is); (case k9 => k_is); (case a10 => k_is); (case l10 => k_is); (case d10 => k_is); (case k10 => k_is); (case a11 => k_is); (case l11 => k_is); (case d11 => k_is); (case k11 => k_is); (case a12 => k_is); (case l12 => k_is); (case d12 => k_is); (case k12 => k_is); (case a13 => k_is); (case l13 => k_is); (case d13 => k_is); (case k13 => k_is); (case a14 => k_is); (case l14 => k_is); (case d14 => k_is); (case k14 => k_is); (case a15 => k_is); (case l15 => k_is); (case d15 => k_is); (case k15 => k_is); (case a16 => k_is); (case l16 => k_is); (case d16 => k_is); (case k16 => k_is); (case a17 => k_is); (case l17 => k_is); (case d17 => k_is); (case k17 => k_is); (case m2 => k_is); (case v2 => rfl); (case h2 => first | kernel_rfl | rfl); (case n2 => first | kernel_rfl | rfl); (case m6 => k_is); (case v6 => rfl); (case h6 => first | kernel_rfl | rfl); (case n6 => first | kernel_rfl | rfl); (case m12 => k_is); (case v12 => rfl); (case h12 => first | kernel_rfl | rfl); (case n12 => first | kernel_rfl | rfl); (case qMOST_VALUES => k_is); (case zall => k_is); (case zbool => k_is); (case zint => k_is); (case zisinstance => k_is); (case zlen => k_is); (case zlist => k_is); (case zmin => k_is); (case zrange => k_is); (case zset => k_is); (case zsorted => k_is); (case zstr => k_is); (case ztuple => k_is); (case zzip => k_is)
