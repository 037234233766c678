import PyProof.Rows.All
import Wide.All
import OpenK.AllK
import Wide.FinOn
import HandS.Comp
import HandS.AnyAll
import HandS.GenList
import HandS.EndTab
import HandS.ForMost
import HandS.IsInst
import HandS.TupAny
import HandS.Zip
import HandS.TupSets
import HandS.Deep
import HandS.DictTup
import HandS.List
import HandS.TupLen
import HandS.BoundList
import HandS.WideBits
import HandS.Walk
import HandS.RevRange
import KE.DataMinMax
import HandS.TupMul
import HandS.Conv
import HandS.SetFor
import HandS.Dict
import HandS.DictComp
import HandS.Iter
import KE.KDictWalk
import PyProof.AutoSeq1
import HandS.EndOwn
import PySem.Challenge.RW_templates_k35_whole_forks
set_option Elab.async false
set_option linter.all false
set_option maxRecDepth 100000
set_option maxHeartbeats 4000000
/-! all(test for x in walk), any(test for x in walk): the element any expression that raises nothing. -/
namespace GA
open PySem PySem.Spec PyProof.Rows L2

/-- woken again: all objects kept -/
structure Wok (s s' : Shared) : Prop where
  os : s'.os = s.os
  bare : AllBare s'.gens
  keep : ∀ b o, s.heap.get? b = some o → s'.heap.get? b = some o
/-- an item is handed out: true goes on, false ends (for all); the other way round for any -/
def YA (st : Bool) (R : Bool → Shared → Prop) (a g : Nat) : Protocol := fun _ _ v s kap =>
  s.heap.NoLimit ∧ AllBare s.gens ∧ s.heap.IsGen a g ∧ ∃ b : Bool, v = .bool b ∧ (b ≠ st → ∀ s', Wok s s' → kap (.send .none) s') ∧ (b = st → ∀ s', Wok s s' → R st s')
def RA (st : Bool) (R : Bool → Shared → Prop) : Nat → Shared → Shared → Prop := fun _ _ s => AllBare s.gens ∧ ∀ s', Wok s s' → R (!st) s'

section
variable {P : Program} {w : World} {A : Around} {R : Bool → Shared → Prop} {R' : Result → Shared → Prop} {a : Addr} {g : Nat}
theorem all_loop (hh : A.handled = none) (hd : A.depth < recursionLimit) (hR : ∀ b s, R b s → R' (.ok (.ret (.bool b))) s) :
    ∀ (m : Nat) (s : Shared), s.heap.IsGen a g → s.heap.NoLimit →
      (∃ gs, s.gens[g]? = some gs ∧ gs.Goes (model P w) A.in1.in1 (fun n s₀ r s₁ => r = .ok .next ∧ RA false R n s₀ s₁) (YA false R a g) m (.send .none) (s.setGen g .running)) →
      codeAny (model P w) A (.builtin "all.loop" ⟨[.ref a], []⟩) R' s := by
  intro m
  induction m with
  | zero =>
    intro s hg hl ⟨gs, hgs, hgo⟩
    refine codeAny_builtin F.entry_all_loop ?_
    rw [Around.under_plainId F.plain_all_loop _]
    show wpAny _ A.in1 (pyNext (.ref a) >>= _) _ _ s
    refine wpAny_bind (wpAny_pyNext_genexpQ (A := A.in1) hh hl hd hg hgs hgo (fun v s₁ gs' hb hv => ?_) fun s₁ hp h' hk => ?_)
    · obtain ⟨hl1, hb1, hg1, b, rfl, ht, hf⟩ := hv
      cases b with
      | true => exact (ht (by decide) s₁ ⟨rfl, hb1, fun _ _ e => e⟩).elim
      | false =>
        refine wpAny_bind (wpAny_holding (wpAny_truthy_bool ?_))
        refine wpAny_bind (wpAny_letGo ?_)
        simp only [Bool.false_eq_true, if_false]
        exact wpAny_bind (wpAny_rule (wpAny_pure (hR _ _ (hf rfl _ ⟨rfl, allBare_setGen hb1 hb, fun _ _ e => e⟩))))
    · obtain ⟨hb1, hq⟩ := hp
      exact wpAny_bind (wpAny_rule (wpAny_pure (hR _ _ (hq _ ⟨rfl, allBare_setGen (s := s₁) hb1 rfl, hk⟩))))
  | succ m ih =>
    intro s hg hl ⟨gs, hgs, hgo⟩
    have hgl : g < s.gens.size := (Array.getElem?_eq_some_iff.mp hgs).1
    refine codeAny_builtin F.entry_all_loop ?_
    rw [Around.under_plainId F.plain_all_loop _]
    show wpAny _ A.in1 (pyNext (.ref a) >>= _) _ _ s
    refine wpAny_bind (GenW.wpAny_gsz (n := g + 1) hgl (wpAny_pyNext_genexpQ (A := A.in1) hh hl hd hg hgs hgo (fun v s₁ gs' hb hv => ?_) fun s₁ hp h' hk => ?_))
    · intro hsz
      obtain ⟨hl1, hb1, hg1, b, rfl, ht, hf⟩ := hv
      refine wpAny_bind (wpAny_holding (wpAny_truthy_bool ?_))
      refine wpAny_bind (wpAny_letGo ?_)
      cases b with
      | true =>
        simp only [if_true]
        have hsz1 : g < s₁.gens.size := by
          have q : (s₁.setGen g gs').gens.size = s₁.gens.size := GenW.setGen_size _ _ _
          have hsz' : g + 1 ≤ (s₁.setGen g gs').gens.size := hsz
          omega
        refine wpAny_pure ⟨plainId_quiet F.plain_all_loop _, ih (s₁.setGen g gs') hg1 hl1 ⟨gs', setGen_at hsz1, ?_⟩⟩
        exact ht (by decide) _ ⟨rfl, allBare_setGen (s := s₁.setGen g gs') (allBare_setGen hb1 hb) rfl, fun _ _ e => e⟩
      | false =>
        simp only [Bool.false_eq_true, if_false]
        exact wpAny_bind (wpAny_rule (wpAny_pure (hR _ _ (hf rfl _ ⟨rfl, allBare_setGen hb1 hb, fun _ _ e => e⟩))))
    · intro hsz
      obtain ⟨hb1, hq⟩ := hp
      exact wpAny_bind (wpAny_rule (wpAny_pure (hR _ _ (hq _ ⟨rfl, allBare_setGen (s := s₁) hb1 rfl, hk⟩))))
theorem any_loop (hh : A.handled = none) (hd : A.depth < recursionLimit) (hR : ∀ b s, R b s → R' (.ok (.ret (.bool b))) s) :
    ∀ (m : Nat) (s : Shared), s.heap.IsGen a g → s.heap.NoLimit →
      (∃ gs, s.gens[g]? = some gs ∧ gs.Goes (model P w) A.in1.in1 (fun n s₀ r s₁ => r = .ok .next ∧ RA true R n s₀ s₁) (YA true R a g) m (.send .none) (s.setGen g .running)) →
      codeAny (model P w) A (.builtin "any.loop" ⟨[.ref a], []⟩) R' s := by
  intro m
  induction m with
  | zero =>
    intro s hg hl ⟨gs, hgs, hgo⟩
    refine codeAny_builtin F.entry_any_loop ?_
    rw [Around.under_plainId F.plain_any_loop _]
    show wpAny _ A.in1 (pyNext (.ref a) >>= _) _ _ s
    refine wpAny_bind (wpAny_pyNext_genexpQ (A := A.in1) hh hl hd hg hgs hgo (fun v s₁ gs' hb hv => ?_) fun s₁ hp h' hk => ?_)
    · obtain ⟨hl1, hb1, hg1, b, rfl, ht, hf⟩ := hv
      cases b with
      | false => exact (ht (by decide) s₁ ⟨rfl, hb1, fun _ _ e => e⟩).elim
      | true =>
        refine wpAny_bind (wpAny_holding (wpAny_truthy_bool ?_))
        refine wpAny_bind (wpAny_letGo ?_)
        simp only [if_true]
        exact wpAny_bind (wpAny_rule (wpAny_pure (hR _ _ (hf rfl _ ⟨rfl, allBare_setGen hb1 hb, fun _ _ e => e⟩))))
    · obtain ⟨hb1, hq⟩ := hp
      exact wpAny_bind (wpAny_rule (wpAny_pure (hR _ _ (hq _ ⟨rfl, allBare_setGen (s := s₁) hb1 rfl, hk⟩))))
  | succ m ih =>
    intro s hg hl ⟨gs, hgs, hgo⟩
    have hgl : g < s.gens.size := (Array.getElem?_eq_some_iff.mp hgs).1
    refine codeAny_builtin F.entry_any_loop ?_
    rw [Around.under_plainId F.plain_any_loop _]
    show wpAny _ A.in1 (pyNext (.ref a) >>= _) _ _ s
    refine wpAny_bind (GenW.wpAny_gsz (n := g + 1) hgl (wpAny_pyNext_genexpQ (A := A.in1) hh hl hd hg hgs hgo (fun v s₁ gs' hb hv => ?_) fun s₁ hp h' hk => ?_))
    · intro hsz
      obtain ⟨hl1, hb1, hg1, b, rfl, ht, hf⟩ := hv
      refine wpAny_bind (wpAny_holding (wpAny_truthy_bool ?_))
      refine wpAny_bind (wpAny_letGo ?_)
      cases b with
      | false =>
        simp only [Bool.false_eq_true, if_false]
        have hsz1 : g < s₁.gens.size := by
          have q : (s₁.setGen g gs').gens.size = s₁.gens.size := GenW.setGen_size _ _ _
          have hsz' : g + 1 ≤ (s₁.setGen g gs').gens.size := hsz
          omega
        refine wpAny_pure ⟨plainId_quiet F.plain_any_loop _, ih (s₁.setGen g gs') hg1 hl1 ⟨gs', setGen_at hsz1, ?_⟩⟩
        exact ht (by decide) _ ⟨rfl, allBare_setGen (s := s₁.setGen g gs') (allBare_setGen hb1 hb) rfl, fun _ _ e => e⟩
      | true =>
        simp only [if_true]
        exact wpAny_bind (wpAny_rule (wpAny_pure (hR _ _ (hf rfl _ ⟨rfl, allBare_setGen hb1 hb, fun _ _ e => e⟩))))
    · intro hsz
      obtain ⟨hb1, hq⟩ := hp
      exact wpAny_bind (wpAny_rule (wpAny_pure (hR _ _ (hq _ ⟨rfl, allBare_setGen (s := s₁) hb1 rfl, hk⟩))))
end

/-! ### the generator's own context -/
/-- a generator expression's names: its own, captured ones. M: the slots within: those of N (a name that it has itself is renamed there), then its own x -/
structure GNames (N M : List Str) (sc scope : Scope) (x : Str) : Prop where
  kind : scope.kind = .function
  co : scope.isCoroutine = false
  cell : ∀ y ∈ scope.names, y.2 ≠ .cell
  dot : scope.names.lookup (".0" : Str) = some NameKind.local
  loc : scope.names.lookup x = some .local
  len : M.length = N.length + 1
  last : M[N.length]? = some x
  nd : M.Nodup
  old : ∀ (i : Nat) y, i < N.length → M[i]? = some y → N[i]? = some y ∨ scope.names.lookup y = none
  own : ∀ y ∈ scope.names, y.2 = .local → y.1 = x ∨ y.1 ∉ M
  free : ∀ y ∈ scope.names, y.2 = .free → sc.names.lookup y.1 = some .cell ∨ sc.names.lookup y.1 = some .free
def gNamesB (N M : List Str) (sc scope : Scope) (x : Str) : Bool :=
  decide (scope.kind = .function) && !scope.isCoroutine && decide (scope.names.lookup (".0" : Str) = some NameKind.local) && decide (scope.names.lookup x = some NameKind.local) &&
  decide (M.length = N.length + 1) && decide (M[N.length]? = some x) && decide M.Nodup && ((List.range N.length).all fun i => decide (M[i]? = N[i]?) || (match M[i]? with | some y => decide (scope.names.lookup y = none) | none => true)) &&
  scope.names.all fun y => !decide (y.2 = .cell) && (!decide (y.2 = .local) || decide (y.1 = x) || !M.contains y.1) && (!decide (y.2 = .free) || decide (sc.names.lookup y.1 = some .cell) || decide (sc.names.lookup y.1 = some .free))
theorem gNames_by {N M : List Str} {sc scope : Scope} {x : Str} (h : gNamesB N M sc scope x = true) : GNames N M sc scope x := by
  unfold gNamesB at h
  simp only [Bool.and_eq_true, Bool.or_eq_true, Bool.not_eq_true', decide_eq_true_eq, decide_eq_false_iff_not, List.all_eq_true, List.contains_eq_mem, List.mem_range] at h
  obtain ⟨⟨⟨⟨⟨⟨⟨⟨h1, h2⟩, h3⟩, h4⟩, h5⟩, h7⟩, h8⟩, h9⟩, h6⟩ := h
  refine ⟨h1, h2, fun y hy => (h6 y hy).1.1, h3, h4, h5, h7, h8, fun i y hi e => ?_, fun y hy e => ?_, fun y hy e => ?_⟩
  · rcases h9 i hi with z | z
    · exact .inl (z ▸ e)
    · rw [e] at z
      exact .inr (of_decide_eq_true z)
  · rcases (h6 y hy).1.2 with (z | z) | z
    · exact absurd e z
    · exact .inl z
    · exact .inr z
  · rcases (h6 y hy).2 with (z | z) | z
    · exact absurd e z
    · exact .inl z
    · exact .inr z
abbrev gnv (X : Cx) (scope : Scope) (C : Addr) (code : Value) : Env := genEnv scope (cloFrom X.env.cells scope.names []) C code builtinsNs X.env
/-- the context of the element -/
def gcx (X : Cx) (A : Around) (s : Shared) (H : Hp) (env : Env) (M : List Str) (fp : List Addr) (pn : List (Addr × Obj)) : Cx :=
  { X with A := A, N := M, s_0 := s, H_0 := H, env := env, outer := X.stack, stack := env :: X.stack, ex := fp, fn := fun _ => false, calm := true, pn := pn, xe := fun _ _ => False }
section
variable {X : Cx} {pins : List (Addr × Obj)} {σ : L2.St} {H : Hp} {s : Shared}
theorem GNames.has {M : List Str} {scope : Scope} {x : Str} (L : GNames X.N M X.env.scope scope x) (ok : X.Ok) : ∀ y ∈ scope.names, y.2 = .free → ∃ c, X.env.cells.lookup y.1 = some c := fun y hy e => by
  rcases L.free y hy e with k | k
  · exact ok.has _ (.inl k)
  · exact ok.has _ (.inr k)
theorem gstart {A : Around} {M : List Str} {scope : Scope} {x : Str} {code itv : Value} {fp : List Addr} {pn : List (Addr × Obj)} {h5 : Heap} {g5 : Array GenState} {t5 : Nat} (I : Inv X pins σ H s) (L : GNames X.N M X.env.scope scope x) (hd : A.handled = none)
    (hfr : A.frames = some (gnv X scope s.heap.objs.size code :: X.stack)) (hfp : ∀ b ∈ fp, FpOk X pins H b ∧ b < s.heap.objs.size) (kp : ∀ b o, s.heap.get? b = some o → h5.get? b = some o)
    (hns : h5.Ns s.heap.objs.size (fun y => if y = ".0" then some itv else none)) (hb : AllBare g5) (hpn : ∀ p ∈ pn, h5.get? p.1 = some p.2 ∧ H p.1 = none ∧ p.1 ≠ s.heap.objs.size ∧ p.1 ∉ frs X.stack ∧ ∀ v, p.2.data ≠ .cell v) :
    Inv (gcx X A s H (gnv X scope s.heap.objs.size code) M fp pn) [] (σ ++ [none]) H { s with heap := h5, gens := g5, toks := t5 } := by
  have hfree := L.has I.ok
  have cm : ∀ {y c}, (cloFrom X.env.cells scope.names []).lookup y = some c → X.env.cells.lookup y = some c := fun {y c} e => by
    rcases cloFrom_mem (PySem.mem_of_lookup e) with hm | ⟨h1, h2⟩
    · cases hm
    · obtain ⟨c1, hc⟩ := hfree _ h1 rfl
      have hc : X.env.cells.lookup y = some c1 := hc
      have e2 : c = c1 := by
        rw [h2, hc] <;> rfl
      rw [e2]
      exact hc
  have look : ∀ {y}, scope.names.lookup y = some .free → ∃ c, (cloFrom X.env.cells scope.names []).lookup y = some c := fun {y} hl => by
    have hy : (y, NameKind.free) ∈ scope.names := PySem.mem_of_lookup hl
    exact mem_lookup (cloFrom_has (cells := X.env.cells) (acc := []) hy)
  have ltC : ∀ {y c}, X.env.cells.lookup y = some c → c < s.heap.objs.size := fun {y c} e => let ⟨_, z⟩ := I.cell y c e; z.lt
  refine ⟨⟨I.ok.mod, L.kind, I.ok.glob, rfl, Nat.le_refl _, fun y z c e1 e2 => I.ok.inj y z c (cm e1) (cm e2), fun y hy => ?_, fun y c z _ => ?_, fun _ => hd, hfr, .inr ⟨rfl, rfl⟩, fun b hb => ⟨?_, fun y c e z => ?_⟩, I.bs, Nat.le_trans I.ok.bsz I.sz, fun b o e hb => ?_, fun b hb z => ?_, I.stack, I.stkFree⟩,
    rfl, hb, Un.kept kp, ⟨_, hns, fun i y v e1 e2 e3 => ?_⟩, fun y c e => ?_, I.hok.fresh (Nat.le_refl _), fun y c e => I.freeC y c (cm e), fun p hp => ?_, I.hok.kept kp, ?_⟩
  · have hy : scope.names.lookup y = some .cell ∨ scope.names.lookup y = some .free := hy
    rcases hy with hy | hy
    · exact absurd rfl (L.cell _ (PySem.mem_of_lookup hy))
    · exact look hy
  · have z : false = true := z
    cases z
  · exact Nat.ne_of_lt (hfp b hb).2
  · exact (hfp b hb).1.2.2.2.2.1 y c (cm e) z
  · rcases (hfp b hb).1.2.2.2.1 with z | z
    · exact I.ok.noex b o e z
    · exact absurd (Nat.lt_of_lt_of_le (Heap.lt_size e) (Nat.le_trans I.ok.bsz z)) (Nat.lt_irrefl _)
  · rcases List.mem_cons.mp (I.stkSub b z) with z | z
    · exact (hfp b hb).1.2.1 z
    · exact (hfp b hb).1.2.2.1 z
  · have e2 : (σ ++ [none])[i]? = some (some v) := e2
    have e1 : M[i]? = some y := e1
    have hi : i < σ.length := by
      by_cases hi : i < σ.length
      · exact hi
      · rw [List.getElem?_append_right (by omega)] at e2
        cases q : i - σ.length with
        | zero => rw [q] at e2; cases e2
        | succ n => rw [q] at e2; cases e2
    rw [List.getElem?_append_left hi] at e2
    have e3 : Vis scope y := e3
    have hiN : i < X.N.length := by rw [← I.len]; exact hi
    have hfree : scope.names.lookup y = some .free := by
      rcases e3 with k | k | k
      · rcases L.own _ (PySem.mem_of_lookup k) rfl with z | z
        · have z : y = x := z
          subst z
          exact absurd (nodup_ix L.nd e1 L.last) (Nat.ne_of_lt hiN)
        · exact absurd (List.mem_of_getElem? e1) z
      · exact absurd rfl (L.cell _ (PySem.mem_of_lookup k))
      · exact k
    have e1 : X.N[i]? = some y := (L.old i y hiN e1).elim id fun z => by rw [z] at hfree; cases hfree
    obtain ⟨m, hn, hl⟩ := I.loc
    have hvis : Vis X.env.scope y := (L.free _ (PySem.mem_of_lookup hfree) rfl).elim (fun k => .inr (.inl k)) (fun k => .inr (.inr k))
    obtain ⟨w', r, q⟩ := hl i y v e1 e2 hvis
    obtain ⟨c2, h2⟩ := look hfree
    refine ⟨w', r, .inr ⟨.inr hfree, c2, h2, ?_⟩⟩
    have c1 := cm h2
    rcases q with ⟨k', _⟩ | ⟨_, c3, e', z⟩
    · have k' : X.env.scope.names.lookup y = some .local := k'
      rcases L.free _ (PySem.mem_of_lookup hfree) rfl with k2 | k2 <;> rw [show X.env.scope.names.lookup y = _ from k2] at k' <;> cases k'
    · rw [c1] at e'
      cases e'
      exact z.keeps kp
  · obtain ⟨w', z⟩ := I.cell y c (cm e)
    exact ⟨w', z.keeps kp⟩
  · rcases List.mem_append.mp hp with hp | hp
    · exact hpn p hp
    · cases hp
  · show (σ ++ [none]).length = M.length
    rw [List.length_append, I.len, L.len]
    rfl

theorem Inv.wok {s' : Shared} (I : Inv X pins σ H s) (h : Wok s s') : Inv X pins σ H s' :=
  I.call' (ch := []) h.os (Un.kept h.keep) (I.hok.kept h.keep) h.bare fun b z => by simp at z
end

/-! ### the loop -/
/-- what is asked of the walk and of the element: st: the answer that ends it (false for all, true for any) -/
structure Asks (st : Bool) (J : It) (n : Nat) (telt : TE) (σ : L2.St) (W : Nat → Hp → Prop) (Qb : Bool → Hp → Prop) : Prop where
  turn : ∀ i H, i < n → W i H → J.go i H ∧ ∀ x H', J.yld i H x H' → telt (σ ++ [some x]) H' fun v H'' => ∃ b, v = .bl b ∧ (b ≠ st → W (i + 1) H'') ∧ (b = st → Qb st H'')
  stop : ∀ H, W n H → J.stop n H ∧ Qb (!st) H
theorem seg_loop {X : Cx} {A : Around} {sz : Shared} {Hz : Hp} {code : Value} {M : List Str} {scope : Scope} {x : Str} {px : Pos} {fp : List Addr} {pn : List (Addr × Obj)} {a g : Addr} {it : Addr} {tn : Nat → Heap → Prop} {J : It} {elt iter : Expr} {gpos : Pos} {telt : TE} {σ : L2.St}
    {W : Nat → Hp → Prop} {R : Bool → Shared → Prop} {QH : Bool → Hp → Prop} {st : Bool} {n : Nat} (L : GNames X.N M X.env.scope scope x) (hσ : σ.length = X.N.length) (hh : A.handled = none)
    (T : Turn X.prog X.w X.K (.Name x px) J fp it tn) (hpf : ∀ p ∈ pn, p.1 ∉ fp) (hgen : ∃ go, (a, go) ∈ pn ∧ ∀ h : Heap, h.get? a = some go → h.IsGen a g)
    (he : PE (gcx X (A.over (.compLoop (.GeneratorExp elt [⟨.Name x px, iter, [], 0⟩] scope gpos) 0 (.ref it) .none (gnv X scope sz.heap.objs.size code)) []) sz Hz (gnv X scope sz.heap.objs.size code) M fp pn) elt telt)
    (hq : Asks st J n telt σ W QH)
    (hR : ∀ b σ' H s s', Inv (gcx X (A.over (.compLoop (.GeneratorExp elt [⟨.Name x px, iter, [], 0⟩] scope gpos) 0 (.ref it) .none (gnv X scope sz.heap.objs.size code)) []) sz Hz (gnv X scope sz.heap.objs.size code) M fp pn) [] σ' H s → QH b H → Wok s s' → R b s') :
    ∀ (k i : Nat) (s₀ s : Shared) (y : Option V) (H : Hp), n - i = k → i ≤ n → Inv (gcx X (A.over (.compLoop (.GeneratorExp elt [⟨.Name x px, iter, [], 0⟩] scope gpos) 0 (.ref it) .none (gnv X scope sz.heap.objs.size code)) []) sz Hz (gnv X scope sz.heap.objs.size code) M fp pn) [] (σ ++ [y]) H s →
      tn i s.heap → (∀ b ∈ fp, H b = none) → W i H →
      Seg (model X.prog X.w) A (fun n s₀ r s₁ => r = .ok .next ∧ RA st R n s₀ s₁) (YA st R a g) k s₀
        (.compLoop (.GeneratorExp elt [⟨.Name x px, iter, [], 0⟩] scope gpos) 0 (.ref it) .none (gnv X scope sz.heap.objs.size code))
        ((model X.prog X.w).den (.compLoop (.GeneratorExp elt [⟨.Name x px, iter, [], 0⟩] scope gpos) 0 (.ref it) .none (gnv X scope sz.heap.objs.size code))) [] s := by
  generalize hcode : (Code.compLoop (.GeneratorExp elt [⟨.Name x px, iter, [], 0⟩] scope gpos) 0 (.ref it) .none (gnv X scope sz.heap.objs.size code)) = cd at *
  generalize hG : gcx X (A.over cd []) sz Hz (gnv X scope sz.heap.objs.size code) M fp pn = G at *
  have gp : G.prog = X.prog := by rw [← hG]; rfl
  have gw : G.w = X.w := by rw [← hG]; rfl
  have gK : G.K = X.K := by rw [← hG]; rfl
  have gA : G.A = A.over cd [] := by rw [← hG]; rfl
  have gc : G.calm = true := by rw [← hG]; rfl
  have gN : G.N = M := by rw [← hG]; rfl
  have gE : G.env = gnv X scope sz.heap.objs.size code := by rw [← hG]; rfl
  have gex : G.ex = fp := by rw [← hG]; rfl
  have gpn : G.pn = pn := by rw [← hG]; rfl
  have gxe : ∀ e s, ¬ G.xe e s := by rw [← hG]; exact fun _ _ h => h
  have stat : ∀ {s : Shared} {σ' : L2.St} {H : Hp}, Inv G [] σ' H s → (∀ b ∈ fp, H b = none) → ∀ b ∈ fp, FpOk G [] H b := fun {s σ' H} I hn b hb => by
    have hb' : b ∈ G.ex := by rw [gex]; exact hb
    refine ⟨hn b hb, (I.ok.exf b hb').1, I.ok.exfs b hb', .inl hb', (I.ok.exf b hb').2, fun p hp z => ?_⟩
    rcases List.mem_append.mp hp with hp | hp
    · rw [gpn] at hp
      exact hpf p hp (by rw [z]; exact hb)
    · cases hp
  have isg : ∀ {s : Shared} {σ' : L2.St} {H : Hp} {pl : List (Addr × Obj)}, Inv G pl σ' H s → s.heap.IsGen a g := fun {s σ' H pl} I => by
    obtain ⟨go, hm, hh⟩ := hgen
    exact hh _ (I.pin (a, go) (List.mem_append_left _ (by rw [gpn]; exact hm))).1
  intro k
  induction k with
  | zero =>
    intro i s₀ s y H hk hi I ht hf hw
    have hin : i = n := by omega
    subst hin
    obtain ⟨hstop, hq1⟩ := hq.stop H hw
    subst hcode
    show Seg _ A _ _ _ s₀ _ ((compTurn (.GeneratorExp elt [⟨.Name x px, iter, [], 0⟩] scope gpos) 0 (.ref it) .none (gnv X scope sz.heap.objs.size code)).onRaise (leaving (gnv X scope sz.heap.objs.size code))) [] s
    rw [compTurn_gen, Sem.onRaise_eq_wrap]
    refine seg_bind_wrap (wpAny_standAt ?_)
    have hd := T.done G gp gw gK gc i [] s (σ ++ [y]) H (fun _ _ => False) I (stat I hf) ht hstop
    rw [gA] at hd
    refine seg_bind_wrap (wpAny_mono hd (fun r s1 ⟨hr, I1⟩ => ?_) fun _ _ z => z.elim)
    subst hr
    exact seg_end (.ok .next) ⟨rfl, I1.bare, fun s' hs' => hR _ _ _ _ _ I1 hq1 hs'⟩
  | succ k ih =>
    intro i s₀ s y H hk hi I ht hf hw
    have hlt : i < n := by omega
    obtain ⟨hgo, hturn⟩ := hq.turn i H hlt hw
    have hcode' := hcode
    subst hcode
    show Seg _ A _ _ _ s₀ _ ((compTurn (.GeneratorExp elt [⟨.Name x px, iter, [], 0⟩] scope gpos) 0 (.ref it) .none (gnv X scope sz.heap.objs.size code)).onRaise (leaving (gnv X scope sz.heap.objs.size code))) [] s
    rw [compTurn_gen, Sem.onRaise_eq_wrap]
    refine seg_bind_wrap (wpAny_standAt ?_)
    have hd := T.item G gp gw gK gc i [] s (σ ++ [y]) H (fun _ _ => False) I (stat I hf) ht hgo
    rw [gA] at hd
    refine seg_bind_wrap (wpAny_mono hd (fun r s1 ⟨u, hr, hlet⟩ => ?_) fun _ _ z => z.elim)
    subst hr
    refine seg_bind_wrap (wpAny_mono hlet (fun _ s2 ⟨x1, H2, I2, rv, hy, ht2, hf2⟩ => ?_) fun _ _ z => z.elim)
    have hix : G.N[X.N.length]? = some x := by rw [gN]; exact L.last
    have hnd : G.N.Nodup := by rw [gN]; exact L.nd
    have hlc : G.env.scope.names.lookup x = some .local := by rw [gE]; exact L.loc
    have hst := store_ok2 (M := model X.prog X.w) (A := A.over (.compLoop (.GeneratorExp elt [⟨.Name x px, iter, [], 0⟩] scope gpos) 0 (.ref it) .none (gnv X scope sz.heap.objs.size code)) []) (E := fun _ _ => False) (Q := fun _ s3 => ∃ H2', H2' = H2 ∧ Inv G [] ((σ ++ [y]).set X.N.length (some x1)) H2' s3 ∧ tn (i + 1) s3.heap) I2 hnd hix (.inl hlc) rv (fun s3 I3 hsb => by
      obtain ⟨b, hb, hbe⟩ := hsb
      refine ⟨H2, rfl, I3, T.keep _ _ _ ht2 fun c hc o e => (hb.2 c fun z => ?_).trans e⟩
      rcases hbe with q | q
      · exact (stat I2 hf2 c hc).2.1 (z.trans q)
      · exact (stat I2 hf2 c hc).2.2.2.2.1 x b q z.symm) (.inr hlc)
    rw [gE] at hst
    refine seg_bind_wrap (wpAny_assign_Name (wpAny_mono hst (fun _ s3 ⟨H3, e3, I3, ht3⟩ => ?_) fun _ _ z => z.elim))
    subst e3
    have hset : (σ ++ [y]).set X.N.length (some x1) = σ ++ [some x1] := by
      rw [← hσ, List.set_append_right _ _ (Nat.le_refl _), Nat.sub_self]
      rfl
    rw [hset] at I3
    simp only [List.forIn_nil]
    refine seg_bind_wrap (wpAny_pure ?_)
    simp only [if_true]
    have hyo : ∀ v, yieldOut (gnv X scope sz.heap.objs.size code) v = yieldValue v := fun v => by
      have hco : (gnv X scope sz.heap.objs.size code).scope.isCoroutine = false := L.co
      simp only [yieldOut, hco, Bool.false_eq_true, if_false]
    simp only [hyo]
    rw [Sem.bind_eq_wrap', Sem.bind_eq_wrap', Sem.wrap_wrap, Sem.wrap_wrap]
    have I3' := I3.pinned (stat I3 hf2) (T.obj _ _ ht3)
    have hrun := he.run _ s3 (σ ++ [some x1]) H3 _ I3' (hturn x1 H3 hy)
    rw [gA, gE, gp, gw] at hrun
    refine seg_wrap (wpAny_mono hrun (fun u4 s4 h4 => ?_) fun e s4 z => (gxe e s4 z).elim)
    obtain ⟨v4, H4, I4, r4, b, rfl, hgo4, hst4⟩ := h4
    have e4 : u4 = .bool b := r4
    subst e4
    have keep4 : ∀ c ∈ fp, ∀ o, s3.heap.get? c = some o → s4.heap.get? c = some o ∧ H4 c = none := fun c hc o e => by
      obtain ⟨q1, q2, _⟩ := I4.pin (c, o) (List.mem_append_right _ (List.mem_append_right _ (mem_pinsAt hc e)))
      exact ⟨q1, q2⟩
    have ht4 : tn (i + 1) s4.heap := T.keep _ _ _ ht3 fun c hc o e => (keep4 c hc o e).1
    have hf4 : ∀ c ∈ fp, H4 c = none := fun c hc => by
      obtain ⟨o, e, _⟩ := T.obj _ _ ht3 c hc
      exact (keep4 c hc o e).2
    refine seg_at (seg_yield rfl rfl rfl ⟨I4.nolimit, I4.bare, isg I4, b, rfl, fun hb s'' hw => ?_, fun hb s'' hw => ?_⟩)
    · refine seg_again rfl (ih (i + 1) s'' s'' (some x1) H4 (by omega) hlt (Inv.wok I4.unpinned hw) (T.keep _ _ _ ht4 fun c _ o e => hw.keep c o e) hf4 (hgo4 hb))
    · exact hR _ _ _ _ _ I4.unpinned (hst4 hb) hw

/-! ### the making -/
def Made (X : Cx) (pins : List (Addr × Obj)) (σ : L2.St) (k : Nat) (st : Bool) (Q : VK) (u : Value) (s5 : Shared) : Prop :=
  ∃ (a g : Addr) (n : Nat) (c : Code), u = .ref a ∧ s5.heap.IsGen a g ∧ s5.heap.NoLimit ∧ s5.gens[g]? = some (.fresh c) ∧
    ∀ A : Around, Room k A → A.frames = some X.stack → Seg (model X.prog X.w) A (fun n s₀ r s₁ => r = .ok .next ∧ RA st (fun b s' => ∃ H', Inv X pins σ H' s' ∧ Q (.bl b) H') n s₀ s₁)
      (YA st (fun b s' => ∃ H', Inv X pins σ H' s' ∧ Q (.bl b) H') a g) n (s5.setGen g .running) c ((model X.prog X.w).den c) [] (s5.setGen g .running)
theorem room_gen {k : Nat} {A : Around} {e : Expr} {it v : Value} {env : Env} (h : Room (k + 1) A) (hw : (Code.compLoop e 0 it v env).weight = 1 := by rfl) (hu : (Code.compLoop e 0 it v env).cUnits ≤ 3 := by exact Nat.le_of_eq rfl) : Room k (A.over (.compLoop e 0 it v env) []) := by
  refine ⟨h.hd, ?_, ?_⟩
  · have := h.dp
    show A.depth + frameCount [] + (Code.compLoop e 0 it v env).weight + 3 * k + 5 < _
    have e0 : frameCount [] = 0 := rfl
    omega
  · have := h.un
    show A.units + unitsOf [] + (Code.compLoop e 0 it v env).cUnits + 16 * k + 200 < _
    have e0 : unitsOf [] = 0 := rfl
    omega
/-- the reading: the walk; the table at P may have grown; then what the walk and the element are asked -/
def tGen (st : Bool) (P : Addr) (wi : TI) (telt : TE) : TE := fun σ H Q => wi σ H fun J H1 => GxR.TabG H1 P ∧ ∀ H2, GxR.Tabbed P H1 H2 → ∃ (n : Nat) (W : Nat → Hp → Prop), W 0 H2 ∧ Asks st J n telt σ W fun b H' => Q (.bl b) H'
section
variable {X : Cx} {pins : List (Addr × Obj)} {σ : L2.St} {H : Hp} {s : Shared}
theorem gen_made {c P : Addr} {elt iter : Expr} {x : Str} {M : List Str} {px gpos : Pos} {scope : Scope} {wi : TI} {telt : TE} {k : Nat} {st : Bool} {Q : VK} (hr : Room (k + 1) X.A) (TB : LamX.TabB X.base X.mg c P) (hcode : X.env.code = .ref c) (L : GNames X.N M X.env.scope scope x)
    (hi : PI X (.Name x px) iter wi) (hs : ∀ v, genFold iter X.env v = pure v) (he : ∀ (A : Around) (sz : Shared) (Hz : Hp) (C : Addr) (code : Value) (fp : List Addr) (pn : List (Addr × Obj)), Room k A → PE (gcx X A sz Hz (gnv X scope C code) M fp pn) elt telt)
    (I : Inv X pins σ H s) (h : tGen st P wi telt σ H Q) :
    wpAny (model X.prog X.w) X.A (eval (.GeneratorExp elt [⟨.Name x px, iter, [], 0⟩] scope gpos) X.env) (Made X pins σ (k + 1) st Q) X.xe s := by
  refine wpAny_GeneratorExp_make L.co (closure_ok (L.has I.ok)) L.cell L.dot L.kind hr.depth ?_ hs
  refine wpAny_mono (hi.run pins s σ H _ I h) (fun xv s1 h1 => wpAny_mono h1 (fun itv s2 h2 => ?_) fun _ _ z => z) fun _ _ z => z
  obtain ⟨it, fp, tn, J, H1, rfl, I2, T, ht, hf, ⟨ps, hP, htr⟩, hA⟩ := h2
  have hPs : s2.heap.get? P = some { cls := .none, data := .fields ps } := I2.hok P _ hP
  have hPlt : P < s2.heap.objs.size := Heap.lt_size hPs
  have cd : PySem.W.CodeHd s2.heap c P := TB.code.keeps fun b u e => I2.bk b u e
  refine ⟨I2.nolimit, ?_⟩
  have nt : ∀ b u, H1 b = some u → (∀ q, u ≠ .tbl q) → b ≠ P := fun b u e q z => by
    rw [z, hP] at e
    exact q ps (Option.some.inj e).symm
  have fpP : ∀ b ∈ fp, b ≠ P := fun b hb z => by
    have q := (hf b hb).1
    rw [z, hP] at q
    cases q
  have cont : ∀ (code : Value) (h3 : Heap) (tk : Nat) (ps' : Array Value), Heap.ExtBut P s2.heap h3 → s2.heap.objs.size ≤ h3.objs.size → h3.get? P = some { cls := .none, data := .fields ps' } → (∃ more, ps' = ps ++ more) → TriplesOk ps'.toList →
      wpAny (model X.prog X.w) X.A (builtinsFor X.env.globals X.env.builtins) (fun bi s₄ =>
        ∀ h', h'.Ns s₄.heap.objs.size (fun y => if y = ".0" then some (Value.ref it) else none) → Heap.SameBut s₄.heap.objs.size (s₄.heap.push { cls := .type "frame", data := .dict #[] }) h' →
          Made X pins σ (k + 1) st Q (.ref h'.objs.size) { s₄ with
            gens := s₄.gens.push (.fresh (.compStart (.GeneratorExp elt [⟨.Name x px, iter, [], 0⟩] scope gpos) 0 (.ref it) .none (genEnv scope (cloFrom X.env.cells scope.names []) s₄.heap.objs.size code bi X.env))),
            toks := s₄.toks + 1 + 1 + 1,
            heap := h'.push { cls := .type "generator", data := .fields #[.int s₄.gens.size 0, .str "<genexpr>" (s₄.toks + 1), .str (X.env.qual ++ "<genexpr>") (s₄.toks + 1 + 1)] } }) X.xe { s2 with heap := h3, toks := tk } := by
    intro code h3 tk ps' hx hsz hP3 hmore ht3
    obtain ⟨bm, ob, e1, e2, e3, e4, e5, e6, e7, e8⟩ := TB.bm
    have keep3 : ∀ b u, b ≠ P → s2.heap.get? b = some u → h3.get? b = some u := fun b u hb e => hx b u hb e
    refine wpAny_builtinsFor (m := X.mg) (by rw [I2.ok.glob]; exact (I2.mod.glob.keeps I2.bk).extBut hx TB.gP) e1 e2 (keep3 _ _ e4 (I2.bk _ _ e5)) e6 e7 e8 ?_
    obtain ⟨more, em⟩ := hmore
    have I4 : Inv X pins σ (upd H1 P (.tbl (ps ++ more))) { s2 with heap := h3, toks := tk } :=
      GxR.inv_tab (g' := s2.gens) (d' := s2.drawn) I2 hP keep3 (by rw [← em]; exact hP3) I2.bare
    have tb4 : GxR.Tabbed P H1 (upd H1 P (.tbl (ps ++ more))) := ⟨⟨ps ++ more, upd_same, by rw [← em]; exact ht3⟩, fun b hb => upd_ne hb⟩
    have hf4 : ∀ b ∈ fp, FpOk X pins (upd H1 P (.tbl (ps ++ more))) b ∧ b < h3.objs.size := fun b hb => by
      refine ⟨⟨by rw [upd_ne (fpP b hb)]; exact (hf b hb).1, (hf b hb).2⟩, ?_⟩
      obtain ⟨o, e, _⟩ := T.obj _ _ ht b hb
      exact Heap.lt_size (keep3 b o (fpP b hb) e)
    have ht4 : tn 0 h3 := T.keep _ _ _ ht fun b hb o e => keep3 b o (fpP b hb) e
    intro h' hns hsb
    obtain ⟨n, W, hW, hasks⟩ := hA _ tb4
    have sz' : h'.objs.size = h3.objs.size + 1 := by rw [hsb.1, Heap.size_push]
    have keep' : ∀ b o, h3.get? b = some o → h'.get? b = some o := fun b o e => hsb.extBut b o (Nat.ne_of_lt (Heap.lt_size e)) (Heap.get?_push_of_some _ e)
    have keep5 : ∀ b o, h3.get? b = some o → (h'.push { cls := .type "generator", data := .fields #[.int s2.gens.size 0, .str "<genexpr>" (tk + 1), .str (X.env.qual ++ "<genexpr>") (tk + 1 + 1)] }).get? b = some o := fun b o e => Heap.get?_push_of_some _ (keep' b o e)
    have hgo : (h'.push { cls := .type "generator", data := .fields #[.int s2.gens.size 0, .str "<genexpr>" (tk + 1), .str (X.env.qual ++ "<genexpr>") (tk + 1 + 1)] }).get? h'.objs.size = some { cls := .type "generator", data := .fields #[.int s2.gens.size 0, .str "<genexpr>" (tk + 1), .str (X.env.qual ++ "<genexpr>") (tk + 1 + 1)] } := Heap.get?_push_size _ rfl
    refine ⟨h'.objs.size, s2.gens.size, n, _, rfl, ⟨_, _, _, hgo, rfl, rfl, rfl⟩, I4.nolimit.keeps keep5, Array.getElem?_push_size .., fun A hrA hfr => ?_⟩
    have hh := hrA.hd
    have hfp0 : ∀ b ∈ fp, (upd H1 P (.tbl (ps ++ more))) b = none := fun b hb => (hf4 b hb).1.1
    -- the state in which the generator is woken
    have Ist : Inv (gcx X (A.over (.compLoop (.GeneratorExp elt [⟨.Name x px, iter, [], 0⟩] scope gpos) 0 (.ref it) .none (gnv X scope h3.objs.size code)) []) { s2 with heap := h3, toks := tk } (upd H1 P (.tbl (ps ++ more))) (gnv X scope h3.objs.size code) M fp
        [(h'.objs.size, { cls := .type "generator", data := .fields #[.int s2.gens.size 0, .str "<genexpr>" (tk + 1), .str (X.env.qual ++ "<genexpr>") (tk + 1 + 1)] })]) [] (σ ++ [none]) (upd H1 P (.tbl (ps ++ more)))
        (Shared.setGen { s2 with gens := s2.gens.push (.fresh (.compStart (.GeneratorExp elt [⟨.Name x px, iter, [], 0⟩] scope gpos) 0 (.ref it) .none (gnv X scope h3.objs.size code))), toks := tk + 1 + 1 + 1, heap := h'.push { cls := .type "generator", data := .fields #[.int s2.gens.size 0, .str "<genexpr>" (tk + 1), .str (X.env.qual ++ "<genexpr>") (tk + 1 + 1)] } } s2.gens.size .running) := by
      refine gstart (itv := .ref it) I4 L hh ?_ hf4 keep5 (hns.push _) (allBare_setGen (I2.bare.push rfl) rfl) fun p hp => ?_
      · show pushEnvs [gnv X scope h3.objs.size code] (pushEnvs (envsOf []) A.frames) = _
        rw [hfr]
        rfl
      · rw [List.mem_singleton.mp hp]
        refine ⟨hgo, ?_, ?_, ?_, fun v q => by cases q⟩
        · exact I4.hok.fresh (show h3.objs.size ≤ h'.objs.size by rw [sz']; exact Nat.le_succ _)
        · show h'.objs.size ≠ h3.objs.size
          rw [sz']
          exact Nat.succ_ne_self _
        · intro z
          have hle : h3.objs.size ≤ h'.objs.size := by rw [sz']; exact Nat.le_succ _
          rcases List.mem_cons.mp (I4.stkSub _ z) with q | q
          · have := I4.lt
            have q' : h'.objs.size = X.env.locals := q
            have this' : X.env.locals < h3.objs.size := this
            rw [q'] at hle
            exact absurd this' (Nat.not_lt.mpr hle)
          · exact I4.nofs hle q
    have loop := seg_loop (X := X) (M := M) (A := A) (st := st) (R := fun b s' => ∃ H', Inv X pins σ H' s' ∧ Q (.bl b) H') (a := h'.objs.size) (g := s2.gens.size) L I2.len hh T
      (pn := [(h'.objs.size, { cls := .type "generator", data := .fields #[.int s2.gens.size 0, .str "<genexpr>" (tk + 1), .str (X.env.qual ++ "<genexpr>") (tk + 1 + 1)] })])
      (fun p hp hm => by
        rw [List.mem_singleton.mp hp] at hm
        have := (hf4 _ hm).2
        have h9 : h'.objs.size < h3.objs.size := this
        omega)
      ⟨_, List.mem_singleton.mpr rfl, fun h e => ⟨_, _, _, e, rfl, rfl, rfl⟩⟩
      (he (A.over (.compLoop (.GeneratorExp elt [⟨.Name x px, iter, [], 0⟩] scope gpos) 0 (.ref it) .none (gnv X scope h3.objs.size code)) []) { s2 with heap := h3, toks := tk } (upd H1 P (.tbl (ps ++ more))) h3.objs.size code fp _ (room_gen hrA)) hasks
      (fun b σ' H' s s' Ig hq hw => by
        refine ⟨H', I4.call' (ch := fp) (hw.os.trans Ig.os) (Ig.base.trans (Un.kept hw.keep)) (Ig.hok.kept hw.keep) hw.bare fun b hb => ?_, hq⟩
        obtain ⟨_, f1, f2, f3, f4, f5⟩ := (hf4 b hb).1
        exact ⟨f3, f1, f4, f5⟩)
      n 0 (Shared.setGen { s2 with gens := s2.gens.push (.fresh (.compStart (.GeneratorExp elt [⟨.Name x px, iter, [], 0⟩] scope gpos) 0 (.ref it) .none (gnv X scope h3.objs.size code))), toks := tk + 1 + 1 + 1, heap := h'.push { cls := .type "generator", data := .fields #[.int s2.gens.size 0, .str "<genexpr>" (tk + 1), .str (X.env.qual ++ "<genexpr>") (tk + 1 + 1)] } } s2.gens.size .running)
      _ none _ (Nat.sub_zero _) (Nat.zero_le _) Ist (T.keep _ _ _ ht4 fun b _ o e => keep5 b o e) hfp0 hW
    show Seg _ A _ _ _ _ _ ((compStart (.GeneratorExp elt [⟨.Name x px, iter, [], 0⟩] scope gpos) 0 (.ref it) .none (gnv X scope h3.objs.size code)).onRaise (leaving (gnv X scope h3.objs.size code))) [] _
    unfold compStart
    rw [Sem.onRaise_eq_wrap]
    show Seg _ A _ _ _ _ _ ((ask >>= _).wrap _ _ _ _) [] _
    have ht5 : tn 0 (h'.push { cls := .type "generator", data := .fields #[.int s2.gens.size 0, .str "<genexpr>" (tk + 1), .str (X.env.qual ++ "<genexpr>") (tk + 1 + 1)] }) := T.keep _ _ _ ht4 fun b _ o e => keep5 b o e
    refine seg_bind_wrap (wpAny_askSetting ?_)
    split
    · exact seg_again rfl loop
    · first
        | exact seg_bind_wrap (wpAny_rule (seg_bind_wrap (wpAny_standAt (seg_bind_wrap (T.self _ 0 _ _ _ ht5 (seg_again rfl loop))))))
        | (refine seg_bind_wrap (wpAny_rule ?_); show Seg _ _ _ _ _ _ _ ((standAt iter.pos >>= _).wrap _ _ _ _) [] _; exact seg_bind_wrap (wpAny_standAt (seg_bind_wrap (T.self _ 0 _ _ _ ht5 (seg_again rfl loop)))))
  cases hfnd : codeAmong gpos ps.toList with
  | none =>
    refine wpAny_genexprCodeX hcode (cd.code hPs htr) (cd.tab hPs) hfnd fun c' h' tk hx hge hlt hco' _ htab' _ => ?_
    obtain ⟨o1, vs, f1, tf, fl, tg, inF, tx, tt, op, _, _, _, _, _, _, _, _, _, htr', _⟩ := hco'
    exact cont _ h' tk _ hx (Nat.le_trans hge (Nat.le_of_lt hlt)) htab'.2 ⟨_, rfl⟩ htr'
  | some cv =>
    refine wpAny_genexprCode_hit hcode (cd.code hPs htr) hfnd ?_
    exact cont cv s2.heap s2.toks ps (Heap.ExtBut.refl _ _) (Nat.le_refl _) hPs ⟨#[], by simp⟩ htr
theorem pe_all {c P : Addr} {elt iter : Expr} {x : Str} {M : List Str} {px p pos gpos : Pos} {scope : Scope} {wi : TI} {telt : TE} {k : Nat} (hr : Room (k + 2) X.A) (hg : Gl X "all") (hm : X.mg "all" = none) (TB : LamX.TabB X.base X.mg c P) (hcode : X.env.code = .ref c) (L : GNames X.N M X.env.scope scope x)
    (hi : PI X (.Name x px) iter wi) (he : ∀ (A : Around) (sz : Shared) (Hz : Hp) (C : Addr) (code : Value) (fp : List Addr) (pn : List (Addr × Obj)), Room k A → PE (gcx X A sz Hz (gnv X scope C code) M fp pn) elt telt)
    (hs : ∀ v, genFold iter X.env v = pure v := by intro _; rfl) (hb : bootBuiltins "all" = some (.builtin "all") := by decide +kernel)
    (he2 : starEach [.GeneratorExp elt [⟨.Name x px, iter, [], 0⟩] scope gpos] X.env = (false, eval (.GeneratorExp elt [⟨.Name x px, iter, [], 0⟩] scope gpos) X.env) :: starEach [] X.env := by rfl) :
    PE X (.Call (.Name "all" p) [.GeneratorExp elt [⟨.Name x px, iter, [], 0⟩] scope gpos] [] pos) (tGen false P wi telt) := by
  refine ⟨fun pins s σ H Q I h => ?_⟩
  refine wpAny_Call_Name_kw (ld_blt I hg hm hb ?_)
  refine PyProof.Rows.callWith_builtin1 ?_ he2 (by rfl)
  rw [he2]
  show wpAny _ _ (spliced ((false, eval (.GeneratorExp elt [⟨.Name x px, iter, [], 0⟩] scope gpos) X.env) :: backTo pos (starEach [] X.env))) _ _ s
  have hk1 : Room (k + 1) X.A := hr.mono (Nat.le_succ _)
  refine Calls.spliced_cons (thn (gen_made hk1 TB hcode L hi hs he I h) fun u s5 hM => ?_)
  obtain ⟨a, g, n, cd, rfl, hgen, hl, hgs, hseg⟩ := hM
  refine Calls.spliced_nil ?_
  refine call_function_tree F.kind_all F.plain_all F.entry_all (F.args_all1 _) ?_
  unfold Builtin.«all»
  refine wpAny_bind (m := oneArg "all" _) (wpAny_pure ?_)
  refine wpAny_bind (wpAny_pyIter_gen hgen ?_)
  refine wpAny_pure ⟨plainId_quiet F.plain_all_loop _, all_loop (A := X.A) (R := fun b s' => ∃ H', Inv X pins σ H' s' ∧ Q (.bl b) H') hr.hd hr.depth (fun b s' ⟨H', I', q⟩ => ⟨.bl b, H', I', rfl, q⟩) n s5 hgen hl ⟨_, hgs, rfl, hseg _ ?_ ?_⟩⟩
  · exact ⟨hr.hd, by have := hr.dp; show X.A.depth + 3 * (k + 1) + 5 < _; omega, by have := hr.un; show X.A.units + 1 + 1 + 16 * (k + 1) + 200 < _; omega⟩
  · exact I.ok.frames
theorem pe_any {c P : Addr} {elt iter : Expr} {x : Str} {M : List Str} {px p pos gpos : Pos} {scope : Scope} {wi : TI} {telt : TE} {k : Nat} (hr : Room (k + 2) X.A) (hg : Gl X "any") (hm : X.mg "any" = none) (TB : LamX.TabB X.base X.mg c P) (hcode : X.env.code = .ref c) (L : GNames X.N M X.env.scope scope x)
    (hi : PI X (.Name x px) iter wi) (he : ∀ (A : Around) (sz : Shared) (Hz : Hp) (C : Addr) (code : Value) (fp : List Addr) (pn : List (Addr × Obj)), Room k A → PE (gcx X A sz Hz (gnv X scope C code) M fp pn) elt telt)
    (hs : ∀ v, genFold iter X.env v = pure v := by intro _; rfl) (hb : bootBuiltins "any" = some (.builtin "any") := by decide +kernel)
    (he2 : starEach [.GeneratorExp elt [⟨.Name x px, iter, [], 0⟩] scope gpos] X.env = (false, eval (.GeneratorExp elt [⟨.Name x px, iter, [], 0⟩] scope gpos) X.env) :: starEach [] X.env := by rfl) :
    PE X (.Call (.Name "any" p) [.GeneratorExp elt [⟨.Name x px, iter, [], 0⟩] scope gpos] [] pos) (tGen true P wi telt) := by
  refine ⟨fun pins s σ H Q I h => ?_⟩
  refine wpAny_Call_Name_kw (ld_blt I hg hm hb ?_)
  refine PyProof.Rows.callWith_builtin1 ?_ he2 (by rfl)
  rw [he2]
  show wpAny _ _ (spliced ((false, eval (.GeneratorExp elt [⟨.Name x px, iter, [], 0⟩] scope gpos) X.env) :: backTo pos (starEach [] X.env))) _ _ s
  have hk1 : Room (k + 1) X.A := hr.mono (Nat.le_succ _)
  refine Calls.spliced_cons (thn (gen_made hk1 TB hcode L hi hs he I h) fun u s5 hM => ?_)
  obtain ⟨a, g, n, cd, rfl, hgen, hl, hgs, hseg⟩ := hM
  refine Calls.spliced_nil ?_
  refine call_function_tree F.kind_any F.plain_any F.entry_any (F.args_any1 _) ?_
  unfold Builtin.«any»
  refine wpAny_bind (m := oneArg "any" _) (wpAny_pure ?_)
  refine wpAny_bind (wpAny_pyIter_gen hgen ?_)
  refine wpAny_pure ⟨plainId_quiet F.plain_any_loop _, any_loop (A := X.A) (R := fun b s' => ∃ H', Inv X pins σ H' s' ∧ Q (.bl b) H') hr.hd hr.depth (fun b s' ⟨H', I', q⟩ => ⟨.bl b, H', I', rfl, q⟩) n s5 hgen hl ⟨_, hgs, rfl, hseg _ ?_ ?_⟩⟩
  · exact ⟨hr.hd, by have := hr.dp; show X.A.depth + 3 * (k + 1) + 5 < _; omega, by have := hr.un; show X.A.units + 1 + 1 + 16 * (k + 1) + 200 < _; omega⟩
  · exact I.ok.frames
end
end GA

set_option Elab.async false
set_option linter.all false
set_option maxRecDepth 100000
set_option maxHeartbeats 4000000
/-! what grows, and data without lists -/
namespace TK
open PySem PySem.Spec PyProof.Rows L2

/-- a tracked object stays, or is a table of code objects that stays one -/
def Kp (o : HO) (x : Option HO) : Prop := x = some o ∨ ∃ ps ps' : Array Value, o = .tbl ps ∧ x = some (.tbl ps') ∧ (TriplesOk ps.toList → TriplesOk ps'.toList)
/-- all that was tracked outside of S is kept, tables grow -/
def Gx (S : List Addr) (H H' : Hp) : Prop := ∀ b o, b ∉ S → H b = some o → Kp o (H' b)
abbrev Gr (H H' : Hp) : Prop := Gx [] H H'
variable {S : List Addr} {H H1 H2 H' : Hp} {K : PySem.W.Frag}
theorem Gx.refl : Gx S H H := fun _ _ _ e => .inl e
theorem Gr.refl : Gr H H := Gx.refl
theorem Kp.trans {o : HO} {x y : Option HO} (a : Kp o x) (b : ∀ u, x = some u → Kp u y) : Kp o y := by
  rcases a with a | ⟨ps, ps', rfl, a, k⟩
  · exact b o a
  · rcases b _ a with b | ⟨qs, qs', e, b, k'⟩
    · exact .inr ⟨ps, ps', rfl, b, k⟩
    · cases e
      exact .inr ⟨ps, qs', rfl, b, fun z => k' (k z)⟩
theorem Gx.trans (a : Gx S H H1) (b : Gx S H1 H2) : Gx S H H2 := fun c o hc e => (a c o hc e).trans fun u e' => b c u hc e'
theorem Gx.mono {S' : List Addr} (a : Gx S H H1) (h : ∀ b ∈ S, b ∈ S') : Gx S' H H1 := fun c o hc e => a c o (fun z => hc (h c z)) e
theorem Gr.x (a : Gr H H1) : Gx S H H1 := a.mono fun _ z => by simp at z
theorem Gx.thn (a : Gx S H H1) (b : Gr H1 H2) : Gx S H H2 := a.trans b.x
theorem Gr.thn (a : Gr H H1) (b : Gx S H1 H2) : Gx S H H2 := a.x.trans b
theorem Gx.same (a : Same H H1) : Gx S H H1 := fun b o _ e => .inl (a b o e)
theorem Gx.new {p : Addr} {o : HO} (h : H p = none) : Gx S H (upd H p o) := fun b u _ e => .inl (by rw [upd_ne (ne_of_none e h)]; exact e)
/-- an object that was not tracked at the start is written -/
theorem Gx.wr {p : Addr} {o : HO} (a : Gx S H H1) (h : H p = none) : Gx S H (upd H1 p o) := fun b u hb e => by
  rw [upd_ne (ne_of_none e h)]
  exact a b u hb e
theorem Gx.wrS {p : Addr} {o : HO} (a : Gx S H H1) (h : p ∈ S) : Gx S H (upd H1 p o) := fun b u hb e => by
  rw [upd_ne (fun z => hb (by rw [z]; exact h))]
  exact a b u hb e
theorem Kp.some {o : HO} {x : Option HO} (a : Kp o x) : x ≠ none := by
  rcases a with a | ⟨_, _, _, a, _⟩ <;> rw [a] <;> simp
theorem Gx.freeS (a : Gx S H H1) {p : Addr} (h : H1 p = none) : p ∈ S ∨ H p = none := by
  by_cases hp : p ∈ S
  · exact .inl hp
  · cases q : H p with
    | none => exact .inr rfl
    | some o => exact absurd h (a p o hp q).some
theorem Gx.free (a : Gx [] H H1) {p : Addr} (h : H1 p = none) : H p = none := (Gx.freeS a h).elim (fun z => by simp at z) id
theorem Gr.free (a : Gr H H1) {p : Addr} (h : H1 p = none) : H p = none := (Gx.freeS a h).elim (fun z => by simp at z) id
theorem Gx.at (a : Gx S H H1) {p : Addr} {o : HO} (hp : p ∉ S) (h : H p = some o) (ho : ∀ ps, o ≠ .tbl ps) : H1 p = some o := by
  rcases a p o hp h with z | ⟨ps, _, z, _⟩
  · exact z
  · exact absurd z (ho ps)
theorem Gx.lst (a : Gx [] H H1) {p : Addr} {xs : List V} (h : H p = some (.lst xs)) : H1 p = some (.lst xs) := Gx.at a (by simp) h fun _ z => by cases z
theorem Gr.lst (a : Gr H H1) {p : Addr} {xs : List V} (h : H p = some (.lst xs)) : H1 p = some (.lst xs) := Gx.at a (by simp) h fun _ z => by cases z
/-- the addresses of S hold lists -/
def LS (S : List Addr) (H : Hp) : Prop := ∀ b ∈ S, ∃ xs, H b = some (.lst xs)
theorem LS.nil : LS [] H := fun _ z => by simp at z
theorem Gx.rdT (a : Gx S H H1) (hS : LS S H) {p : Addr} {xs : List V} (h : Rd H p (.tup xs)) : Rd H1 p (.tup xs) := by
  have hp : p ∉ S := fun z => by
    obtain ⟨ys, e⟩ := hS p z
    rcases h with h | ⟨o, h⟩ <;> rw [e] at h <;> cases h
  rcases h with h | ⟨o, h⟩
  · exact .inl (a.at hp h fun _ z => by cases z)
  · exact .inr ⟨o, a.at hp h fun _ z => by cases z⟩
theorem Gx.seqTS (a : Gx S H H1) (hS : LS S H) {p : Addr} {xs : List V} (h : SqT K H p xs) : SqT K H1 p xs := h.elim (fun z => .inl (a.rdT hS z)) .inr
theorem Gx.seqT (a : Gx [] H H1) {p : Addr} {xs : List V} (h : SqT K H p xs) : SqT K H1 p xs := Gx.seqTS a .nil h
theorem Gr.seqT (a : Gr H H1) {p : Addr} {xs : List V} (h : SqT K H p xs) : SqT K H1 p xs := Gx.seqTS a .nil h
theorem Gx.seqL (a : Gx [] H H1) {p : Addr} {xs : List V} (h : SqL K H p xs) : SqL K H1 p xs := by
  rcases h with (h | ⟨o, h⟩) | h
  · exact .inl (.inl (Gx.at a (by simp) h fun _ z => by cases z))
  · exact .inl (.inr ⟨o, Gx.at a (by simp) h fun _ z => by cases z⟩)
  · exact .inr h
theorem Gr.seqL (a : Gr H H1) {p : Addr} {xs : List V} (h : SqL K H p xs) : SqL K H1 p xs := Gx.seqL a h
/-! tables -/
def TT (T : List Addr) (H : Hp) : Prop := ∀ P ∈ T, GxR.TabG H P
theorem Gx.tab {P : Addr} (a : Gx S H H1) (hP : P ∉ S) (h : GxR.TabG H P) : GxR.TabG H1 P := by
  obtain ⟨ps, e, k⟩ := h
  rcases a P _ hP e with z | ⟨qs, qs', z, z', k'⟩
  · exact ⟨ps, z, k⟩
  · cases z
    exact ⟨qs', z', k' k⟩
theorem Gx.ttS {T : List Addr} (a : Gx S H H1) (hS : LS S H) (h : TT T H) : TT T H1 := fun P hP => a.tab (fun z => by
  obtain ⟨xs, e⟩ := hS P z
  obtain ⟨ps, e', _⟩ := h P hP
  rw [e] at e'
  cases e') (h P hP)
theorem Gx.tt {T : List Addr} (a : Gx [] H H1) (h : TT T H) : TT T H1 := Gx.ttS a .nil h
theorem Gr.tt {T : List Addr} (a : Gr H H1) (h : TT T H) : TT T H1 := Gx.ttS a .nil h
theorem Gx.tabbed {P : Addr} (h : GxR.TabG H P) (t : GxR.Tabbed P H H1) : Gx S H H1 := fun b o hb e => by
  by_cases q : b = P
  · subst q
    obtain ⟨ps, e', k⟩ := h
    obtain ⟨⟨ps', e'', k'⟩, _⟩ := t
    rw [e] at e'
    cases e'
    exact .inr ⟨ps, ps', rfl, e'', fun _ => k'⟩
  · exact .inl (by rw [t.2 b q]; exact e)
theorem Gx.ls {S' : List Addr} (a : Gx S H H1) (h : LS S' H) (hd : ∀ b ∈ S', b ∉ S) : LS S' H1 := fun b hb => by
  obtain ⟨xs, e⟩ := h b hb
  exact ⟨xs, a.at (hd b hb) e fun _ z => by cases z⟩

/-! ### data: ints and tuples (None, bools, texts too), no lists -/
inductive DT (K : PySem.W.Frag) (H : Hp) : V → PyData → Prop
  | non : DT K H .non .none
  | bl (b : Bool) : DT K H (.bl b) (.bool b)
  | int (i : Int) : DT K H (.int i) (.int i)
  | str (x : Str) : DT K H (.str x) (.str x)
  | tup {a : Addr} {xs : List V} {ds : List PyData} : H a = some (.tup xs) → (hl : xs.length = ds.length) → (∀ (i : Nat) v d, xs[i]? = some v → ds[i]? = some d → DT K H v d) → DT K H (.ref a) (.tuple ds)
def DTs (K : PySem.W.Frag) (H : Hp) (vs : List V) (ds : List PyData) : Prop := vs.length = ds.length ∧ ∀ (i : Nat) v d, vs[i]? = some v → ds[i]? = some d → DT K H v d
theorem DT.mk {a : Addr} {xs : List V} {ds : List PyData} (h : H a = some (.tup xs)) (q : DTs K H xs ds) : DT K H (.ref a) (.tuple ds) := .tup h q.1 q.2
theorem DT.int_inv {v : V} {n : Int} (h : DT K H v (.int n)) : v = .int n := by
  cases h
  rfl
theorem DT.tup_invS {v : V} {ds : List PyData} (h : DT K H v (.tuple ds)) : ∃ a xs, v = .ref a ∧ H a = some (.tup xs) ∧ DTs K H xs ds := by
  cases h with
  | tup h1 h2 h3 => exact ⟨_, _, rfl, h1, h2, h3⟩
theorem DT.tup_inv {v : V} {ds : List PyData} (h : DT K H v (.tuple ds)) : ∃ a xs, v = .ref a ∧ SqT K H a xs ∧ DTs K H xs ds :=
  let ⟨a, xs, e, h1, h2⟩ := h.tup_invS
  ⟨a, xs, e, .inl (.inl h1), h2⟩
theorem Gx.tupS (a : Gx S H H1) (hS : LS S H) {p : Addr} {xs : List V} (h : H p = some (.tup xs)) : H1 p = some (.tup xs) := by
  refine a.at (fun z => ?_) h fun _ z => by cases z
  obtain ⟨ys, e⟩ := hS p z
  rw [e] at h
  cases h
theorem DT.gx (a : Gx S H H1) (hS : LS S H) {v : V} {d : PyData} (h : DT K H v d) : DT K H1 v d := by
  induction h with
  | non => exact .non
  | bl b => exact .bl b
  | int i => exact .int i
  | str x => exact .str x
  | tup h1 h2 _ ih => exact .tup (Gx.tupS a hS h1) h2 ih
theorem DT.gr (a : Gr H H1) {v : V} {d : PyData} (h : DT K H v d) : DT K H1 v d := DT.gx a .nil h
theorem DTs.gx (a : Gx S H H1) (hS : LS S H) {vs : List V} {ds : List PyData} (h : DTs K H vs ds) : DTs K H1 vs ds := ⟨h.1, fun i v d e e' => (h.2 i v d e e').gx a hS⟩
theorem DTs.gr (a : Gr H H1) {vs : List V} {ds : List PyData} (h : DTs K H vs ds) : DTs K H1 vs ds := h.gx a .nil
theorem DTs.nil : DTs K H [] [] := ⟨rfl, fun i v d e => by simp at e⟩
theorem DTs.cons {v : V} {d : PyData} {vs : List V} {ds : List PyData} (h : DT K H v d) (q : DTs K H vs ds) : DTs K H (v :: vs) (d :: ds) := by
  refine ⟨by rw [List.length_cons, List.length_cons, q.1], fun i w e h1 h2 => ?_⟩
  cases i with
  | zero =>
    cases h1
    cases h2
    exact h
  | succ i => exact q.2 i w e h1 h2
theorem DTs.cons_inv {d : PyData} {vs : List V} {ds : List PyData} (q : DTs K H vs (d :: ds)) : ∃ v vs', vs = v :: vs' ∧ DT K H v d ∧ DTs K H vs' ds := by
  cases vs with
  | nil => cases q.1
  | cons v vs' => exact ⟨v, vs', rfl, q.2 0 v d rfl rfl, by have := q.1; simp at this; exact this, fun i w e h1 h2 => q.2 (i + 1) w e h1 h2⟩
theorem DTs.nil_inv {vs : List V} (q : DTs K H vs []) : vs = [] := List.length_eq_zero_iff.mp q.1
theorem DTs.one {v : V} {d : PyData} (h : DT K H v d) : DTs K H [v] [d] := .cons h .nil
theorem DTs.app {vs ws : List V} {ds es : List PyData} (h : DTs K H vs ds) (q : DTs K H ws es) : DTs K H (vs ++ ws) (ds ++ es) := by
  refine ⟨by rw [List.length_append, List.length_append, h.1, q.1], fun i w e h1 h2 => ?_⟩
  by_cases hi : i < vs.length
  · rw [List.getElem?_append_left hi] at h1
    rw [List.getElem?_append_left (by rw [← h.1]; exact hi)] at h2
    exact h.2 i w e h1 h2
  · rw [List.getElem?_append_right (by omega)] at h1
    rw [List.getElem?_append_right (by rw [← h.1]; omega), ← h.1] at h2
    exact q.2 _ w e h1 h2
theorem DTs.at {vs : List V} {ds : List PyData} (h : DTs K H vs ds) {i : Nat} {d : PyData} (e : ds[i]? = some d) : ∃ v, vs[i]? = some v ∧ DT K H v d := by
  have hi : i < vs.length := by rw [h.1]; exact (List.getElem?_eq_some_iff.mp e).1
  exact ⟨vs[i], List.getElem?_eq_getElem hi, h.2 i _ d (List.getElem?_eq_getElem hi) e⟩
theorem DTs.at' {vs : List V} {ds : List PyData} (h : DTs K H vs ds) {i : Nat} {v : V} (e : vs[i]? = some v) : ∃ d, ds[i]? = some d ∧ DT K H v d := by
  have hi : i < ds.length := by rw [← h.1]; exact (List.getElem?_eq_some_iff.mp e).1
  exact ⟨ds[i], List.getElem?_eq_getElem hi, h.2 i v _ e (List.getElem?_eq_getElem hi)⟩
theorem DTs.ints {vs : List V} {ns : List Int} (h : DTs K H vs (ns.map PyData.int)) : vs = ns.map V.int := by
  induction ns generalizing vs with
  | nil => exact h.nil_inv
  | cons n ns ih =>
    obtain ⟨v, vs', rfl, h1, h2⟩ := h.cons_inv
    rw [h1.int_inv, ih h2]
    rfl
theorem DTs.of_ints (ns : List Int) : DTs K H (ns.map V.int) (ns.map PyData.int) := by
  induction ns with
  | nil => exact .nil
  | cons n ns ih => exact .cons (.int n) ih
/-- to the library's data -/
theorem DT.dp {v : V} {d : PyData} (h : DT K H v d) : Dp K H v d := by
  induction h with
  | non => exact .non
  | bl b => exact .bl b
  | int i => exact .int i
  | str x => exact .str x
  | @tup a xs ds h1 h2 h5 ih =>
    refine .tup (.inl (.inl h1)) ?_
    clear h1 h5
    induction ds generalizing xs with
    | nil =>
      have := List.length_eq_zero_iff.mp h2
      subst this
      exact .nil
    | cons d ds ihd =>
      cases xs with
      | nil => cases h2
      | cons v vs => exact .cons (ih 0 v d rfl rfl) (ihd (by simpa using h2) (fun i w e h3 h4 => ih (i + 1) w e h3 h4))
/-- a row: a tuple of ints -/
def rowD (ns : List Int) : PyData := .tuple (ns.map PyData.int)
def relD (ar : Int) (rows : List (List Int)) : PyData := .tuple [.int ar, .tuple (rows.map rowD)]
theorem DT.row_inv {v : V} {ns : List Int} (h : DT K H v (rowD ns)) : ∃ a, v = .ref a ∧ SqT K H a (ns.map V.int) := by
  obtain ⟨a, xs, e, h1, h2⟩ := h.tup_inv
  have := h2.ints
  subst this
  exact ⟨a, e, h1⟩
theorem DT.row_invS {v : V} {ns : List Int} (h : DT K H v (rowD ns)) : ∃ a, v = .ref a ∧ H a = some (.tup (ns.map V.int)) := by
  obtain ⟨a, xs, e, h1, h2⟩ := h.tup_invS
  have := h2.ints
  subst this
  exact ⟨a, e, h1⟩
theorem DT.row {a : Addr} {ns : List Int} (h : H a = some (.tup (ns.map V.int))) : DT K H (.ref a) (rowD ns) := .mk h (.of_ints ns)
theorem DT.rel_inv {v : V} {ar : Int} {rows : List (List Int)} (h : DT K H v (relD ar rows)) : ∃ a b xs, v = .ref a ∧ SqT K H a [.int ar, .ref b] ∧ SqT K H b xs ∧ DTs K H xs (rows.map rowD) := by
  obtain ⟨a, xs, e, h1, h2⟩ := h.tup_inv
  obtain ⟨v1, r1, rfl, h3, h4⟩ := h2.cons_inv
  obtain ⟨v2, r2, rfl, h5, h6⟩ := h4.cons_inv
  have := h6.nil_inv
  subst this
  obtain ⟨b, ys, rfl, h7, h8⟩ := h5.tup_inv
  rw [h3.int_inv] at h1
  exact ⟨a, b, ys, e, h1, h7, h8⟩
theorem DT.rel {a b : Addr} {xs : List V} {ar : Int} {rows : List (List Int)} (h : H a = some (.tup [.int ar, .ref b])) (h1 : H b = some (.tup xs)) (h2 : DTs K H xs (rows.map rowD)) : DT K H (.ref a) (relD ar rows) :=
  .mk h (.cons (.int ar) (.one (.mk h1 h2)))

/-! ### a def of the text whose code object is known -/
structure FunC (K : PySem.W.Frag) (x : Str) (st : Stmt) (f : Addr) (fd : FuncData) (c : Addr) : Prop where
  ex : ∃ (oc : Value) (od : Option Addr) (kV doc pm : Value) (an : Option Addr) (ct : Value) (osl : Array (Option Value)),
    fd = PySem.W.fnOf x x (defArgs st) (defBody st) (defScope st) .none kV doc pm an (.ref c) ct ∧ K.lookup f = some ⟨oc, od, .func fd, osl⟩ ∧ PySem.W.codeIn K (.ref c) x = true
  kp : PySem.W.keepIn K (.ref f) = true
section
variable {P : Program} {w : World} {mg : Str → Option Value} {base : Heap}
theorem FunC.ok {x : Str} {st : Stmt} {f c : Addr} {fd : FuncData} {N ps : List Str} {k : Nat} {sp : Sp} (F : FunC K x st f fd c) (S : FnScope N ps (defScope st)) (len : ∀ vs H Q E, sp vs H Q E → vs.length = ps.length)
    (hbody : ∀ (A : Around) (outer : List Env) (s : Shared) (H : Hp) (vs : List V) (Q : VK) (E : XK), Room k (A.deeper (envOfC x (defScope st) s.heap.objs.size f (.ref c))) → sp vs H Q E →
      ∃ t, PSs (cxOf CX0 P w K mg base N x (defScope st) f (.ref c) A outer s H E).nox (defBody st) t ∧ t { nx := fun _ H' => Q .non H', rt := Q } (start N vs) H) : FnOk P w K mg base CX0 (k + 1) f fd ps sp := by
  obtain ⟨oc, od, kV, doc, pm, an, ct, osl, rfl, lk, hcd⟩ := F.ex
  refine fn_of lk hcd S len fun A outer s H vs Q E hr hsp => ?_
  obtain ⟨t, h, q⟩ := hbody A outer s H vs Q E hr hsp
  exact ⟨t, h.nox, q⟩
theorem FunC.binds {x : Str} {st : Stmt} {f c : Addr} {fd : FuncData} {ps : List Str} (F : FunC K x st f fd c)
    (h : ∀ (kV doc pm : Value) (an : Option Addr) (cdv ct : Value) (us : List Value), us.length = ps.length → bindArgs (PySem.W.fnOf x x (defArgs st) (defBody st) (defScope st) .none kV doc pm an cdv ct) ⟨us, []⟩ = pure (ps.zip us)) : Binds K fd ps [] := by
  obtain ⟨oc, od, kV, doc, pm, an, ct, osl, rfl, lk, hcd⟩ := F.ex
  exact .all (h kV doc pm an (.ref c) ct)
end
/-- a def of the module: where it stands -/
structure Dfn (K : PySem.W.Frag) (mg : Str → Option Value) (x : Str) (st : Stmt) (ps : List Str) where
  f : Addr
  fd : FuncData
  c : Addr
  F : FunC K x st f fd c
  b : Binds K fd ps []
  g : mg x = some (.ref f)
/-- .. that holds generator expressions: its table -/
structure DfnG (K : PySem.W.Frag) (mg : Str → Option Value) (base : Heap) (x : Str) (st : Stmt) (ps : List Str) extends Dfn K mg x st ps where
  P : Addr
  TB : LamX.TabB base mg c P

/-! the rules that speak of the written part, it given (within comprehensions the context's own is not to be named) -/
section
variable {X : Cx}
theorem op_ltTK (K : PySem.W.Frag) (hu : X.A.units < cLine) (hK : X.K = K := by rfl) : OpR X (compareOp .Lt) (rLtT K) := hK ▸ op_ltT hu
theorem ix_tupK (K : PySem.W.Frag) (hK : X.K = K := by rfl) : IxR X (rIxT K) := hK ▸ ix_tup
theorem ix_listK (K : PySem.W.Frag) (hK : X.K = K := by rfl) : IxR X (rIxL K) := hK ▸ ix_list
theorem pi_tupK (K : PySem.W.Frag) {tg l : Expr} {tl : TE} (hl : PE X l tl) (hK : X.K = K := by rfl) : PI X tg l (iTup K tl) := hK ▸ pi_tup hl
theorem pi_listK (K : PySem.W.Frag) {tg l : Expr} {tl : TE} (hl : PE X l tl) (hK : X.K = K := by rfl) : PI X tg l (iList K tl) := hK ▸ pi_list hl
theorem op_catAK (K : PySem.W.Frag) (hK : X.K = K := by rfl) : OpR X (binaryOp .Add) (rCatA K) := hK ▸ op_catA
def rTupleOf (K : PySem.W.Frag) : List V → Hp → VK → Prop := fun xs H Q => ∃ p ys, xs = [.ref p] ∧ ((SqL K H p ys ∧ ∀ l, H l = none → Q (.ref l) (upd H l (.tup ys))) ∨ (SqT K H p ys ∧ Q (.ref p) H))
theorem call_tuple_ofK (K : PySem.W.Frag) (hK : X.K = K := by rfl) : CallR X (.type "tuple") (rTupleOf K) := hK ▸ call_tuple_of
def rLenSeq (K : PySem.W.Frag) : List V → Hp → VK → Prop := fun xs H Q => ∃ p ys, xs = [.ref p] ∧ (SqL K H p ys ∨ SqT K H p ys) ∧ Q (.int ys.length) H
theorem call_len_seqK (K : PySem.W.Frag) (hK : X.K = K := by rfl) : CallR X (.builtin "len") (rLenSeq K) := hK ▸ call_len_seq
end

/-! a comprehension over zip of two tuples -/
theorem lc_zipT {K : PySem.W.Frag} {a b : Addr} {xs ys : List V} {g : TG} {tt : L2.TT} {te : TE} {vs : List Nat} {σ : L2.St} {H1 : Hp} {D : Addr} {Qd : Hp → Prop} (n : Nat) (hx : n ≤ xs.length) (hy : n ≤ ys.length) (hn : xs.length ≤ n ∨ ys.length ≤ n) (Pv : Nat → Hp → Prop) (h0 : Pv 0 (upd H1 D (.lst []))) (hl : ∀ i H, i ≤ n → Pv i H → SqT K H a xs ∧ SqT K H b ys)
    (hs : ∀ (i : Nat) (x y : V) (T : Addr) (H : Hp), xs[i]? = some x → ys[i]? = some y → Pv i H → H T = none → g (.ref T) (wipe σ vs) (upd H T (.tup [x, y])) fun σ2 H2 => wipe σ2 vs = wipe σ vs ∧ tt σ2 H2 fun b H3 =>
      if b = true then te σ2 H3 fun y H4 => ∃ acc, H4 D = some (.lst acc) ∧ acc.length < sizeLine ∧ Pv (i + 1) (upd H4 D (.lst (acc ++ [y]))) else Pv (i + 1) H3) (hd : ∀ H, Pv n H → Qd H) :
    ∃ W : Nat → Nat → Hp → Prop, (∃ m, W 0 m (upd H1 D (.lst []))) ∧ ∀ i m H, W i m H →
      ((RZ.ItzT K a b).stop i H ∧ Qd H) ∨ ((RZ.ItzT K a b).go i H ∧ ∃ Nx : Hp → Prop, (∀ H', Nx H' → ∃ m', m' < m ∧ W (i + 1) m' H') ∧ ∀ x H', (RZ.ItzT K a b).yld i H x H' → g x (wipe σ vs) H' fun σ2 H2 => wipe σ2 vs = wipe σ vs ∧ tt σ2 H2 fun b H3 =>
        if b = true then te σ2 H3 fun y H4 => ∃ acc, H4 D = some (.lst acc) ∧ acc.length < sizeLine ∧ Nx (upd H4 D (.lst (acc ++ [y]))) else Nx H3) := by
  refine ⟨fun i m H => m = n - i ∧ i ≤ n ∧ Pv i H, ⟨n, by simp, Nat.zero_le _, h0⟩, ?_⟩
  rintro i m H ⟨rfl, hi, p⟩
  obtain ⟨q1, q2⟩ := hl i H hi p
  by_cases hlt : i < n
  · have e1 : xs[i]? = some (xs[i]'(by omega)) := List.getElem?_eq_getElem _
    have e2 : ys[i]? = some (ys[i]'(by omega)) := List.getElem?_eq_getElem _
    refine .inr ⟨⟨xs, ys, _, _, q1, q2, e1, e2⟩, Pv (i + 1), fun H' p' => ⟨n - (i + 1), by omega, rfl, hlt, p'⟩, fun v H' y => ?_⟩
    obtain ⟨T, x1, y1, rfl, hT, rfl, f1, f2⟩ := y
    exact hs i x1 y1 T H (f1 xs q1) (f2 ys q2) p hT
  · have e : i = n := by omega
    subst e
    exact .inl ⟨⟨xs, ys, q1, q2, hn⟩, hd H p⟩
theorem cut1 (xs : List V) : cutV xs (some 1) none = xs.drop 1 := by
  unfold cutV
  rw [show HT.sIx xs.length 0 (some 1) = min 1 xs.length from HT.sIx_nat xs.length 0 1, HT.sIx_none]
  cases xs with
  | nil => rfl
  | cons x r =>
    rw [show min 1 (x :: r).length = 1 by
      rw [List.length_cons]
      omega]
    show (List.take ((x :: r).length - 1) r) = r
    rw [List.length_cons, Nat.add_sub_cancel]
    exact List.take_length
theorem sixZero {n : Nat} (h : HT.sIx n 0 (some 1) = 0) : n = 0 := by
  rw [show HT.sIx n 0 (some 1) = min 1 n from HT.sIx_nat n 0 1] at h
  omega
theorem pair_at {α : Type} {R : α → α → Prop} : ∀ {l : List α}, l.Pairwise R → ∀ {i : Nat} {x y : α}, l[i]? = some x → l[i + 1]? = some y → R x y
  | [], _, _, _, _, h, _ => by simp at h
  | a :: l, h, 0, x, y, h1, h2 => by
    have e : a = x := Option.some.inj h1
    subst e
    exact (List.pairwise_cons.mp h).1 y (List.mem_of_getElem? (show l[0]? = some y from h2))
  | a :: l, h, i + 1, x, y, h1, h2 => pair_at (List.pairwise_cons.mp h).2 (i := i) h1 h2
theorem yesT {σ : L2.St} {H : Hp} {A B : Hp → Prop} (h : A H) : tYes σ H fun b H' => if b = true then A H' else B H' := iteT (A := A H) (B := B H) h
/-! a comprehension over a list, then over range(n) -/
theorem lc2_lr {K : PySem.W.Frag} {a : Addr} {xs : List V} {wi1 : TI} {te : TE} {p q : Nat} {σ : L2.St} {H1 : Hp} {D : Addr} {Qd : Hp → Prop} (n : Nat) (Pv : Nat → Nat → Hp → Prop) (h0 : Pv 0 0 (upd H1 D (.lst []))) (hl : ∀ i H, i ≤ xs.length → Pv i 0 H → SqL K H a xs)
    (hwi : ∀ x H R, R (Itr 0 n) H → wi1 ((wipe σ [p, q]).set p (some x)) H R) (hw1 : ∀ x, wipe ((wipe σ [p, q]).set p (some x)) [p, q] = wipe σ [p, q])
    (hw2 : ∀ x y, wipe ((wipe ((wipe σ [p, q]).set p (some x)) [q]).set q (some y)) [q] = wipe ((wipe σ [p, q]).set p (some x)) [q])
    (hs : ∀ (i j : Nat) x H, xs[i]? = some x → j < n → Pv i j H → te ((wipe ((wipe σ [p, q]).set p (some x)) [q]).set q (some (.int (0 + (j : Int))))) H fun y H4 => ∃ acc, H4 D = some (.lst acc) ∧ acc.length < sizeLine ∧ Pv i (j + 1) (upd H4 D (.lst (acc ++ [y]))))
    (hn : ∀ i H, i < xs.length → Pv i n H → Pv (i + 1) 0 H) (hd : ∀ H, Pv xs.length 0 H → Qd H) :
    ∃ W : Nat → Nat → Hp → Prop, (∃ m, W 0 m (upd H1 D (.lst []))) ∧ ∀ i m H, W i m H →
      ((Itl K a).stop i H ∧ Qd H) ∨ ((Itl K a).go i H ∧ ∃ Nx : Hp → Prop, (∀ H', Nx H' → ∃ m', m' < m ∧ W (i + 1) m' H') ∧ ∀ x H', (Itl K a).yld i H x H' → gName p x (wipe σ [p, q]) H' fun σ2 H2 => wipe σ2 [p, q] = wipe σ [p, q] ∧ tYes σ2 H2 fun b H3 =>
        if b = true then wi1 σ2 H3 fun J1 H4 => ∃ W1 : Nat → Nat → Hp → Prop, (∃ m, W1 0 m H4) ∧ ∀ j k H, W1 j k H →
          (J1.stop j H ∧ Nx H) ∨ (J1.go j H ∧ ∃ Nx1 : Hp → Prop, (∀ H', Nx1 H' → ∃ k', k' < k ∧ W1 (j + 1) k' H') ∧ ∀ x H', J1.yld j H x H' → gName q x (wipe σ2 [q]) H' fun σ3 H5 => wipe σ3 [q] = wipe σ2 [q] ∧ tYes σ3 H5 fun b H6 =>
            if b = true then te σ3 H6 fun y H7 => ∃ acc, H7 D = some (.lst acc) ∧ acc.length < sizeLine ∧ Nx1 (upd H7 D (.lst (acc ++ [y]))) else Nx1 H6)
        else Nx H3) := by
  refine ⟨fun i m H => m = xs.length - i ∧ i ≤ xs.length ∧ Pv i 0 H, ⟨xs.length, by simp, Nat.zero_le _, h0⟩, ?_⟩
  rintro i m H ⟨rfl, hi, pv⟩
  have qs := hl i H hi pv
  by_cases hlt : i < xs.length
  · refine .inr ⟨⟨xs, xs[i], qs, by simp [hlt]⟩, Pv (i + 1) 0, fun H' p' => ⟨xs.length - (i + 1), by omega, rfl, hlt, p'⟩, fun x H' y => ?_⟩
    obtain ⟨rfl, y⟩ := y
    have hx := y xs qs
    refine ⟨hw1 x, yesT (B := fun H3 => Pv (i + 1) 0 H3) (hwi x _ _ ⟨fun j k H => k = n - j ∧ j ≤ n ∧ Pv i j H, ⟨n, by simp, Nat.zero_le _, pv⟩, ?_⟩)⟩
    rintro j k H ⟨rfl, hj, pj⟩
    by_cases hjn : j < n
    · refine .inr ⟨hjn, Pv i (j + 1), fun H' p' => ⟨n - (j + 1), by omega, rfl, hjn, p'⟩, fun x1 H' y1 => ?_⟩
      obtain ⟨rfl, rfl⟩ := y1
      exact ⟨hw2 x _, yesT (B := fun H6 => Pv i (j + 1) H6) (hs i j x _ hx hjn pj)⟩
    · have e : j = n := by omega
      subst e
      exact .inl ⟨Nat.le_refl _, hn i H hlt pj⟩
  · have e : i = xs.length := by omega
    subst e
    exact .inl ⟨⟨xs, qs, Nat.le_refl _⟩, hd H pv⟩
/-! a list is written: data stay -/
theorem LS.one {p : Addr} {xs : List V} (h : H p = some (.lst xs)) : LS [p] H := fun b hb => by
  rw [List.mem_singleton.mp hb]
  exact ⟨xs, h⟩
theorem DT.wr {p : Addr} {xs : List V} {o : HO} (h : H p = some (.lst xs)) {v : V} {d : PyData} (q : DT K H v d) : DT K (upd H p o) v d := q.gx (S := [p]) (Gx.refl.wrS (List.mem_singleton.mpr rfl)) (.one h)
theorem DTs.wr {p : Addr} {xs : List V} {o : HO} (h : H p = some (.lst xs)) {vs : List V} {ds : List PyData} (q : DTs K H vs ds) : DTs K (upd H p o) vs ds := q.gx (S := [p]) (Gx.refl.wrS (List.mem_singleton.mpr rfl)) (.one h)
/-! a comprehension over a tuple, then over another -/
theorem lc2_tt {K : PySem.W.Frag} {a b : Addr} {xs ys : List V} {wi1 : TI} {te : TE} {p q : Nat} {σ : L2.St} {H1 : Hp} {D : Addr} {Qd : Hp → Prop} (Pv : Nat → Nat → Hp → Prop) (h0 : Pv 0 0 (upd H1 D (.lst []))) (hl : ∀ i j H, i ≤ xs.length → j ≤ ys.length → Pv i j H → SqT K H a xs ∧ SqT K H b ys)
    (hwi : ∀ (i : Nat) x H R, i < xs.length → Pv i 0 H → R (Itt K b) H → wi1 ((wipe σ [p, q]).set p (some x)) H R) (hw1 : ∀ x, wipe ((wipe σ [p, q]).set p (some x)) [p, q] = wipe σ [p, q])
    (hw2 : ∀ x y, wipe ((wipe ((wipe σ [p, q]).set p (some x)) [q]).set q (some y)) [q] = wipe ((wipe σ [p, q]).set p (some x)) [q])
    (hs : ∀ (i j : Nat) x y H, xs[i]? = some x → ys[j]? = some y → Pv i j H → te ((wipe ((wipe σ [p, q]).set p (some x)) [q]).set q (some y)) H fun y H4 => ∃ acc, H4 D = some (.lst acc) ∧ acc.length < sizeLine ∧ Pv i (j + 1) (upd H4 D (.lst (acc ++ [y]))))
    (hn : ∀ i H, i < xs.length → Pv i ys.length H → Pv (i + 1) 0 H) (hd : ∀ H, Pv xs.length 0 H → Qd H) :
    ∃ W : Nat → Nat → Hp → Prop, (∃ m, W 0 m (upd H1 D (.lst []))) ∧ ∀ i m H, W i m H →
      ((Itt K a).stop i H ∧ Qd H) ∨ ((Itt K a).go i H ∧ ∃ Nx : Hp → Prop, (∀ H', Nx H' → ∃ m', m' < m ∧ W (i + 1) m' H') ∧ ∀ x H', (Itt K a).yld i H x H' → gName p x (wipe σ [p, q]) H' fun σ2 H2 => wipe σ2 [p, q] = wipe σ [p, q] ∧ tYes σ2 H2 fun b H3 =>
        if b = true then wi1 σ2 H3 fun J1 H4 => ∃ W1 : Nat → Nat → Hp → Prop, (∃ m, W1 0 m H4) ∧ ∀ j k H, W1 j k H →
          (J1.stop j H ∧ Nx H) ∨ (J1.go j H ∧ ∃ Nx1 : Hp → Prop, (∀ H', Nx1 H' → ∃ k', k' < k ∧ W1 (j + 1) k' H') ∧ ∀ x H', J1.yld j H x H' → gName q x (wipe σ2 [q]) H' fun σ3 H5 => wipe σ3 [q] = wipe σ2 [q] ∧ tYes σ3 H5 fun b H6 =>
            if b = true then te σ3 H6 fun y H7 => ∃ acc, H7 D = some (.lst acc) ∧ acc.length < sizeLine ∧ Nx1 (upd H7 D (.lst (acc ++ [y]))) else Nx1 H6)
        else Nx H3) := by
  refine ⟨fun i m H => m = xs.length - i ∧ i ≤ xs.length ∧ Pv i 0 H, ⟨xs.length, by simp, Nat.zero_le _, h0⟩, ?_⟩
  rintro i m H ⟨rfl, hi, pv⟩
  have qs := (hl i 0 H hi (Nat.zero_le _) pv).1
  by_cases hlt : i < xs.length
  · refine .inr ⟨⟨xs, xs[i], qs, by simp [hlt]⟩, Pv (i + 1) 0, fun H' p' => ⟨xs.length - (i + 1), by omega, rfl, hlt, p'⟩, fun x H' y => ?_⟩
    obtain ⟨rfl, y⟩ := y
    have hx := y xs qs
    refine ⟨hw1 x, yesT (B := fun H3 => Pv (i + 1) 0 H3) (hwi i x _ _ hlt pv ⟨fun j k H => k = ys.length - j ∧ j ≤ ys.length ∧ Pv i j H, ⟨ys.length, by simp, Nat.zero_le _, pv⟩, ?_⟩)⟩
    rintro j k H ⟨rfl, hj, pj⟩
    have qy := (hl i j H hi hj pj).2
    by_cases hjn : j < ys.length
    · refine .inr ⟨⟨ys, ys[j], qy, by simp [hjn]⟩, Pv i (j + 1), fun H' p' => ⟨ys.length - (j + 1), by omega, rfl, hjn, p'⟩, fun x1 H' y1 => ?_⟩
      obtain ⟨rfl, y1⟩ := y1
      exact ⟨hw2 x _, yesT (B := fun H6 => Pv i (j + 1) H6) (hs i j x x1 _ hx (y1 ys qy) pj)⟩
    · have e : j = ys.length := by omega
      subst e
      exact .inl ⟨⟨ys, qy, Nat.le_refl _⟩, hn i H hlt pj⟩
  · have e : i = xs.length := by omega
    subst e
    exact .inl ⟨⟨xs, qs, Nat.le_refl _⟩, hd H pv⟩
end TK

set_option Elab.async false
set_option linter.all false
set_option maxRecDepth 100000
set_option maxHeartbeats 4000000
namespace K35
open PySem PySem.Spec PyProof.Rows L2 TK
def topS (i : Nat) : Stmt := PySem.Challenge.pw_templates_k35_whole_forks.main.body.getD i (.Pass ⟨0, 0, 0, 0⟩)
abbrev s_power_of : Stmt := topS 10
abbrev n_power_of : List Str := ["base", "exponent", "worth", "_"]
abbrev p_power_of : List Str := ["base", "exponent"]
theorem sc_power_of : FnScope n_power_of p_power_of (defScope s_power_of) := ⟨rfl, rfl, rfl, by decide +kernel, rfl, by decide +kernel, by decide +kernel⟩
abbrev s_is_integer : Stmt := topS 11
abbrev n_is_integer : List Str := ["value", "low", "high"]
abbrev p_is_integer : List Str := ["value", "low", "high"]
theorem sc_is_integer : FnScope n_is_integer p_is_integer (defScope s_is_integer) := ⟨rfl, rfl, rfl, by decide +kernel, rfl, by decide +kernel, by decide +kernel⟩
abbrev s_is_tuple : Stmt := topS 12
abbrev n_is_tuple : List Str := ["value", "low", "high"]
abbrev p_is_tuple : List Str := ["value", "low", "high"]
theorem sc_is_tuple : FnScope n_is_tuple p_is_tuple (defScope s_is_tuple) := ⟨rfl, rfl, rfl, by decide +kernel, rfl, by decide +kernel, by decide +kernel⟩
abbrev s_is_row : Stmt := topS 13
abbrev n_is_row : List Str := ["size", "arity", "value"]
abbrev p_is_row : List Str := ["size", "arity", "value"]
theorem sc_is_row : FnScope n_is_row p_is_row (defScope s_is_row) := ⟨rfl, rfl, rfl, by decide +kernel, rfl, by decide +kernel, by decide +kernel⟩
abbrev s_is_relation : Stmt := topS 14
abbrev n_is_relation : List Str := ["size", "value", "arity", "rows", "row", "following"]
abbrev p_is_relation : List Str := ["size", "value"]
theorem sc_is_relation : FnScope n_is_relation p_is_relation (defScope s_is_relation) := ⟨rfl, rfl, rfl, by decide +kernel, rfl, by decide +kernel, by decide +kernel⟩
abbrev s_is_operation_arity : Stmt := topS 15
abbrev n_is_operation_arity : List Str := ["size", "value"]
abbrev p_is_operation_arity : List Str := ["size", "value"]
theorem sc_is_operation_arity : FnScope n_is_operation_arity p_is_operation_arity (defScope s_is_operation_arity) := ⟨rfl, rfl, rfl, by decide +kernel, rfl, by decide +kernel, by decide +kernel⟩
abbrev s_is_operation : Stmt := topS 16
abbrev n_is_operation : List Str := ["size", "value", "arity", "table"]
abbrev p_is_operation : List Str := ["size", "value"]
theorem sc_is_operation : FnScope n_is_operation p_is_operation (defScope s_is_operation) := ⟨rfl, rfl, rfl, by decide +kernel, rfl, by decide +kernel, by decide +kernel⟩
abbrev s_check_size : Stmt := topS 17
abbrev n_check_size : List Str := ["size"]
abbrev p_check_size : List Str := ["size"]
theorem sc_check_size : FnScope n_check_size p_check_size (defScope s_check_size) := ⟨rfl, rfl, rfl, by decide +kernel, rfl, by decide +kernel, by decide +kernel⟩
abbrev s_check_relation : Stmt := topS 18
abbrev n_check_relation : List Str := ["size", "relation"]
abbrev p_check_relation : List Str := ["size", "relation"]
theorem sc_check_relation : FnScope n_check_relation p_check_relation (defScope s_check_relation) := ⟨rfl, rfl, rfl, by decide +kernel, rfl, by decide +kernel, by decide +kernel⟩
abbrev s_check_operation : Stmt := topS 19
abbrev n_check_operation : List Str := ["size", "operation"]
abbrev p_check_operation : List Str := ["size", "operation"]
theorem sc_check_operation : FnScope n_check_operation p_check_operation (defScope s_check_operation) := ⟨rfl, rfl, rfl, by decide +kernel, rfl, by decide +kernel, by decide +kernel⟩
abbrev s_argument_steps : Stmt := topS 21
abbrev n_argument_steps : List Str := ["size", "operation", "arity", "table", "rests", "steps", "left", "parts", "rest", "row", "part", "numbers"]
abbrev p_argument_steps : List Str := ["size", "operation"]
theorem sc_argument_steps : FnScope n_argument_steps p_argument_steps (defScope s_argument_steps) := ⟨rfl, rfl, rfl, by decide +kernel, rfl, by decide +kernel, by decide +kernel⟩
abbrev s_parts : Stmt := topS 22
abbrev n_parts : List Str := ["size", "rest", "block", "value"]
abbrev p_parts : List Str := ["size", "rest"]
theorem sc_parts : FnScope n_parts p_parts (defScope s_parts) := ⟨rfl, rfl, rfl, by decide +kernel, rfl, by decide +kernel, by decide +kernel⟩
abbrev s_numbered : Stmt := topS 23
abbrev n_numbered : List Str := ["parts", "numbers", "row", "part"]
abbrev p_numbered : List Str := ["parts"]
theorem sc_numbered : FnScope n_numbered p_numbered (defScope s_numbered) := ⟨rfl, rfl, rfl, by decide +kernel, rfl, by decide +kernel, by decide +kernel⟩
abbrev s_forks : Stmt := topS 25
abbrev n_forks : List Str := ["size", "relation"]
abbrev p_forks : List Str := ["size", "relation"]
theorem sc_forks : FnScope n_forks p_forks (defScope s_forks) := ⟨rfl, rfl, rfl, by decide +kernel, rfl, by decide +kernel, by decide +kernel⟩
abbrev s_compact : Stmt := topS 26
abbrev n_compact : List Str := ["size", "relation", "rows", "pair"]
abbrev p_compact : List Str := ["size", "relation"]
theorem sc_compact : FnScope n_compact p_compact (defScope s_compact) := ⟨rfl, rfl, rfl, by decide +kernel, rfl, by decide +kernel, by decide +kernel⟩
abbrev s_showing_pairs : Stmt := topS 27
abbrev n_showing_pairs : List Str := ["relation", "arity", "rows", "shown", "row", "other", "place"]
abbrev p_showing_pairs : List Str := ["relation"]
theorem sc_showing_pairs : FnScope n_showing_pairs p_showing_pairs (defScope s_showing_pairs) := ⟨rfl, rfl, rfl, by decide +kernel, rfl, by decide +kernel, by decide +kernel⟩
abbrev s_closure : Stmt := topS 28
abbrev n_closure : List Str := ["size", "operation", "relation", "arity", "rows", "closing", "row"]
abbrev p_closure : List Str := ["size", "operation", "relation"]
theorem sc_closure : FnScope n_closure p_closure (defScope s_closure) := ⟨rfl, rfl, rfl, by decide +kernel, rfl, by decide +kernel, by decide +kernel⟩
abbrev s_law_taken : Stmt := topS 31
abbrev n_law_taken : List Str := ["row", "many", "found", "cell"]
abbrev p_law_taken : List Str := ["row", "many"]
theorem sc_law_taken : FnScope n_law_taken p_law_taken (defScope s_law_taken) := ⟨rfl, rfl, rfl, by decide +kernel, rfl, by decide +kernel, by decide +kernel⟩
abbrev s_law_pick : Stmt := topS 32
abbrev n_law_pick : List Str := ["row", "things"]
abbrev p_law_pick : List Str := ["row", "things"]
theorem sc_law_pick : FnScope n_law_pick p_law_pick (defScope s_law_pick) := ⟨rfl, rfl, rfl, by decide +kernel, rfl, by decide +kernel, by decide +kernel⟩
abbrev s_law_alike : Stmt := topS 33
abbrev n_law_alike : List Str := ["found", "due", "k"]
abbrev p_law_alike : List Str := ["found", "due"]
theorem sc_law_alike : FnScope n_law_alike p_law_alike (defScope s_law_alike) := ⟨rfl, rfl, rfl, by decide +kernel, rfl, by decide +kernel, by decide +kernel⟩
abbrev s_law_rows : Stmt := topS 34
abbrev n_law_rows : List Str := ["size", "arity", "found", "turn", "more", "told", "value"]
abbrev p_law_rows : List Str := ["size", "arity"]
theorem sc_law_rows : FnScope n_law_rows p_law_rows (defScope s_law_rows) := ⟨rfl, rfl, rfl, by decide +kernel, rfl, by decide +kernel, by decide +kernel⟩
abbrev s_law_tuples : Stmt := topS 35
abbrev n_law_tuples : List Str := ["things", "many", "found", "turn", "more", "told", "thing"]
abbrev p_law_tuples : List Str := ["things", "many"]
theorem sc_law_tuples : FnScope n_law_tuples p_law_tuples (defScope s_law_tuples) := ⟨rfl, rfl, rfl, by decide +kernel, rfl, by decide +kernel, by decide +kernel⟩
abbrev s_law_value : Stmt := topS 36
abbrev n_law_value : List Str := ["size", "operation", "arguments", "at", "argument"]
abbrev p_law_value : List Str := ["size", "operation", "arguments"]
theorem sc_law_value : FnScope n_law_value p_law_value (defScope s_law_value) := ⟨rfl, rfl, rfl, by decide +kernel, rfl, by decide +kernel, by decide +kernel⟩
abbrev s_law_carried : Stmt := topS 37
abbrev n_law_carried : List Str := ["size", "operation", "rows", "at", "told"]
abbrev p_law_carried : List Str := ["size", "operation", "rows"]
theorem sc_law_carried : FnScope n_law_carried p_law_carried (defScope s_law_carried) := ⟨rfl, rfl, rfl, by decide +kernel, rfl, by decide +kernel, by decide +kernel⟩
abbrev s_law_breaks : Stmt := topS 38
abbrev n_law_breaks : List Str := ["size", "operation", "relation", "known", "told", "rows"]
abbrev p_law_breaks : List Str := ["size", "operation", "relation"]
theorem sc_law_breaks : FnScope n_law_breaks p_law_breaks (defScope s_law_breaks) := ⟨rfl, rfl, rfl, by decide +kernel, rfl, by decide +kernel, by decide +kernel⟩
abbrev s_law_closed : Stmt := topS 39
abbrev n_law_closed : List Str := ["size", "operation", "arity", "rows", "known", "fresh", "told", "turn", "later", "some", "made"]
abbrev p_law_closed : List Str := ["size", "operation", "arity", "rows"]
theorem sc_law_closed : FnScope n_law_closed p_law_closed (defScope s_law_closed) := ⟨rfl, rfl, rfl, by decide +kernel, rfl, by decide +kernel, by decide +kernel⟩
abbrev s_law_kept : Stmt := topS 40
abbrev n_law_kept : List Str := ["row", "size", "operation", "arity", "rows", "found"]
abbrev p_law_kept : List Str := ["row", "size", "operation", "arity"]
theorem sc_law_kept : FnScope n_law_kept p_law_kept (defScope s_law_kept) := ⟨rfl, rfl, rfl, by decide +kernel, rfl, by decide +kernel, by decide +kernel⟩
abbrev s_law_named : Stmt := topS 41
abbrev n_law_named : List Str := ["size", "found", "told", "three"]
abbrev p_law_named : List Str := ["size"]
theorem sc_law_named : FnScope n_law_named p_law_named (defScope s_law_named) := ⟨rfl, rfl, rfl, by decide +kernel, rfl, by decide +kernel, by decide +kernel⟩
abbrev s_law_some_rows : Stmt := topS 42
abbrev n_law_some_rows : List Str := ["row", "size", "arity", "most", "every", "found", "turn", "told"]
abbrev p_law_some_rows : List Str := ["row", "size", "arity", "most"]
theorem sc_law_some_rows : FnScope n_law_some_rows p_law_some_rows (defScope s_law_some_rows) := ⟨rfl, rfl, rfl, by decide +kernel, rfl, by decide +kernel, by decide +kernel⟩
abbrev s_law : Stmt := topS 43
abbrev n_law : List Str := ["script", "row", "size", "arity", "minus", "relation", "shown", "rows", "one", "other", "place", "found", "due"]
abbrev p_law : List Str := ["script"]
theorem sc_law : FnScope n_law p_law (defScope s_law) := ⟨rfl, rfl, rfl, by decide +kernel, rfl, by decide +kernel, by decide +kernel⟩
abbrev s_Closing_init : Stmt := inClass (topS 29) 0
abbrev n_Closing_init : List Str := ["self", "steps", "arity", "_"]
abbrev p_Closing_init : List Str := ["self", "steps", "arity"]
theorem sc_Closing_init : FnScope n_Closing_init p_Closing_init (defScope s_Closing_init) := ⟨rfl, rfl, rfl, by decide +kernel, rfl, by decide +kernel, by decide +kernel⟩
abbrev s_Closing_keep : Stmt := inClass (topS 29) 1
abbrev n_Closing_keep : List Str := ["self", "row"]
abbrev p_Closing_keep : List Str := ["self", "row"]
theorem sc_Closing_keep : FnScope n_Closing_keep p_Closing_keep (defScope s_Closing_keep) := ⟨rfl, rfl, rfl, by decide +kernel, rfl, by decide +kernel, by decide +kernel⟩
abbrev s_Closing_close : Stmt := inClass (topS 29) 2
abbrev n_Closing_close : List Str := ["self", "most", "latest"]
abbrev p_Closing_close : List Str := ["self", "most"]
theorem sc_Closing_close : FnScope n_Closing_close p_Closing_close (defScope s_Closing_close) := ⟨rfl, rfl, rfl, by decide +kernel, rfl, by decide +kernel, by decide +kernel⟩
abbrev s_Closing_use : Stmt := inClass (topS 29) 3
abbrev n_Closing_use : List Str := ["self", "latest", "before", "states", "level", "known", "at", "first", "number"]
abbrev p_Closing_use : List Str := ["self", "latest"]
theorem sc_Closing_use : FnScope n_Closing_use p_Closing_use (defScope s_Closing_use) := ⟨rfl, rfl, rfl, by decide +kernel, rfl, by decide +kernel, by decide +kernel⟩
abbrev s_Closing_extend : Stmt := inClass (topS 29) 4
abbrev n_Closing_extend : List Str := ["self", "level", "state", "row", "step", "further", "number", "value"]
abbrev p_Closing_extend : List Str := ["self", "level", "state", "row"]
theorem sc_Closing_extend : FnScope n_Closing_extend p_Closing_extend (defScope s_Closing_extend) := ⟨rfl, rfl, rfl, by decide +kernel, rfl, by decide +kernel, by decide +kernel⟩
/-- the class as the top has made it -/
structure TClosing (K : PySem.W.Frag) (mg : Str → Option Value) where
  C : Addr
  g : mg "Closing" = some (.ref C)
  cl : Cls K C
  f_init : Addr
  fd_init : FuncData
  F_init : Fun K "__init__" "Closing.__init__" s_Closing_init f_init fd_init
  b_init : Binds K fd_init p_Closing_init []
  make : Mk K C f_init
  f_keep : Addr
  fd_keep : FuncData
  F_keep : Fun K "keep" "Closing.keep" s_Closing_keep f_keep fd_keep
  b_keep : Binds K fd_keep p_Closing_keep []
  h_keep : Meth K C "keep" f_keep
  f_close : Addr
  fd_close : FuncData
  F_close : Fun K "close" "Closing.close" s_Closing_close f_close fd_close
  b_close : Binds K fd_close p_Closing_close []
  h_close : Meth K C "close" f_close
  f_use : Addr
  fd_use : FuncData
  F_use : Fun K "_use" "Closing._use" s_Closing_use f_use fd_use
  b_use : Binds K fd_use p_Closing_use []
  h_use : Meth K C "_use" f_use
  f_extend : Addr
  fd_extend : FuncData
  F_extend : Fun K "_extend" "Closing._extend" s_Closing_extend f_extend fd_extend
  b_extend : Binds K fd_extend p_Closing_extend []
  h_extend : Meth K C "_extend" f_extend
  n_steps : NoAttr K C "steps"
  n_rows : NoAttr K C "rows"
  n_known : NoAttr K C "known"
  n_states : NoAttr K C "states"
/-- what the top has written: where each def stands, what is still a built-in -/
structure Txt (K : PySem.W.Frag) (mg : Str → Option Value) (base : Heap) where
  power_of : Dfn K mg "power_of" s_power_of p_power_of
  is_integer : Dfn K mg "is_integer" s_is_integer p_is_integer
  is_tuple : Dfn K mg "is_tuple" s_is_tuple p_is_tuple
  is_row : DfnG K mg base "is_row" s_is_row p_is_row
  is_relation : DfnG K mg base "is_relation" s_is_relation p_is_relation
  is_operation_arity : Dfn K mg "is_operation_arity" s_is_operation_arity p_is_operation_arity
  is_operation : Dfn K mg "is_operation" s_is_operation p_is_operation
  check_size : Dfn K mg "check_size" s_check_size p_check_size
  check_relation : Dfn K mg "check_relation" s_check_relation p_check_relation
  check_operation : Dfn K mg "check_operation" s_check_operation p_check_operation
  argument_steps : Dfn K mg "argument_steps" s_argument_steps p_argument_steps
  parts : Dfn K mg "_parts" s_parts p_parts
  numbered : Dfn K mg "_numbered" s_numbered p_numbered
  forks : Dfn K mg "forks" s_forks p_forks
  compact : Dfn K mg "compact" s_compact p_compact
  showing_pairs : Dfn K mg "_showing_pairs" s_showing_pairs p_showing_pairs
  closure : Dfn K mg "closure" s_closure p_closure
  law_taken : Dfn K mg "_law_taken" s_law_taken p_law_taken
  law_pick : Dfn K mg "_law_pick" s_law_pick p_law_pick
  law_alike : Dfn K mg "_law_alike" s_law_alike p_law_alike
  law_rows : Dfn K mg "_law_rows" s_law_rows p_law_rows
  law_tuples : Dfn K mg "_law_tuples" s_law_tuples p_law_tuples
  law_value : Dfn K mg "_law_value" s_law_value p_law_value
  law_carried : Dfn K mg "_law_carried" s_law_carried p_law_carried
  law_breaks : Dfn K mg "_law_breaks" s_law_breaks p_law_breaks
  law_closed : Dfn K mg "_law_closed" s_law_closed p_law_closed
  law_kept : Dfn K mg "_law_kept" s_law_kept p_law_kept
  law_named : Dfn K mg "_law_named" s_law_named p_law_named
  law_some_rows : Dfn K mg "_law_some_rows" s_law_some_rows p_law_some_rows
  law : Dfn K mg "law" s_law p_law
  Closing : TClosing K mg
  c_MOST_VALUES : ∃ t, mg "MOST_VALUES" = some (.int 4 t)
  c_MOST_PLACES : ∃ t, mg "MOST_PLACES" = some (.int 4 t)
  c_MOST_ARGUMENTS : ∃ t, mg "MOST_ARGUMENTS" = some (.int 8 t)
  c_LONGEST_TABLE : ∃ t, mg "LONGEST_TABLE" = some (.int 256 t)
  b_all : mg "all" = none
  b_bool : mg "bool" = none
  b_enumerate : mg "enumerate" = none
  b_int : mg "int" = none
  b_isinstance : mg "isinstance" = none
  b_len : mg "len" = none
  b_list : mg "list" = none
  b_max : mg "max" = none
  b_min : mg "min" = none
  b_range : mg "range" = none
  b_reversed : mg "reversed" = none
  b_set : mg "set" = none
  b_sorted : mg "sorted" = none
  b_str : mg "str" = none
  b_tuple : mg "tuple" = none
  b_zip : mg "zip" = none
variable {P : Program} {w : World} {K : PySem.W.Frag} {mg : Str → Option Value} {base : Heap}
abbrev Txt.tabs (T : Txt K mg base) : List Addr := [T.is_row.P, T.is_relation.P]
end K35

set_option Elab.async false
set_option linter.all false
set_option maxRecDepth 100000
set_option maxHeartbeats 4000000
namespace K35
open PySem PySem.Spec PyProof.Rows L2 TK
variable {P : Program} {w : World} {K : PySem.W.Frag} {mg : Str → Option Value} {base : Heap}
theorem tyT {H : Hp} {a : Addr} {xs : List V} (h : SqT K H a xs) : TyX K H (.ref a) (.type "tuple") := by
  rcases h with (h | ⟨o, h⟩) | ⟨o, its, n, h1, h2, _⟩
  · exact .base (.tup h)
  · exact .fTuple h
  · exact .kTuple h1 h2
/-! is_integer -/
def sp_is_integer : Sp := fun vs H Q _ => ∃ v lo hi : Int, vs = [.int v, .int lo, .int hi] ∧ Q (.bl (decide (lo ≤ v ∧ v ≤ hi))) H
theorem ok_is_integer (T : Txt K mg base) : FnOk P w K mg base CX0 1 T.is_integer.f T.is_integer.fd p_is_integer sp_is_integer := by
  refine T.is_integer.F.ok sc_is_integer (fun vs H Q E h => ?_) (fun A outer s H vs Q E hr h => ?_)
  · obtain ⟨v, lo, hi, rfl, _⟩ := h
    rfl
  · obtain ⟨v, lo, hi, rfl, q⟩ := h
    refine ⟨_, pss_one (ps_ret (pe_and (pe_callB call_isi (by rfl) T.b_isinstance boot_isinstance (pa_cons (pv 0) (pa_cons (pe_bltn (v := .ty "int") (by rfl) T.b_int boot_int rfl) pa_nil)))
      (pe_and (pe_not (pe_callB call_isi (by rfl) T.b_isinstance boot_isinstance (pa_cons (pv 0) (pa_cons (pe_bltn (v := .ty "bool") (by rfl) T.b_bool boot_bool rfl) pa_nil))))
        (pe_one (pe_chain op_le op_le (pv 1) (pv 0) (pv 2)))))), ?_⟩
    refine ⟨.int v, rfl, .int v, .ty "int", _, _, true, rfl, .ty _, .base (.int v), kit_ty (by decide +kernel), true, rfl, iteT ?_⟩
    refine ⟨.int v, rfl, .int v, .ty "bool", _, _, false, rfl, .ty _, .base (.int v), kit_ty (by decide +kernel), false, rfl, true, rfl, iteT ?_⟩
    refine ⟨.int lo, rfl, .int v, rfl, lo, v, rfl, rfl, _, rfl, ?_⟩
    by_cases h1 : lo ≤ v
    · rw [if_pos (decide_eq_true h1)]
      refine ⟨.int hi, rfl, v, hi, rfl, rfl, ?_⟩
      have e : decide (lo ≤ v ∧ v ≤ hi) = decide (v ≤ hi) := by simp [h1]
      rw [e] at q
      exact q
    · rw [if_neg (by simp [h1])]
      have e : decide (lo ≤ v ∧ v ≤ hi) = false := by simp [h1]
      rw [e] at q
      exact q
/-! is_tuple -/
def sp_is_tuple (K : PySem.W.Frag) : Sp := fun vs H Q _ => ∃ (v : V) (ds : List PyData) (lo hi : Int), vs = [v, .int lo, .int hi] ∧ DT K H v (.tuple ds) ∧ Q (.bl (decide (lo ≤ (ds.length : Int) ∧ (ds.length : Int) ≤ hi))) H
theorem ok_is_tuple (T : Txt K mg base) : FnOk P w K mg base CX0 1 T.is_tuple.f T.is_tuple.fd p_is_tuple (sp_is_tuple K) := by
  refine T.is_tuple.F.ok sc_is_tuple (fun vs H Q E h => ?_) (fun A outer s H vs Q E hr h => ?_)
  · obtain ⟨v, ds, lo, hi, rfl, _⟩ := h
    rfl
  · obtain ⟨v, ds, lo, hi, rfl, hv, q⟩ := h
    obtain ⟨a, xs, rfl, hS, hD⟩ := hv.tup_inv
    refine ⟨_, pss_one (ps_ret (pe_and (pe_callB call_isi (by rfl) T.b_isinstance boot_isinstance (pa_cons (pv 0) (pa_cons (pe_bltn (v := .ty "tuple") (by rfl) T.b_tuple boot_tuple rfl) pa_nil)))
        (pe_one (pe_chain op_le op_le (pv 1) (pe_callB call_len_seq (by rfl) T.b_len PySem.boot_len (pa_cons (pv 0) pa_nil)) (pv 2))))), ?_⟩
    refine ⟨.ref a, rfl, .ref a, .ty "tuple", _, _, true, rfl, .ty _, tyT hS, kit_ty (by decide +kernel), true, rfl, iteT ?_⟩
    refine ⟨.int lo, rfl, .ref a, rfl, a, xs, rfl, .inr hS, lo, _, rfl, rfl, _, rfl, ?_⟩
    rw [hD.1]
    by_cases h1 : lo ≤ (ds.length : Int)
    · rw [if_pos (decide_eq_true h1)]
      refine ⟨.int hi, rfl, _, hi, rfl, rfl, ?_⟩
      have e : decide (lo ≤ (ds.length : Int) ∧ (ds.length : Int) ≤ hi) = decide ((ds.length : Int) ≤ hi) := by simp [h1]
      rw [e] at q
      exact q
    · rw [if_neg (by simp [h1])]
      have e : decide (lo ≤ (ds.length : Int) ∧ (ds.length : Int) ≤ hi) = false := by simp [h1]
      rw [e] at q
      exact q
/-! is_row -/
def sp_is_row (T : Txt K mg base) : Sp := fun vs H Q _ => ∃ (sz ar : Int) (v : V) (ns : List Int), vs = [.int sz, .int ar, v] ∧ DT K H v (rowD ns) ∧ TT T.tabs H ∧ (ns.length : Int) = ar ∧ (∀ x ∈ ns, 0 ≤ x ∧ x ≤ sz - 1) ∧ ∀ H', Gr H H' → Q (.bl true) H'
theorem ok_is_row (T : Txt K mg base) : FnOk P w K mg base CX0 4 T.is_row.f T.is_row.fd p_is_row (sp_is_row T) := by
  refine T.is_row.F.ok sc_is_row (fun vs H Q E h => ?_) (fun A outer s H vs Q E hr h => ?_)
  · obtain ⟨sz, ar, v, ns, rfl, _⟩ := h
    rfl
  · obtain ⟨sz, ar, v, ns, rfl, hv, hT, hl, hn, q⟩ := h
    obtain ⟨a, rfl, hS⟩ := hv.row_inv
    refine ⟨_, pss_one (ps_ret (pe_and (pe_call (ok_is_tuple T) (hr.mono (by decide)) (by rfl) T.is_tuple.g T.is_tuple.F.kp T.is_tuple.b .nil pass0 (pa_cons (pv 2) (pa_cons (pv 1) (pa_cons (pv 1) pa_nil))))
      (pe_one (GA.pe_all (k := 1) hr (by rfl) T.b_all T.is_row.TB rfl (GA.gNames_by (N := n_is_row) (M := ["size", "arity", "value", "entry"]) (sc := defScope s_is_row) (by decide +kernel)) (pi_tup (pv 2))
        (fun A sz Hz C code fp pn hrA => pe_call (ok_is_integer T) hrA (by rfl) T.is_integer.g T.is_integer.F.kp T.is_integer.b .nil pass0 (pa_cons (pv 3) (pa_cons pe_int (pa_cons (pe_op op_sub (pv 0) pe_int) pa_nil)))))))), ?_⟩
    refine ⟨.ref a, rfl, .int ar, rfl, .int ar, rfl, .ref a, _, ar, ar, rfl, hv, _, rfl, ?_⟩
    rw [List.length_map, hl, decide_eq_true ⟨Int.le_refl _, Int.le_refl _⟩]
    refine iteT ⟨.ref a, rfl, a, rfl, ⟨_, hS⟩, hT _ (by simp), fun H2 ht => ⟨ns.length, fun i H' => Gr H H', Gx.tabbed (hT _ (by simp)) ht, fun i H3 hi hw => ?_, fun H3 hw => ?_⟩⟩
    · have e : (ns.map V.int)[i]? = some (.int ns[i]) := by
        rw [List.getElem?_map, List.getElem?_eq_getElem hi]
        rfl
      refine ⟨⟨_, _, hw.seqT hS, e⟩, fun x H4 hy => ?_⟩
      obtain ⟨rfl, hx⟩ := hy
      have ex : x = .int ns[i] := Option.some.inj ((hx _ (hw.seqT hS)).symm.trans e)
      subst ex
      refine ⟨_, rfl, .int sz, rfl, sz, 1, rfl, rfl, ns[i], 0, sz - 1, rfl, _, rfl, fun _ => hw, fun hf => ?_⟩
      have := hn ns[i] (List.getElem_mem hi)
      rw [decide_eq_true this] at hf
      cases hf
    · exact ⟨⟨_, hw.seqT hS, by rw [List.length_map]; exact Nat.le_refl _⟩, q H3 hw⟩

/-! is_relation -/
def iZipK (K : PySem.W.Frag) (v u : V) (H1 : Hp) (R : It → Hp → Prop) : Prop := ∃ a b xs ys, [v, u] = [V.ref a, V.ref b] ∧ ((SqL K H1 a xs ∧ SqL K H1 b ys ∧ R (Itz K a b) H1) ∨ (SqT K H1 a xs ∧ SqT K H1 b ys ∧ R (RZ.ItzT K a b) H1))
/-- right rows, ascending, each once -/
structure RelOk (sz ar : Int) (rows : List (List Int)) : Prop where
  ar1 : 1 ≤ ar
  ar4 : ar ≤ 4
  len : ∀ r ∈ rows, (r.length : Int) = ar
  val : ∀ r ∈ rows, ∀ x ∈ r, 0 ≤ x ∧ x ≤ sz - 1
  asc : rows.Pairwise fun r q => HT.lexLt r q = true
  most : rows.length ≤ 1000
def sp_is_relation (T : Txt K mg base) : Sp := fun vs H Q _ => ∃ (sz ar : Int) (v : V) (rows : List (List Int)), vs = [.int sz, v] ∧ DT K H v (relD ar rows) ∧ TT T.tabs H ∧ RelOk sz ar rows ∧ ∀ H', Gr H H' → Q (.bl true) H'
theorem ok_is_relation (T : Txt K mg base) : FnOk P w K mg base CX0 7 T.is_relation.f T.is_relation.fd p_is_relation (sp_is_relation T) := by
  refine T.is_relation.F.ok sc_is_relation (fun vs H Q E h => ?_) (fun A outer s H vs Q E hr h => ?_)
  · obtain ⟨sz, ar, v, rows, rfl, _⟩ := h
    rfl
  · obtain ⟨sz, ar, v, rows, rfl, hv, hT, ok, q⟩ := h
    obtain ⟨tp, hMP⟩ := T.c_MOST_PLACES
    obtain ⟨a, b, xs, rfl, hS, hB, hD⟩ := hv.rel_inv
    have hx : xs.length = rows.length := by rw [hD.1, List.length_map]
    refine ⟨_, pss_cons (ps_if (pt_not (pt_val (pe_call (ok_is_tuple T) (hr.mono (by decide)) (by rfl) T.is_tuple.g T.is_tuple.F.kp T.is_tuple.b .nil pass0 (pa_cons (pv 1) (pa_cons pe_int (pa_cons pe_int pa_nil)))))) (pss_one ps_never) pss_nil)
      (pss_cons (ps_asg (pv 1) (pg_tup (by rfl) (pgs_cons (pg_name (i := 2) sc_is_relation.nd rfl (.inr rfl)) (pgs_cons (pg_name (i := 3) sc_is_relation.nd rfl (.inl rfl)) pgs_nil))))
      (pss_cons (ps_if (PW.pt (pw_or (pt_not (pt_val (pe_call (ok_is_integer T) (hr.mono (by decide)) (by rfl) T.is_integer.g T.is_integer.F.kp T.is_integer.b .nil pass0 (pa_cons (pv 2) (pa_cons pe_int (pa_cons (pe_glob (v := .int 4) rfl hMP ⟨_, rfl⟩) pa_nil))))))
          (pw_or1 (pt_not (pt_val (pe_callB call_isi (by rfl) T.b_isinstance boot_isinstance (pa_cons (pv 3) (pa_cons (pe_bltn (v := .ty "tuple") (by rfl) T.b_tuple boot_tuple rfl) pa_nil)))))))) (pss_one ps_never) pss_nil)
      (pss_cons (ps_if (pt_not (pt_val (GA.pe_all (k := 4) hr (by rfl) T.b_all T.is_relation.TB rfl (GA.gNames_by (N := n_is_relation) (M := ["size", "value", "arity", "rows", "-", "following", "row"]) (sc := defScope s_is_relation) (by decide +kernel)) (pi_tup (pv 3))
          (fun A sz Hz C code fp pn hrA => pe_call (ok_is_row T) hrA (by rfl) T.is_row.g T.is_row.F.kp T.is_row.b .nil pass0 (pa_cons (pv 0) (pa_cons (pv 2) (pa_cons (pv 6) pa_nil))))))) (pss_one ps_never) pss_nil)
      (pss_one (ps_ret (pe_callB (cr_all rfl) (by rfl) T.b_all boot_all (pa_cons (pe_lc (own := [("row", 4), ("following", 5)]) (g := gTup K 2 (gCons (gName 4) (gCons (gName 5) gNil))) (tt := tYes) rfl sc_is_relation.nd
          (RZ.pi_zipA (by rfl) T.b_zip (pa_cons (pv 3) (pa_cons (pe_slice sl_tupA (pv 3) (po_some pe_int) po_none) pa_nil)))
          (blkOk_by (N := n_is_relation) (sc := defScope s_is_relation) (by decide +kernel)) (fun _ _ _ _ _ => pg_tup (by rfl) (pgs_cons (pg_name (i := 4) sc_is_relation.nd rfl (Or.inl rfl)) (pgs_cons (pg_name (i := 5) sc_is_relation.nd rfl (Or.inl rfl)) pgs_nil)))
          (fun _ _ _ _ _ => pts_nil) (fun _ _ _ _ _ => pe_cmpR (op_ltTK K hr.units0) (pv 4) (pv 5) (nomark _))) pa_nil))))))), ?_⟩
    -- the kind of pair
    refine ⟨.ref a, rfl, .ref a, _, 2, 2, rfl, hv, _, rfl, ?_⟩
    refine iteF ?_
    -- arity, rows = value
    refine ⟨.ref a, rfl, a, _, rfl, hS, rfl, .int ar, [.ref b], rfl, .ref b, [], rfl, rfl, ?_⟩
    refine ⟨.int ar, rfl, ar, 1, 4, rfl, _, rfl, ?_⟩
    rw [decide_eq_true ⟨ok.ar1, ok.ar4⟩]
    refine iteF ?_
    refine ⟨.ref b, rfl, .ref b, .ty "tuple", _, _, true, rfl, .ty _, tyT hB, kit_ty (by decide +kernel), true, rfl, ?_⟩
    refine iteF ?_
    -- all rows are rows
    refine ⟨.ref b, rfl, b, rfl, ⟨_, hB⟩, hT _ (by simp), fun H2 ht => ⟨rows.length, fun i H' => Gr H H', Gx.tabbed (hT _ (by simp)) ht, fun i H3 hi hw => ?_, fun H3 hw => ?_⟩⟩
    · obtain ⟨vi, e, dvi⟩ := hD.at (i := i) (d := rowD rows[i]) (by rw [List.getElem?_map, List.getElem?_eq_getElem hi]; rfl)
      refine ⟨⟨_, _, hw.seqT hB, e⟩, fun x H4 hy => ?_⟩
      obtain ⟨rfl, hx⟩ := hy
      have ex : x = vi := Option.some.inj ((hx _ (hw.seqT hB)).symm.trans e)
      subst ex
      have hm := List.getElem_mem hi
      exact ⟨.int sz, rfl, .int ar, rfl, x, rfl, sz, ar, x, rows[i], rfl, dvi.gr hw, hw.tt hT, ok.len _ hm, ok.val _ hm, fun H' g => ⟨true, rfl, fun _ => hw.trans g, fun z => by cases z⟩⟩
    · refine ⟨⟨_, hw.seqT hB, by rw [hx]; exact Nat.le_refl _⟩, true, rfl, ?_⟩
      refine iteF ?_
      -- each row is less than the next one
      have key : ∀ (d : Addr) (Hd : Hp), Gr H Hd → SqT K Hd d (xs.drop 1) → iZipK K (.ref b) (.ref d) Hd (fun J H1 => ∀ D, H1 D = none → ∃ W : Nat → Nat → Hp → Prop, (∃ m, W 0 m (upd H1 D (.lst []))) ∧ ∀ i m H, W i m H →
          (J.stop i H ∧ ∃ (a : Addr) (bs : List Bool), [V.ref D] = [V.ref a] ∧ SqL K H a (bs.map V.bl) ∧ Q (.bl (bs.all id)) H) ∨ (J.go i H ∧ ∃ Nx : Hp → Prop, (∀ H', Nx H' → ∃ m', m' < m ∧ W (i + 1) m' H') ∧ ∀ x H', J.yld i H x H' → gTup K 2 (gCons (gName 4) (gCons (gName 5) gNil)) x (wipe [some (.int sz), some (.ref a), some (.int ar), some (.ref b), none, none] [4, 5]) H' fun σ2 H2 => wipe σ2 [4, 5] = wipe [some (.int sz), some (.ref a), some (.int ar), some (.ref b), none, none] [4, 5] ∧ tYes σ2 H2 fun b H3 =>
            if b = true then tOp (rLtT K) (tVar 4) (tVar 5) σ2 H3 fun y H4 => ∃ acc, H4 D = some (.lst acc) ∧ acc.length < sizeLine ∧ Nx (upd H4 D (.lst (acc ++ [y]))) else Nx H3)) := fun d Hd g hd => by
        refine ⟨b, d, xs, xs.drop 1, rfl, .inr ⟨g.seqT hB, hd, fun D hD0 => ?_⟩⟩
        have nD : H D = none := g.free hD0
        refine lc_zipT (rows.length - 1) (by omega) (by rw [List.length_drop]; omega) (.inr (by rw [List.length_drop]; omega)) (fun i H' => Gr Hd H' ∧ ∃ bs : List Bool, bs.length = i ∧ bs.all id = true ∧ H' D = some (.lst (bs.map V.bl)))
          ⟨Gx.new hD0, [], rfl, rfl, upd_same⟩ (fun i H' _ p => ⟨(g.trans p.1).seqT hB, p.1.seqT hd⟩) (fun i x y T H' e1 e2 p hT0 => ?_) (fun H' p => ?_)
        · obtain ⟨g1, bs, hl, hall, hb⟩ := p
          rw [List.getElem?_drop, Nat.add_comm] at e2
          obtain ⟨d1, f1, dv1⟩ := hD.at' e1
          obtain ⟨d2, f2, dv2⟩ := hD.at' e2
          rw [List.getElem?_map] at f1 f2
          obtain ⟨r1, h1, rfl⟩ := Option.map_eq_some_iff.mp f1
          obtain ⟨r2, h2, rfl⟩ := Option.map_eq_some_iff.mp f2
          have gT : Gr H (upd H' T (.tup [x, y])) := (g.trans g1).trans (Gx.new hT0)
          obtain ⟨a1, rfl, s1⟩ := (dv1.gr gT).row_inv
          obtain ⟨a2, rfl, s2⟩ := (dv2.gr gT).row_inv
          refine ⟨T, [.ref a1, .ref a2], rfl, .inl (.inl upd_same), rfl, .ref a1, [.ref a2], rfl, .ref a2, [], rfl, rfl, rfl, ?_⟩
          refine yesT ⟨.ref a1, rfl, .ref a2, rfl, a1, a2, r1, r2, rfl, rfl, s1, s2, bs.map V.bl, ?_, ?_, ?_⟩
          · rw [upd_ne (ne_of_none hb hT0)]
            exact hb
          · rw [List.length_map]
            exact small1000 (by have := ok.most; have := (List.getElem?_eq_some_iff.mp e1).1; omega)
          · have hlt : HT.lexLt r1 r2 = true := pair_at ok.asc h1 h2
            rw [hlt]
            exact ⟨(g1.trans (Gx.new hT0)).wr hD0, bs ++ [true], by rw [List.length_append, hl]; rfl, by rw [List.all_append, hall]; rfl, by rw [upd_same, List.map_append]; rfl⟩
        · obtain ⟨g1, bs, hl, hall, hb⟩ := p
          exact ⟨D, bs, rfl, .inl (.inl hb), by rw [hall]; exact q _ (g.trans g1)⟩
      refine ⟨.ref b, rfl, .ref b, rfl, 1, rfl, b, xs, rfl, hw.seqT hB, fun z => ?_, fun _ p np => ?_⟩
      · have e : xs = [] := List.length_eq_zero_iff.mp (sixZero z.1)
        refine key b H3 hw ?_
        have := hw.seqT hB
        rw [e] at this ⊢
        exact this
      · refine key p _ (hw.trans (Gx.new np)) ?_
        rw [← cut1]
        exact .inl (.inl upd_same)

end K35

set_option Elab.async false
set_option linter.all false
/-! plain mathematics of rows -/
namespace MR
/-- each row with each value behind it -/
def ext (sz : Nat) (rows : List (List Int)) : List (List Int) := rows.flatMap fun r => (List.range sz).map fun (v : Nat) => r ++ [(v : Int)]
def allRows (sz : Nat) : Nat → List (List Int)
  | 0 => [[]]
  | n + 1 => ext sz (allRows sz n)
/-- i rows done, j values of the next one -/
def part (sz : Nat) (rows : List (List Int)) (i j : Nat) : List (List Int) := ext sz (rows.take i) ++ match rows[i]? with
  | some r => (List.range j).map fun (v : Nat) => r ++ [(v : Int)]
  | none => []
theorem ext_len (sz : Nat) (rows : List (List Int)) : (ext sz rows).length = rows.length * sz := by
  induction rows with
  | nil => simp [ext]
  | cons r rows ih =>
    unfold ext at ih ⊢
    rw [List.flatMap_cons, List.length_append, ih, List.length_map, List.length_range, List.length_cons, Nat.add_mul]
    omega
theorem ext_app (sz : Nat) (a b : List (List Int)) : ext sz (a ++ b) = ext sz a ++ ext sz b := by
  unfold ext
  rw [List.flatMap_append]
theorem ext_one (sz : Nat) (r : List Int) : ext sz [r] = (List.range sz).map fun (v : Nat) => r ++ [(v : Int)] := by
  unfold ext
  simp
theorem part_zero (sz : Nat) (rows : List (List Int)) : part sz rows 0 0 = [] := by
  unfold part
  cases rows with
  | nil => rfl
  | cons r rows => rfl
theorem part_step {sz : Nat} {rows : List (List Int)} {i j : Nat} {r : List Int} (h : rows[i]? = some r) : part sz rows i (j + 1) = part sz rows i j ++ [r ++ [(j : Int)]] := by
  unfold part
  rw [h]
  show ext sz (rows.take i) ++ (List.range (j + 1)).map (fun (v : Nat) => r ++ [(v : Int)]) = ext sz (rows.take i) ++ (List.range j).map (fun (v : Nat) => r ++ [(v : Int)]) ++ [r ++ [(j : Int)]]
  rw [List.range_succ, List.map_append, ← List.append_assoc]
  rfl
theorem part_next {sz : Nat} {rows : List (List Int)} {i : Nat} (h : i < rows.length) : part sz rows i sz = part sz rows (i + 1) 0 := by
  unfold part
  have e : rows[i]? = some rows[i] := List.getElem?_eq_getElem h
  have z : (match rows[i + 1]? with | some r => (List.range 0).map fun (v : Nat) => r ++ [(v : Int)] | none => []) = [] := by
    cases rows[i + 1]? <;> rfl
  rw [e, z, List.append_nil, List.take_add_one, e, ext_app]
  show _ = ext sz (rows.take i) ++ ext sz [rows[i]]
  rw [ext_one]
theorem part_end (sz : Nat) (rows : List (List Int)) : part sz rows rows.length 0 = ext sz rows := by
  unfold part
  rw [List.getElem?_eq_none (Nat.le_refl _), List.append_nil, List.take_length]
theorem part_len {sz : Nat} {rows : List (List Int)} {i j : Nat} (hj : j ≤ sz) : (part sz rows i j).length ≤ rows.length * sz := by
  unfold part
  rw [List.length_append, ext_len, List.length_take]
  cases h : rows[i]? with
  | none =>
    have : min i rows.length * sz ≤ rows.length * sz := Nat.mul_le_mul_right _ (Nat.min_le_right _ _)
    simpa using this
  | some r =>
    have hi : i < rows.length := (List.getElem?_eq_some_iff.mp h).1
    show min i rows.length * sz + ((List.range j).map _).length ≤ _
    rw [List.length_map, List.length_range, Nat.min_eq_left (Nat.le_of_lt hi)]
    have : (i + 1) * sz ≤ rows.length * sz := Nat.mul_le_mul_right _ hi
    rw [Nat.add_mul] at this
    omega
theorem allRows_len (sz n : Nat) : (allRows sz n).length = sz ^ n := by
  induction n with
  | zero => rfl
  | succ n ih =>
    show (ext sz (allRows sz n)).length = _
    rw [ext_len, ih, Nat.pow_succ]
theorem allRows_len_le {sz n : Nat} (hs : sz ≤ 4) (hn : n ≤ 4) : (allRows sz n).length ≤ 256 := by
  rw [allRows_len]
  exact Nat.le_trans (Nat.pow_le_pow_left hs n) (Nat.pow_le_pow_right (by omega) hn)
theorem mem_ext {sz : Nat} {rows : List (List Int)} {r : List Int} : r ∈ ext sz rows ↔ ∃ q ∈ rows, ∃ v : Nat, v < sz ∧ r = q ++ [(v : Int)] := by
  unfold ext
  rw [List.mem_flatMap]
  constructor
  · rintro ⟨q, hq, h⟩
    obtain ⟨v, hv, rfl⟩ := List.mem_map.mp h
    exact ⟨q, hq, v, List.mem_range.mp hv, rfl⟩
  · rintro ⟨q, hq, v, hv, rfl⟩
    exact ⟨q, hq, List.mem_map.mpr ⟨v, List.mem_range.mpr hv, rfl⟩⟩
theorem allRows_ok {sz : Nat} : ∀ {n : Nat} {r : List Int}, r ∈ allRows sz n → r.length = n ∧ ∀ x ∈ r, 0 ≤ x ∧ x < (sz : Int)
  | 0, r, h => by
    have : r = [] := by simpa [allRows] using h
    subst this
    exact ⟨rfl, fun x hx => by simp at hx⟩
  | n + 1, r, h => by
    obtain ⟨q, hq, v, hv, rfl⟩ := mem_ext.mp h
    obtain ⟨h1, h2⟩ := allRows_ok hq
    refine ⟨by rw [List.length_append, h1]; rfl, fun x hx => ?_⟩
    rcases List.mem_append.mp hx with hx | hx
    · exact h2 x hx
    · have : x = (v : Int) := by simpa using hx
      subst this
      omega

/-! each row of one with each row of the other behind it -/
def prod (a b : List (List Int)) : List (List Int) := a.flatMap fun f => b.map fun g => f ++ g
def part2 (a b : List (List Int)) (i j : Nat) : List (List Int) := prod (a.take i) b ++ match a[i]? with
  | some f => (b.take j).map fun g => f ++ g
  | none => []
theorem prod_app (a c b : List (List Int)) : prod (a ++ c) b = prod a b ++ prod c b := by
  unfold prod
  rw [List.flatMap_append]
theorem prod_one (f : List Int) (b : List (List Int)) : prod [f] b = b.map fun g => f ++ g := by
  unfold prod
  simp
theorem prod_len (a b : List (List Int)) : (prod a b).length = a.length * b.length := by
  induction a with
  | nil => simp [prod]
  | cons f a ih =>
    unfold prod at ih ⊢
    rw [List.flatMap_cons, List.length_append, ih, List.length_map, List.length_cons, Nat.add_mul]
    omega
theorem part2_zero (a b : List (List Int)) : part2 a b 0 0 = [] := by
  unfold part2
  cases a with
  | nil => rfl
  | cons f a => simp [prod]
theorem part2_step {a b : List (List Int)} {i j : Nat} {f g : List Int} (h : a[i]? = some f) (h2 : b[j]? = some g) : part2 a b i (j + 1) = part2 a b i j ++ [f ++ g] := by
  unfold part2
  rw [h]
  show prod (a.take i) b ++ (b.take (j + 1)).map _ = prod (a.take i) b ++ (b.take j).map _ ++ [_]
  rw [List.take_add_one, h2, List.map_append, ← List.append_assoc]
  rfl
theorem part2_next {a b : List (List Int)} {i : Nat} (h : i < a.length) : part2 a b i b.length = part2 a b (i + 1) 0 := by
  unfold part2
  have e : a[i]? = some a[i] := List.getElem?_eq_getElem h
  have z : (match a[i + 1]? with | some f => (b.take 0).map fun g => f ++ g | none => []) = [] := by
    cases a[i + 1]? <;> rfl
  rw [e, z, List.append_nil, List.take_add_one, e, prod_app]
  show prod (a.take i) b ++ (b.take b.length).map _ = prod (a.take i) b ++ prod [a[i]] b
  rw [prod_one, List.take_length]
theorem part2_end (a b : List (List Int)) : part2 a b a.length 0 = prod a b := by
  unfold part2
  rw [List.getElem?_eq_none (Nat.le_refl _), List.append_nil, List.take_length]
theorem part2_len {a b : List (List Int)} {i j : Nat} : (part2 a b i j).length ≤ a.length * b.length := by
  unfold part2
  rw [List.length_append, prod_len, List.length_take]
  cases h : a[i]? with
  | none =>
    have : min i a.length * b.length ≤ a.length * b.length := Nat.mul_le_mul_right _ (Nat.min_le_right _ _)
    simpa using this
  | some r =>
    have hi : i < a.length := (List.getElem?_eq_some_iff.mp h).1
    show min i a.length * b.length + ((b.take j).map _).length ≤ _
    rw [List.length_map, List.length_take, Nat.min_eq_left (Nat.le_of_lt hi)]
    have : (i + 1) * b.length ≤ a.length * b.length := Nat.mul_le_mul_right _ hi
    rw [Nat.add_mul] at this
    omega

/-! rows with equal entries at two places -/
def glue (rows : List (List Int)) (a b : Nat) : List (List Int) := rows.filter fun r => decide (r.getD a 0 = r.getD b 0)
theorem filter_step {α : Type} {l : List α} {p : α → Bool} {i : Nat} {x : α} (h : l[i]? = some x) : (l.take (i + 1)).filter p = (l.take i).filter p ++ if p x = true then [x] else [] := by
  rw [List.take_add_one, h, List.filter_append]
  by_cases hp : p x = true
  · simp [hp]
  · simp [hp]
end MR

set_option Elab.async false
set_option linter.all false
namespace MR
def idxI (sz : Nat) (as : List Int) : Int := as.foldl (fun (a x : Int) => a * (sz : Int) + x) 0
theorem idxI_app (sz : Nat) (as : List Int) (x : Int) : idxI sz (as ++ [x]) = idxI sz as * sz + x := by
  unfold idxI
  rw [List.foldl_append]
  rfl
theorem fold_bd {sz : Nat} : ∀ (as : List Int) (c : Int) (n : Nat), 0 ≤ c → c < (sz : Int) ^ n → (∀ x ∈ as, 0 ≤ x ∧ x < (sz : Int)) → 0 ≤ as.foldl (fun (a x : Int) => a * (sz : Int) + x) c ∧ as.foldl (fun (a x : Int) => a * (sz : Int) + x) c < (sz : Int) ^ (n + as.length)
  | [], c, n, h1, h2, _ => ⟨h1, h2⟩
  | x :: as, c, n, h1, h2, h => by
    obtain ⟨h3, h4⟩ := h x List.mem_cons_self
    have hs : (0 : Int) ≤ sz := Int.natCast_nonneg _
    have e : (c + 1) * (sz : Int) ≤ (sz : Int) ^ n * sz := Int.mul_le_mul_of_nonneg_right (by omega) hs
    rw [Int.add_mul, Int.one_mul] at e
    have q := fold_bd as (c * sz + x) (n + 1) (Int.add_nonneg (Int.mul_nonneg h1 hs) h3) (by rw [Int.pow_succ]; omega) fun y hy => h y (List.mem_cons_of_mem _ hy)
    rw [List.length_cons, show n + (as.length + 1) = n + 1 + as.length by omega]
    exact q
theorem idxI_bd {sz : Nat} (as : List Int) (h : ∀ x ∈ as, 0 ≤ x ∧ x < (sz : Int)) : 0 ≤ idxI sz as ∧ idxI sz as < (sz : Int) ^ as.length := by
  have q := fold_bd as 0 0 (Int.le_refl _) (by rw [Int.pow_zero]; decide) h
  rw [Nat.zero_add] at q
  exact q
theorem idxI_nat {sz : Nat} {as : List Int} (h : ∀ x ∈ as, 0 ≤ x ∧ x < (sz : Int)) : (idxI sz as).toNat < sz ^ as.length := by
  obtain ⟨h1, h2⟩ := idxI_bd as h
  have : ((idxI sz as).toNat : Int) < ((sz ^ as.length : Nat) : Int) := by
    rw [Int.toNat_of_nonneg h1, Int.natCast_pow]
    exact h2
  omega
/-- the row to which an operation with this table carries rows of so many places -/
def carried (sz : Nat) (tab : List Int) (rs : List (List Int)) (ar : Nat) : List Int := (List.range ar).map fun a => tab.getD (idxI sz (rs.map fun r => r.getD a 0)).toNat 0
theorem carried_len (sz : Nat) (tab : List Int) (rs : List (List Int)) (ar : Nat) : (carried sz tab rs ar).length = ar := by
  unfold carried
  rw [List.length_map, List.length_range]
theorem getD_ok {tab : List Int} {sz : Int} (h : ∀ x ∈ tab, 0 ≤ x ∧ x < sz) (hs : 0 < sz) (i : Nat) : 0 ≤ tab.getD i 0 ∧ tab.getD i 0 < sz := by
  rw [List.getD_eq_getElem?_getD]
  cases e : tab[i]? with
  | none => exact ⟨Int.le_refl _, hs⟩
  | some x => exact h x (List.mem_of_getElem? e)
theorem carried_ok {sz : Nat} {tab : List Int} {rs : List (List Int)} {ar : Nat} (h : ∀ x ∈ tab, 0 ≤ x ∧ x < (sz : Int)) (hs : 1 ≤ sz) : ∀ x ∈ carried sz tab rs ar, 0 ≤ x ∧ x < (sz : Int) := fun x hx => by
  unfold carried at hx
  obtain ⟨a, _, rfl⟩ := List.mem_map.mp hx
  exact getD_ok h (by omega) _
end MR

set_option Elab.async false
set_option linter.all false
namespace MR
theorem ext_get {sz : Nat} (hs : 0 < sz) : ∀ (rows : List (List Int)) (i : Nat), (ext sz rows)[i]? = (rows[i / sz]?).map fun r => r ++ [((i % sz : Nat) : Int)]
  | [], i => by simp [ext]
  | r :: rows, i => by
    have e : ext sz (r :: rows) = ((List.range sz).map fun (v : Nat) => r ++ [(v : Int)]) ++ ext sz rows := by
      unfold ext
      rw [List.flatMap_cons]
    rw [e]
    by_cases h : i < sz
    · rw [List.getElem?_append_left (by rw [List.length_map, List.length_range]; exact h), Nat.div_eq_of_lt h, Nat.mod_eq_of_lt h, List.getElem?_map, List.getElem?_range h]
      rfl
    · rw [List.getElem?_append_right (by rw [List.length_map, List.length_range]; omega), List.length_map, List.length_range, ext_get hs rows (i - sz)]
      have e1 : i = (i - sz) + sz := by omega
      have e2 : i / sz = (i - sz) / sz + 1 := by
        conv => lhs; rw [e1]
        exact Nat.add_div_right _ hs
      have e3 : i % sz = (i - sz) % sz := by
        conv => lhs; rw [e1]
        exact Nat.add_mod_right _ _
      rw [e2, e3]
      rfl
theorem idx_row {sz : Nat} (hs : 0 < sz) : ∀ {n i : Nat} {r : List Int}, (allRows sz n)[i]? = some r → idxI sz r = (i : Int)
  | 0, i, r, h => by
    cases i with
    | zero =>
      have : r = [] := by simpa [allRows] using h.symm
      subst this
      rfl
    | succ i => simp [allRows] at h
  | n + 1, i, r, h => by
    have h' : ((allRows sz n)[i / sz]?).map (fun r => r ++ [((i % sz : Nat) : Int)]) = some r := by
      rw [← ext_get hs]
      exact h
    obtain ⟨q, hq, rfl⟩ := Option.map_eq_some_iff.mp h'
    rw [idxI_app, idx_row hs hq]
    have := Nat.div_add_mod i sz
    have e : (i : Int) = ((sz * (i / sz) + i % sz : Nat) : Int) := by rw [this]
    rw [e, Int.natCast_add, Int.natCast_mul, Int.mul_comm]
end MR

set_option Elab.async false
set_option linter.all false
namespace MR
/-! the rests of a table, argument by argument -/
def partAt (sz : Nat) (r : List Int) (v : Nat) : List Int := (r.drop (v * (r.length / sz))).take (r.length / sz)
def partsOf (sz : Nat) (r : List Int) : List (List Int) := (List.range sz).map (partAt sz r)
def addK (ks : List (List Int)) (r : List Int) : List (List Int) := if r ∈ ks then ks else ks ++ [r]
def keysOf (PP : List (List (List Int))) : List (List Int) := PP.flatten.foldl addK []
def idxIn (ks : List (List Int)) (r : List Int) : Int := ((ks.idxOf r : Nat) : Int)
def stepL (sz : Nat) (R : List (List Int)) : List (List Int) := R.map fun r => (partsOf sz r).map fun p => idxIn (keysOf (R.map (partsOf sz))) p
def lastL (sz : Nat) (R : List (List Int)) : List (List Int) := R.map fun r => (partsOf sz r).map fun p => p.getD 0 0
def stepsFrom (sz : Nat) : Nat → List (List Int) → List (List (List Int))
  | 0, _ => []
  | 1, R => [lastL sz R]
  | m + 2, R => stepL sz R :: stepsFrom sz (m + 1) (keysOf (R.map (partsOf sz)))
theorem mem_addK {ks : List (List Int)} {r x : List Int} : x ∈ addK ks r ↔ x ∈ ks ∨ x = r := by
  unfold addK
  by_cases h : r ∈ ks
  · rw [if_pos h]
    exact ⟨.inl, fun z => z.elim id fun e => e ▸ h⟩
  · rw [if_neg h, List.mem_append, List.mem_singleton]
theorem nodup_addK {ks : List (List Int)} {r : List Int} (h : ks.Nodup) : (addK ks r).Nodup := by
  unfold addK
  by_cases q : r ∈ ks
  · rw [if_pos q]
    exact h
  · rw [if_neg q, List.nodup_append]
    refine ⟨h, by simp, fun a ha b hb => ?_⟩
    rw [List.mem_singleton.mp hb]
    rintro rfl
    exact q ha
theorem len_addK {ks : List (List Int)} {r : List Int} : (addK ks r).length ≤ ks.length + 1 := by
  unfold addK
  by_cases q : r ∈ ks
  · rw [if_pos q]
    omega
  · rw [if_neg q, List.length_append]
    exact Nat.le_refl _
theorem mem_foldK : ∀ {l ks : List (List Int)} {x : List Int}, x ∈ l.foldl addK ks ↔ x ∈ ks ∨ x ∈ l
  | [], ks, x => by simp
  | r :: l, ks, x => by
    rw [List.foldl_cons, mem_foldK, mem_addK, List.mem_cons, or_assoc]
theorem nodup_foldK : ∀ {l ks : List (List Int)}, ks.Nodup → (l.foldl addK ks).Nodup
  | [], _, h => h
  | r :: l, ks, h => by
    rw [List.foldl_cons]
    exact nodup_foldK (nodup_addK h)
theorem len_foldK : ∀ {l ks : List (List Int)}, (l.foldl addK ks).length ≤ ks.length + l.length
  | [], ks => by simp
  | r :: l, ks => by
    rw [List.foldl_cons, List.length_cons]
    have := len_foldK (l := l) (ks := addK ks r)
    have := len_addK (ks := ks) (r := r)
    omega
theorem mem_keysOf {PP : List (List (List Int))} {x : List Int} : x ∈ keysOf PP ↔ ∃ P ∈ PP, x ∈ P := by
  unfold keysOf
  rw [mem_foldK, List.mem_flatten]
  simp
theorem nodup_keysOf (PP : List (List (List Int))) : (keysOf PP).Nodup := nodup_foldK List.nodup_nil
theorem partsOf_len (sz : Nat) (r : List Int) : (partsOf sz r).length = sz := by
  unfold partsOf
  rw [List.length_map, List.length_range]
theorem keysOf_len {sz : Nat} {R : List (List Int)} : (keysOf (R.map (partsOf sz))).length ≤ R.length * sz := by
  unfold keysOf
  have h := len_foldK (l := (R.map (partsOf sz)).flatten) (ks := [])
  have e : ((R.map (partsOf sz)).flatten).length = R.length * sz := by
    induction R with
    | nil => simp
    | cons r R ih =>
      rw [List.map_cons, List.flatten_cons, List.length_append, ih len_foldK, partsOf_len, List.length_cons, Nat.add_mul, Nat.one_mul]
      omega
  rw [e] at h
  simpa using h
theorem div_pow {sz m : Nat} (hs : 1 ≤ sz) {n : Nat} (h : n = sz ^ (m + 1)) : n / sz = sz ^ m := by
  rw [h, Nat.pow_succ]
  exact Nat.mul_div_cancel _ (by omega)
theorem partAt_len {sz m v : Nat} (hs : 1 ≤ sz) {r : List Int} (h : r.length = sz ^ (m + 1)) (hv : v < sz) : (partAt sz r v).length = sz ^ m := by
  unfold partAt
  rw [div_pow hs h, List.length_take, List.length_drop, h, Nat.pow_succ]
  have : (v + 1) * sz ^ m ≤ sz ^ m * sz := by rw [Nat.mul_comm (sz ^ m)]; exact Nat.mul_le_mul_right _ hv
  rw [Nat.add_mul, Nat.one_mul] at this
  omega
theorem partAt_get {sz m v i : Nat} (hs : 1 ≤ sz) {r : List Int} (h : r.length = sz ^ (m + 1)) (hi : i < sz ^ m) : (partAt sz r v).getD i 0 = r.getD (v * sz ^ m + i) 0 := by
  unfold partAt
  rw [div_pow hs h, List.getD_eq_getElem?_getD, List.getD_eq_getElem?_getD, List.getElem?_take, if_pos hi, List.getElem?_drop]
theorem mem_partsOf {sz : Nat} {r p : List Int} : p ∈ partsOf sz r ↔ ∃ v, v < sz ∧ p = partAt sz r v := by
  unfold partsOf
  rw [List.mem_map]
  exact ⟨fun ⟨v, hv, e⟩ => ⟨v, List.mem_range.mp hv, e.symm⟩, fun ⟨v, hv, e⟩ => ⟨v, List.mem_range.mpr hv, e.symm⟩⟩
theorem keys_len {sz m : Nat} (hs : 1 ≤ sz) {R : List (List Int)} (h : ∀ r ∈ R, r.length = sz ^ (m + 1)) : ∀ p ∈ keysOf (R.map (partsOf sz)), p.length = sz ^ m := fun p hp => by
  obtain ⟨P, hP, hp⟩ := mem_keysOf.mp hp
  obtain ⟨r, hr, rfl⟩ := List.mem_map.mp hP
  obtain ⟨v, hv, rfl⟩ := mem_partsOf.mp hp
  exact partAt_len hs (h r hr) hv
theorem idxIn_get {ks : List (List Int)} {r : List Int} (h : r ∈ ks) : (idxIn ks r).toNat < ks.length ∧ ks.getD (idxIn ks r).toNat [] = r ∧ 0 ≤ idxIn ks r := by
  unfold idxIn
  have hl := List.idxOf_lt_length_iff.mpr h
  refine ⟨by rw [Int.toNat_natCast]; exact hl, ?_, by omega⟩
  rw [Int.toNat_natCast, List.getD_eq_getElem?_getD, List.getElem?_eq_getElem hl, List.getElem_idxOf hl]
  rfl
/-! walking down the steps -/
def at3 (L : List (List Int)) (n v : Int) : Int := (L.getD n.toNat []).getD v.toNat 0
def walkS : List (List (List Int)) → Int → List Int → Int
  | L :: S, n, v :: vs => walkS S (at3 L n v) vs
  | _, n, _ => n
theorem idxI_cons (sz : Nat) (v : Int) (vs : List Int) : idxI sz (v :: vs) = v * (sz : Int) ^ vs.length + idxI sz vs := by
  have key : ∀ (vs : List Int) (c : Int), vs.foldl (fun (a x : Int) => a * (sz : Int) + x) c = c * (sz : Int) ^ vs.length + vs.foldl (fun (a x : Int) => a * (sz : Int) + x) 0 := by
    intro vs
    induction vs with
    | nil => intro c; simp
    | cons w vs ih =>
      intro c
      rw [List.foldl_cons, List.foldl_cons, ih (c * sz + w), ih (0 * sz + w), List.length_cons, Int.pow_succ, Int.add_mul, Int.zero_mul, Int.zero_add, Int.mul_assoc, Int.mul_comm (sz : Int) ((sz : Int) ^ vs.length)]
      omega
  unfold idxI
  rw [List.foldl_cons, key vs (0 * sz + v), Int.zero_mul, Int.zero_add]
theorem getD_map {α β : Type} {f : α → β} {l : List α} {i : Nat} {d : β} (e : α) (h : i < l.length) : (l.map f).getD i d = f (l.getD i e) := by
  rw [List.getD_eq_getElem?_getD, List.getD_eq_getElem?_getD, List.getElem?_map, List.getElem?_eq_getElem h]
  rfl
theorem partsOf_get {sz : Nat} {r : List Int} {v : Nat} (h : v < sz) : (partsOf sz r).getD v [] = partAt sz r v := by
  unfold partsOf
  rw [getD_map 0 (by rw [List.length_range]; exact h), List.getD_eq_getElem?_getD, List.getElem?_range h]
  rfl
theorem walk_steps {sz : Nat} (hs : 1 ≤ sz) : ∀ {m : Nat} {R : List (List Int)} {n : Int} {args : List Int}, (∀ r ∈ R, r.length = sz ^ (m + 1)) → n.toNat < R.length → args.length = m + 1 → (∀ x ∈ args, 0 ≤ x ∧ x < (sz : Int)) →
    walkS (stepsFrom sz (m + 1) R) n args = (R.getD n.toNat []).getD (idxI sz args).toNat 0
  | 0, R, n, [v], hR, hn, _, ha => by
    have hv := ha v List.mem_cons_self
    have hvn : v.toNat < sz := by omega
    have hr : (R.getD n.toNat []).length = sz ^ (0 + 1) := by
      rw [List.getD_eq_getElem?_getD, List.getElem?_eq_getElem hn]
      exact hR _ (List.getElem_mem hn)
    show at3 (lastL sz R) n v = _
    unfold at3 lastL
    rw [getD_map [] hn, getD_map [] (by rw [partsOf_len]; exact hvn), partsOf_get hvn, partAt_get hs hr (by simp)]
    have e : idxI sz [v] = v := by
      unfold idxI
      simp
    rw [e]
    simp
  | m + 1, R, n, v :: vs, hR, hn, hl, ha => by
    have hv := ha v List.mem_cons_self
    have hvn : v.toNat < sz := by omega
    have hvs : ∀ x ∈ vs, 0 ≤ x ∧ x < (sz : Int) := fun x hx => ha x (List.mem_cons_of_mem _ hx)
    have hl' : vs.length = m + 1 := by simpa using hl
    have hrm : R.getD n.toNat [] ∈ R := by
      rw [List.getD_eq_getElem?_getD, List.getElem?_eq_getElem hn]
      exact List.getElem_mem hn
    have hr := hR _ hrm
    show walkS (stepsFrom sz (m + 1) (keysOf (R.map (partsOf sz)))) (at3 (stepL sz R) n v) vs = _
    have e1 : at3 (stepL sz R) n v = idxIn (keysOf (R.map (partsOf sz))) (partAt sz (R.getD n.toNat []) v.toNat) := by
      unfold at3 stepL
      rw [getD_map [] hn, getD_map [] (by rw [partsOf_len]; exact hvn), partsOf_get hvn]
    have hm : partAt sz (R.getD n.toNat []) v.toNat ∈ keysOf (R.map (partsOf sz)) := mem_keysOf.mpr ⟨_, List.mem_map.mpr ⟨_, hrm, rfl⟩, mem_partsOf.mpr ⟨_, hvn, rfl⟩⟩
    obtain ⟨i1, i2, i3⟩ := idxIn_get hm
    have hb := idxI_nat hvs
    have h0 := (idxI_bd vs hvs).1
    rw [e1, walk_steps hs (keys_len hs hR) i1 hl' hvs, i2, partAt_get hs hr (by rw [← hl']; exact hb), idxI_cons, hl']
    congr 1
    have e2 : v = (v.toNat : Int) := by omega
    have e3 : idxI sz vs = ((idxI sz vs).toNat : Int) := by omega
    rw [e3, e2, ← Int.natCast_pow, ← Int.natCast_mul, ← Int.natCast_add, Int.toNat_natCast, Int.toNat_natCast, Int.toNat_natCast]
/-- the steps' numbers stand within the next step -/
def okS (sz : Nat) : List (List (List Int)) → Nat → Prop
  | [], _ => True
  | L :: S, w => L.length = w ∧ (∀ row ∈ L, row.length = sz) ∧ ∃ w' : Nat, (∀ row ∈ L, ∀ x ∈ row, S ≠ [] → 0 ≤ x ∧ x < (w' : Int)) ∧ okS sz S w'
theorem okS_steps {sz : Nat} : ∀ {m : Nat} (R : List (List Int)), okS sz (stepsFrom sz (m + 1) R) R.length
  | 0, R => by
    refine ⟨by unfold lastL; rw [List.length_map], fun row h => ?_, 0, fun row _ x _ q => absurd rfl q, trivial⟩
    obtain ⟨r, _, rfl⟩ := List.mem_map.mp h
    rw [List.length_map, partsOf_len]
  | m + 1, R => by
    refine ⟨by unfold stepL; rw [List.length_map], fun row h => ?_, (keysOf (R.map (partsOf sz))).length, fun row h x hx _ => ?_, okS_steps _⟩
    · obtain ⟨r, _, rfl⟩ := List.mem_map.mp h
      rw [List.length_map, partsOf_len]
    · obtain ⟨r, hr, rfl⟩ := List.mem_map.mp h
      obtain ⟨p, hp, rfl⟩ := List.mem_map.mp hx
      obtain ⟨i1, _, i3⟩ := idxIn_get (mem_keysOf.mpr ⟨_, List.mem_map.mpr ⟨r, hr, rfl⟩, hp⟩)
      omega
theorem stepsFrom_len {sz : Nat} : ∀ {m : Nat} {R : List (List Int)}, (stepsFrom sz (m + 1) R).length = m + 1
  | 0, R => rfl
  | m + 1, R => by
    show (stepsFrom sz (m + 1) _).length + 1 = _
    rw [stepsFrom_len]
/-! the search for the least tuple of rows that is carried out -/
def stepSt (L : List (List Int)) (st r : List Int) : List Int := List.zipWith (at3 L) st r
def srch (rows : List (List Int)) : List (List (List Int)) → List Int → Option (List (List Int))
  | [], st => if st ∈ rows then none else some []
  | L :: S, st => rows.findSome? fun r => (srch rows S (stepSt L st r)).map (r :: ·)
def finalSt : List (List (List Int)) → List Int → List (List Int) → List Int
  | L :: S, st, r :: t => finalSt S (stepSt L st r) t
  | _, st, _ => st
def tuples (rows : List (List Int)) : Nat → List (List (List Int))
  | 0 => [[]]
  | n + 1 => rows.flatMap fun r => (tuples rows n).map (r :: ·)
theorem srch_find (rows : List (List Int)) : ∀ (S : List (List (List Int))) (st : List Int), srch rows S st = (tuples rows S.length).find? fun t => decide (finalSt S st t ∉ rows)
  | [], st => by
    show (if st ∈ rows then none else some []) = [[]].find? _
    by_cases h : st ∈ rows
    · rw [if_pos h, List.find?_cons_of_neg (by simp [finalSt, h])]
      rfl
    · rw [if_neg h, List.find?_cons_of_pos (by simp [finalSt, h])]
  | L :: S, st => by
    show (rows.findSome? fun r => (srch rows S (stepSt L st r)).map (r :: ·)) = (rows.flatMap fun r => (tuples rows S.length).map (r :: ·)).find? _
    rw [List.find?_flatMap]
    congr 1
    funext r
    rw [List.find?_map, srch_find rows S (stepSt L st r)]
    rfl
theorem stepSt_range {L : List (List Int)} {ar : Nat} {f : Nat → Int} {r : List Int} (h : r.length = ar) : stepSt L ((List.range ar).map f) r = (List.range ar).map fun a => at3 L (f a) (r.getD a 0) := by
  unfold stepSt
  refine List.ext_getElem? fun i => ?_
  rw [List.getElem?_zipWith, List.getElem?_map, List.getElem?_map]
  by_cases hi : i < ar
  · have hr : i < r.length := by omega
    have e : r.getD i 0 = r[i] := by
      rw [List.getD_eq_getElem?_getD, List.getElem?_eq_getElem hr]
      rfl
    rw [List.getElem?_range hi, List.getElem?_eq_getElem hr]
    show some (at3 L (f i) r[i]) = some (at3 L (f i) (r.getD i 0))
    rw [e]
  · rw [List.getElem?_eq_none (by rw [List.length_range]; omega)]
    rfl
theorem finalSt_range {ar : Nat} : ∀ {S : List (List (List Int))} {f : Nat → Int} {t : List (List Int)}, (∀ r ∈ t, r.length = ar) → t.length = S.length → finalSt S ((List.range ar).map f) t = (List.range ar).map fun a => walkS S (f a) (t.map fun r => r.getD a 0)
  | [], f, [], _, _ => rfl
  | L :: S, f, r :: t, h, hl => by
    show finalSt S (stepSt L _ r) t = _
    rw [stepSt_range (h r List.mem_cons_self), finalSt_range (fun q hq => h q (List.mem_cons_of_mem _ hq)) (by simpa using hl)]
    rfl
theorem mem_tuples {rows : List (List Int)} : ∀ {n : Nat} {t : List (List Int)}, t ∈ tuples rows n → t.length = n ∧ ∀ r ∈ t, r ∈ rows
  | 0, t, h => by
    have : t = [] := by simpa [tuples] using h
    subst this
    exact ⟨rfl, fun r hr => by simp at hr⟩
  | n + 1, t, h => by
    obtain ⟨r, hr, h⟩ := List.mem_flatMap.mp h
    obtain ⟨t', ht, rfl⟩ := List.mem_map.mp h
    obtain ⟨h1, h2⟩ := mem_tuples ht
    exact ⟨by rw [List.length_cons, h1], fun q hq => (List.mem_cons.mp hq).elim (fun e => e ▸ hr) (h2 q)⟩
theorem find_congr {α : Type} {p q : α → Bool} : ∀ {l : List α}, (∀ x ∈ l, p x = q x) → l.find? p = l.find? q
  | [], _ => rfl
  | x :: l, h => by
    rw [List.find?_cons, List.find?_cons, h x List.mem_cons_self, find_congr fun y hy => h y (List.mem_cons_of_mem _ hy)]
/-- the least tuple of rows that is carried out, None if there is none -/
def breakOf (sz : Nat) (tab : List Int) (k ar : Nat) (rows : List (List Int)) : Option (List (List Int)) := (tuples rows k).find? fun t => decide (carried sz tab t ar ∉ rows)
theorem srch_break {sz k ar : Nat} {tab : List Int} {rows : List (List Int)} (hs : 1 ≤ sz) (hk : 1 ≤ k) (ht : tab.length = sz ^ k) (hr : ∀ r ∈ rows, r.length = ar ∧ ∀ x ∈ r, 0 ≤ x ∧ x < (sz : Int)) :
    srch rows (stepsFrom sz k [tab]) ((List.range ar).map fun _ => 0) = breakOf sz tab k ar rows := by
  obtain ⟨m, rfl⟩ : ∃ m, k = m + 1 := ⟨k - 1, by omega⟩
  rw [srch_find, stepsFrom_len]
  unfold breakOf
  refine find_congr fun t h => ?_
  obtain ⟨h1, h2⟩ := mem_tuples h
  rw [finalSt_range (fun r q => (hr r (h2 r q)).1) (by rw [h1, stepsFrom_len])]
  unfold carried
  · have e : ((List.range ar).map fun a => walkS (stepsFrom sz (m + 1) [tab]) 0 (t.map fun r => r.getD a 0)) = (List.range ar).map fun a => tab.getD (idxI sz (t.map fun r => r.getD a 0)).toNat 0 := by
      refine List.map_congr_left fun a ha => ?_
      have ha := List.mem_range.mp ha
      rw [walk_steps hs (fun r q => by rw [List.mem_singleton.mp q, ht]) (by simp) (by rw [List.length_map, h1]) fun x hx => ?_]
      · rfl
      · obtain ⟨r, hr', rfl⟩ := List.mem_map.mp hx
        obtain ⟨e1, e2⟩ := hr r (h2 r hr')
        rw [List.getD_eq_getElem?_getD, List.getElem?_eq_getElem (show a < r.length by omega)]
        exact e2 _ (List.getElem_mem _)
    exact congrArg (fun z => decide (z ∉ rows)) e
/-! tuples by appending -/
def extT (rows : List (List Int)) (A : List (List (List Int))) : List (List (List Int)) := A.flatMap fun t => rows.map fun x => t ++ [x]
def tuplesR (rows : List (List Int)) : Nat → List (List (List Int))
  | 0 => [[]]
  | n + 1 => extT rows (tuplesR rows n)
theorem extT_cons {rows : List (List Int)} {r : List Int} {A : List (List (List Int))} : extT rows (A.map (r :: ·)) = (extT rows A).map (r :: ·) := by
  unfold extT
  rw [List.flatMap_map, List.map_flatMap]
  congr 1
  funext t
  rw [List.map_map]
  rfl
theorem extT_flat {rows : List (List Int)} {β : Type} {l : List β} {f : β → List (List (List Int))} : extT rows (l.flatMap f) = l.flatMap fun b => extT rows (f b) := by
  unfold extT
  rw [List.flatMap_assoc]
theorem tuples_ext (rows : List (List Int)) : ∀ n, tuples rows (n + 1) = extT rows (tuples rows n)
  | 0 => by
    show (rows.flatMap fun r => [[]].map (r :: ·)) = [[]].flatMap fun t => rows.map fun x => t ++ [x]
    simp [List.flatMap]
    induction rows with
    | nil => rfl
    | cons r rows ih => simp [ih]
  | n + 1 => by
    show (rows.flatMap fun r => (tuples rows (n + 1)).map (r :: ·)) = extT rows (rows.flatMap fun r => (tuples rows n).map (r :: ·))
    rw [extT_flat]
    congr 1
    funext r
    rw [tuples_ext rows n, extT_cons]
theorem tuplesR_eq (rows : List (List Int)) : ∀ n, tuplesR rows n = tuples rows n
  | 0 => rfl
  | n + 1 => by
    show extT rows (tuplesR rows n) = _
    rw [tuplesR_eq rows n, tuples_ext]
theorem tuples_len (rows : List (List Int)) : ∀ n, (tuples rows n).length = rows.length ^ n
  | 0 => rfl
  | n + 1 => by
    show (rows.flatMap fun r => (tuples rows n).map (r :: ·)).length = _
    rw [List.length_flatMap]
    have : (rows.map fun r => ((tuples rows n).map (r :: ·)).length) = rows.map fun _ => rows.length ^ n := by
      refine List.map_congr_left fun r _ => ?_
      rw [List.length_map, tuples_len rows n]
    rw [this, Nat.pow_succ, Nat.mul_comm]
    generalize rows.length ^ n = c
    clear this
    induction rows with
    | nil => simp
    | cons r rows ih => rw [List.map_cons, List.sum_cons, ih, List.length_cons, Nat.add_mul]; omega
/-! as many rows as there are -/
theorem len_le_of_sub : ∀ {l m : List (List Int)}, l.Nodup → (∀ x ∈ l, x ∈ m) → l.length ≤ m.length
  | [], _, _, _ => Nat.zero_le _
  | a :: l, m, nd, h => by
    obtain ⟨h1, h2⟩ := List.nodup_cons.mp nd
    have ha := h a List.mem_cons_self
    have := len_le_of_sub (m := m.erase a) h2 fun x hx => (List.mem_erase_of_ne (fun (e : x = a) => h1 (by rw [← e]; exact hx))).mpr (h x (List.mem_cons_of_mem _ hx))
    rw [List.length_erase_of_mem ha] at this
    have : 0 < m.length := List.length_pos_of_mem ha
    rw [List.length_cons]
    omega
theorem all_of_len {l m : List (List Int)} (nd : l.Nodup) (h : ∀ x ∈ l, x ∈ m) (hl : m.length ≤ l.length) : ∀ x ∈ m, x ∈ l := fun x hx => by
  by_cases q : x ∈ l
  · exact q
  · have := len_le_of_sub (l := x :: l) (m := m) (List.nodup_cons.mpr ⟨q, nd⟩) fun y hy => (List.mem_cons.mp hy).elim (fun e => e ▸ hx) (h y)
    rw [List.length_cons] at this
    omega
theorem mem_allRows {sz : Nat} : ∀ {n : Nat} {r : List Int}, r.length = n → (∀ x ∈ r, 0 ≤ x ∧ x < (sz : Int)) → r ∈ allRows sz n
  | 0, r, h, _ => by
    have : r = [] := List.length_eq_zero_iff.mp h
    subst this
    exact List.mem_singleton.mpr rfl
  | n + 1, r, h, hx => by
    have hne : r ≠ [] := fun z => by simp [z] at h
    have e := List.dropLast_concat_getLast hne
    have hl := hx _ (List.getLast_mem hne)
    rw [← e]
    exact mem_ext.mpr ⟨r.dropLast, mem_allRows (by rw [List.length_dropLast, h]; rfl) fun x q => hx x ((List.dropLast_sublist r).subset q), (r.getLast hne).toNat, by omega, by congr 2; omega⟩
theorem full_no_break {sz k ar : Nat} {tab : List Int} {rows : List (List Int)} (hs : 1 ≤ sz) (hv : ∀ x ∈ tab, 0 ≤ x ∧ x < (sz : Int)) (nd : rows.Nodup) (hr : ∀ r ∈ rows, r.length = ar ∧ ∀ x ∈ r, 0 ≤ x ∧ x < (sz : Int)) (hl : rows.length = sz ^ ar) : breakOf sz tab k ar rows = none := by
  unfold breakOf
  refine List.find?_eq_none.mpr fun t _ q => ?_
  have q : carried sz tab t ar ∉ rows := of_decide_eq_true q
  exact q (all_of_len nd (fun x hx => mem_allRows (hr x hx).1 (hr x hx).2) (by rw [allRows_len, hl]; exact Nat.le_refl _) _ (mem_allRows (carried_len sz tab t ar) (carried_ok hv hs)))
end MR

set_option Elab.async false
set_option linter.all false
namespace K35
open PySem PySem.Spec PyProof.Rows L2 TK MR
variable {P : Program} {w : World} {K : PySem.W.Frag} {mg : Str → Option Value} {base : Heap}
/-- the answer: None or the tuple of rows -/
def ansD : Option (List (List Int)) → PyData
  | none => .none
  | some t => .tuple (t.map rowD)

end K35

set_option Elab.async false
set_option linter.all false
set_option maxRecDepth 100000
set_option maxHeartbeats 4000000
namespace K35
open PySem PySem.Spec PyProof.Rows L2 TK
variable {P : Program} {w : World} {K : PySem.W.Frag} {mg : Str → Option Value} {base : Heap}
/-! are_places -/
def sp_are_places (T : Txt K mg base) : Sp := fun vs H Q _ => ∃ (v : V) (ns : List Int) (lo hi bd : Int), vs = [v, .int lo, .int hi, .int bd] ∧ DT K H v (rowD ns) ∧ TT T.tabs H ∧ (lo ≤ (ns.length : Int) ∧ (ns.length : Int) ≤ hi) ∧ (∀ x ∈ ns, 0 ≤ x ∧ x ≤ bd - 1) ∧ ∀ H', Gr H H' → Q (.bl true) H'
/-! the checks: right values pass -/
def sp_check_size : Sp := fun vs H Q _ => ∃ sz : Int, vs = [.int sz] ∧ (1 ≤ sz ∧ sz ≤ 4) ∧ Q .non H
theorem ok_check_size (T : Txt K mg base) : FnOk P w K mg base CX0 2 T.check_size.f T.check_size.fd p_check_size sp_check_size := by
  refine T.check_size.F.ok sc_check_size (fun vs H Q E h => ?_) (fun A outer s H vs Q E hr h => ?_)
  · obtain ⟨sz, rfl, _⟩ := h
    rfl
  · obtain ⟨sz, rfl, hs, q⟩ := h
    obtain ⟨tp, hMV⟩ := T.c_MOST_VALUES
    refine ⟨_, pss_one (ps_if (pt_not (pt_val (pe_call (ok_is_integer T) hr (by rfl) T.is_integer.g T.is_integer.F.kp T.is_integer.b .nil pass0 (pa_cons (pv 0) (pa_cons pe_int (pa_cons (pe_glob (v := .int 4) rfl hMV ⟨_, rfl⟩) pa_nil)))))) (pss_one ps_never) pss_nil), ?_⟩
    refine ⟨.int sz, rfl, sz, 1, 4, rfl, _, rfl, ?_⟩
    rw [decide_eq_true hs]
    exact iteF q
def sp_check_relation_arity : Sp := fun vs H Q _ => ∃ ar : Int, vs = [.int ar] ∧ (1 ≤ ar ∧ ar ≤ 4) ∧ Q .non H
def sp_check_relation (T : Txt K mg base) : Sp := fun vs H Q _ => ∃ (sz ar : Int) (v : V) (rows : List (List Int)), vs = [.int sz, v] ∧ DT K H v (relD ar rows) ∧ TT T.tabs H ∧ RelOk sz ar rows ∧ ∀ H', Gr H H' → Q .non H'
theorem ok_check_relation (T : Txt K mg base) : FnOk P w K mg base CX0 8 T.check_relation.f T.check_relation.fd p_check_relation (sp_check_relation T) := by
  refine T.check_relation.F.ok sc_check_relation (fun vs H Q E h => ?_) (fun A outer s H vs Q E hr h => ?_)
  · obtain ⟨sz, ar, v, rows, rfl, _⟩ := h
    rfl
  · obtain ⟨sz, ar, v, rows, rfl, hv, hT, ok, q⟩ := h
    refine ⟨_, pss_one (ps_if (pt_not (pt_val (pe_call (ok_is_relation T) hr (by rfl) T.is_relation.g T.is_relation.F.kp T.is_relation.b .nil pass0 (pa_cons (pv 0) (pa_cons (pv 1) pa_nil))))) (pss_one ps_never) pss_nil), ?_⟩
    exact ⟨.int sz, rfl, v, rfl, sz, ar, v, rows, rfl, hv, hT, ok, fun H' g => ⟨true, rfl, iteF (q H' g)⟩⟩
def sp_check_places (T : Txt K mg base) : Sp := fun vs H Q _ => ∃ (v : V) (ns : List Int) (lo hi bd : Int), vs = [v, .int lo, .int hi, .int bd] ∧ DT K H v (rowD ns) ∧ TT T.tabs H ∧ (lo ≤ (ns.length : Int) ∧ (ns.length : Int) ≤ hi) ∧ (∀ x ∈ ns, 0 ≤ x ∧ x ≤ bd - 1) ∧ ∀ H', Gr H H' → Q .non H'
end K35

set_option Elab.async false
set_option linter.all false
set_option maxRecDepth 100000
set_option maxHeartbeats 4000000
namespace K35
open PySem PySem.Spec PyProof.Rows L2 TK MR
variable {P : Program} {w : World} {K : PySem.W.Frag} {mg : Str → Option Value} {base : Heap}
/-- a list of rows at p -/
def LR (K : PySem.W.Frag) (H : Hp) (p : Addr) (rows : List (List Int)) : Prop := ∃ vs, H p = some (.lst vs) ∧ DTs K H vs (rows.map rowD)
theorem LR.app {H : Hp} {rows : List (List Int)} {vs : List V} (h : DTs K H vs (rows.map rowD)) {v : V} {r : List Int} (hv : DT K H v (rowD r)) : DTs K H (vs ++ [v]) ((rows ++ [r]).map rowD) := by
  rw [List.map_append]
  exact h.app (.one hv)
/-- a row with one more value: row + (value,) -/
theorem cat_one {H : Hp} {v : V} {r : List Int} {n : Int} {T : Addr} {Q : VK} (hv : DT K H v (rowD r)) (hT : H T = some (.tup [.int n])) (hl : r.length < 1000) (q : ∀ u H', Gr H H' → DT K H' u (rowD (r ++ [n])) → Q u H') : rCatA K v (.ref T) H Q := by
  obtain ⟨a, rfl, hS⟩ := hv.row_inv
  refine ⟨a, T, _, _, rfl, rfl, hS, .inl (.inl hT), ?_, fun e => ?_, fun _ e => (by cases e), fun _ _ p hp => ?_⟩
  · rw [List.length_map]
    have h9 := Nat.le_of_lt (small1000 (n := r.length + 1) (by omega))
    simpa using h9
  · have e : r = [] := by simpa using e
    subst e
    exact q _ _ Gx.refl (.row hT)
  · refine q _ _ (Gx.new hp) (.row ?_)
    rw [List.map_append]
    exact upd_same
/-! all_rows -/
def sp_all_rows (K : PySem.W.Frag) : Sp := fun vs H Q _ => ∃ sz ar : Nat, vs = [.int sz, .int ar] ∧ sz ≤ 4 ∧ ar ≤ 4 ∧ ∀ p H', Gr H H' → H p = none → LR K H' p (allRows sz ar) → Q (.ref p) H'
end K35

set_option Elab.async false
set_option linter.all false
set_option maxRecDepth 100000
set_option maxHeartbeats 4000000
namespace K35
open PySem PySem.Spec PyProof.Rows L2 TK MR
variable {P : Program} {w : World} {K : PySem.W.Frag} {mg : Str → Option Value} {base : Heap}
/-- a relation laid: (ar, tuple) -/
theorem rel_laid {H : Hp} {p : Addr} {u : V} {ar : Int} {rows : List (List Int)} (hu : DT K H u (.tuple (rows.map rowD))) (hp : H p = none) : DT K (upd H p (.tup [.int ar, u])) (.ref p) (relD ar rows) := by
  obtain ⟨b, xs, rfl, h1, h2⟩ := hu.tup_invS
  exact DT.rel upd_same (Gx.tupS (Gx.new (S := []) hp) .nil h1) (h2.gr (Gx.new hp))
/-- tuple(a list of rows) -/
theorem tup_laid {H : Hp} {p l : Addr} {rows : List (List Int)} (h : LR K H p rows) (hl : H l = none) : ∃ vs, H p = some (.lst vs) ∧ DT K (upd H l (.tup vs)) (.ref l) (.tuple (rows.map rowD)) := by
  obtain ⟨vs, h1, h2⟩ := h
  exact ⟨vs, h1, .mk upd_same (h2.gr (Gx.new hl))⟩
/-! full -/
def sp_full (K : PySem.W.Frag) : Sp := fun vs H Q _ => ∃ sz ar : Nat, vs = [.int sz, .int ar] ∧ (1 ≤ sz ∧ sz ≤ 4) ∧ (1 ≤ ar ∧ ar ≤ 4) ∧ ∀ v H', Gr H H' → DT K H' v (relD ar (allRows sz ar)) → Q v H'
/-- a concatenation of two rows, neither empty -/
theorem cat_rows {H : Hp} {v u : V} {r q : List Int} {Q : VK} (hv : DT K H v (rowD r)) (hu : DT K H u (rowD q)) (hl : r.length + q.length ≤ 1000) (h1 : r ≠ []) (h2 : q ≠ []) (k : ∀ z H', Gr H H' → DT K H' z (rowD (r ++ q)) → Q z H') : rCatA K v u H Q := by
  obtain ⟨a, rfl, hS⟩ := hv.row_inv
  obtain ⟨b, rfl, hS2⟩ := hu.row_inv
  refine ⟨a, b, _, _, rfl, rfl, hS, hS2, ?_, fun e => ?_, fun _ e => ?_, fun _ _ p hp => ?_⟩
  · rw [List.length_map, List.length_map]
    exact Nat.le_of_lt (small1000 hl)
  · exact absurd (by simpa using e) h1
  · exact absurd (by simpa using e) h2
  · refine k _ _ (Gx.new hp) (.row ?_)
    rw [List.map_append]
    exact upd_same
/-- a relation's parts -/
theorem rel_ix0 {H : Hp} {v : V} {ar : Int} {rows : List (List Int)} {Q : VK} (h : DT K H v (relD ar rows)) (q : Q (.int ar) H) : rIxT K v (.int 0) H Q := by
  obtain ⟨a, b, xs, rfl, h1, _, _⟩ := h.rel_inv
  exact ⟨a, _, 0, .int ar, rfl, rfl, h1, atI_nat (j := 0) rfl, q⟩
theorem rel_ix1 {H : Hp} {v : V} {ar : Int} {rows : List (List Int)} {Q : VK} (h : DT K H v (relD ar rows)) (q : ∀ b xs, SqT K H b xs → DTs K H xs (rows.map rowD) → Q (.ref b) H) : rIxT K v (.int 1) H Q := by
  obtain ⟨a, b, xs, rfl, h1, h2, h3⟩ := h.rel_inv
  exact ⟨a, _, 1, .ref b, rfl, rfl, h1, atI_nat (j := 1) rfl, q b xs h2 h3⟩
/-! product -/
def sp_product (T : Txt K mg base) : Sp := fun vs H Q _ => ∃ (sz : Int) (v u : V) (ar br : Int) (r1 r2 : List (List Int)), vs = [.int sz, v, u] ∧ (1 ≤ sz ∧ sz ≤ 4) ∧ DT K H v (relD ar r1) ∧ DT K H u (relD br r2) ∧ TT T.tabs H ∧ RelOk sz ar r1 ∧ RelOk sz br r2 ∧ ar + br ≤ 4 ∧ r1.length * r2.length ≤ 900 ∧
  ∀ z H', Gr H H' → DT K H' z (relD (ar + br) (prod r1 r2)) → Q z H'
end K35

set_option Elab.async false
set_option linter.all false
set_option maxRecDepth 100000
set_option maxHeartbeats 4000000
namespace K35
open PySem PySem.Spec PyProof.Rows L2 TK MR
variable {P : Program} {w : World} {K : PySem.W.Frag} {mg : Str → Option Value} {base : Heap}
/-- row[a] -/
theorem row_ix {H : Hp} {v : V} {r : List Int} {z : Int} {a : Nat} {Q : VK} (h : DT K H v (rowD r)) (ez : z = (a : Int)) (ha : a < r.length) (q : Q (.int (r.getD a 0)) H) : rIxT K v (.int z) H Q := by
  obtain ⟨p, rfl, h1⟩ := h.row_inv
  subst ez
  refine ⟨p, _, (a : Int), .int (r.getD a 0), rfl, rfl, h1, atI_nat ?_, q⟩
  rw [List.getElem?_map, List.getElem?_eq_getElem ha, List.getD_eq_getElem?_getD, List.getElem?_eq_getElem ha]
  rfl
/-! glued -/
def sp_glued (T : Txt K mg base) : Sp := fun vs H Q _ => ∃ (sz : Int) (v u : V) (ar : Int) (rows : List (List Int)) (a b : Nat), vs = [.int sz, v, u] ∧ (1 ≤ sz ∧ sz ≤ 4) ∧ DT K H v (relD ar rows) ∧ DT K H u (rowD [(a : Int), (b : Int)]) ∧ TT T.tabs H ∧ RelOk sz ar rows ∧ (a : Int) < ar ∧ (b : Int) < ar ∧
  ∀ z H', Gr H H' → DT K H' z (relD ar (glue rows a b)) → Q z H'
end K35

set_option Elab.async false
set_option linter.all false
set_option maxRecDepth 100000
set_option maxHeartbeats 4000000
namespace K35
open PySem PySem.Spec PyProof.Rows L2 TK MR
variable {P : Program} {w : World} {K : PySem.W.Frag} {mg : Str → Option Value} {base : Heap}
/-! the draws' own list -/
/-- the script and the place r: apart, or the script stands in the fragment -/
def Sep (K : PySem.W.Frag) (a r : Addr) (ns : List Int) : Prop := a ≠ r ∨ SqL K (fun _ => none) a (ns.map V.int)
theorem seqL_frag {H : Hp} {a : Addr} {xs : List V} (h : SqL K (fun _ => none) a xs) : SqL K H a xs := by
  rcases h with (h | ⟨o', h⟩) | h
  · cases h
  · cases h
  · exact .inr h
theorem seqL_ne {H : Hp} {a r : Addr} {xs : List V} {o : HO} (h : SqL K H a xs) (n : a ≠ r) : SqL K (upd H r o) a xs := by
  rcases h with (h | ⟨o', h⟩) | h
  · exact .inl (.inl (by rw [upd_ne n]; exact h))
  · exact .inl (.inr ⟨o', by rw [upd_ne n]; exact h⟩)
  · exact .inr h
theorem seqL_upd {H : Hp} {a r : Addr} {ns : List Int} {o : HO} (h : SqL K H a (ns.map V.int)) (n : Sep K a r ns) : SqL K (upd H r o) a (ns.map V.int) := n.elim (seqL_ne h) seqL_frag
def RowSt (K : PySem.W.Frag) (H : Hp) (r a : Addr) : Prop := ∃ (ns : List Int) (i st d : Int), H r = some (.lst [.ref a, .int i, .int st, .int d]) ∧ SqL K H a (ns.map V.int) ∧ Sep K a r ns ∧ 0 ≤ i ∧ 0 ≤ st ∧ st < 2147483647
theorem fmod_range {x m : Int} (h : 0 < m) : 0 ≤ Int.fmod x m ∧ Int.fmod x m < m := ⟨Int.fmod_nonneg_of_pos x h, Int.fmod_lt_of_pos x h⟩
theorem RowSt.lst {H : Hp} {r a : Addr} (h : RowSt K H r a) : ∃ xs, H r = some (.lst xs) := let ⟨_, _, _, _, h, _⟩ := h; ⟨_, h⟩
theorem RowSt.ls {H : Hp} {r a : Addr} (h : RowSt K H r a) : LS [r] H := let ⟨_, e⟩ := h.lst; .one e
theorem RowSt.gr {H H' : Hp} {r a : Addr} (g : Gr H H') (h : RowSt K H r a) : RowSt K H' r a := by
  obtain ⟨ns, i, st, d, h1, h2, h3⟩ := h
  exact ⟨ns, i, st, d, g.lst h1, g.seqL h2, h3⟩
/-! _law_taken -/
def sp_law_taken (K : PySem.W.Frag) : Sp := fun vs H Q _ => ∃ (r a : Addr) (m : Int), vs = [.ref r, .int m] ∧ RowSt K H r a ∧ 1 ≤ m ∧ m ≤ 1000 ∧ ∀ (x : Int) H', 0 ≤ x → x < m → Gx [r] H H' → RowSt K H' r a → Q (.int x) H'
theorem ok_law_taken (T : Txt K mg base) : FnOk P w K mg base CX0 1 T.law_taken.f T.law_taken.fd p_law_taken (sp_law_taken K) := by
  refine T.law_taken.F.ok sc_law_taken (fun vs H Q E h => ?_) (fun A outer s H vs Q E hr h => ?_)
  · obtain ⟨_, _, _, rfl, _⟩ := h
    rfl
  · obtain ⟨r, a, m, rfl, ⟨ns, i, st, d, hr0, hS, har, hi, hst, hst2⟩, h1, h2, q⟩ := h
    refine ⟨_, pss_cons (ps_if (pt_cmpR op_gt (pe_ix ix_list (pv 0) pe_int (fun _ _ => rfl)) pe_int (nomark _))
        (pss_cons (ps_set (i := 2) sc_law_taken.nd rfl (.inl rfl) (pe_op op_modN (pe_callTy call_int1 (by rfl) T.b_int boot_int (pa_cons (pe_ix ix_list (pv 0) pe_int (fun _ _ => rfl)) pa_nil)) (pv 1)))
        (pss_cons (ps_asg (pe_op op_fdivN (pe_ix ix_list (pv 0) pe_int (fun _ _ => rfl)) (pv 1)) (pg_sub (pv 0) pe_int set_list))
        (pss_one (ps_ret (pv 2))))) pss_nil)
      (pss_cons (ps_asg (pe_op op_add (pe_ix ix_list (pv 0) pe_int (fun _ _ => rfl)) pe_int) (pg_sub (pv 0) pe_int set_list))
      (pss_cons (ps_if (pt_cmpR op_gt (pe_ix ix_list (pv 0) pe_int (fun _ _ => rfl)) (pe_callB call_len_seq (by rfl) T.b_len PySem.boot_len (pa_cons (pe_ix ix_list (pv 0) pe_int (fun _ _ => rfl)) pa_nil)) (nomark _))
        (pss_cons (ps_asg (pe_op op_modN (pe_callTy call_int1 (by rfl) T.b_int boot_int (pa_cons (pe_op op_add (pe_op op_mul (pe_ix ix_list (pv 0) pe_int (fun _ _ => rfl)) pe_int) pe_int) pa_nil)) pe_int) (pg_sub (pv 0) pe_int set_list))
        (pss_one (ps_ret (pe_op op_modN (pe_callTy call_int1 (by rfl) T.b_int boot_int (pa_cons (pe_op op_fdivN (pe_ix ix_list (pv 0) pe_int (fun _ _ => rfl)) pe_int) pa_nil)) (pv 1))))) pss_nil)
      (pss_cons (ps_set (i := 3) sc_law_taken.nd rfl (.inl rfl) (pe_ix ix_list (pe_ix ix_list (pv 0) pe_int (fun _ _ => rfl)) (pe_op op_sub (pe_ix ix_list (pv 0) pe_int (fun _ _ => rfl)) pe_int) (fun _ _ => rfl)))
      (pss_cons (ps_asg (pe_op op_modN (pe_callTy call_int1 (by rfl) T.b_int boot_int (pa_cons (pe_op op_add (pe_op op_add (pe_op op_mul (pe_ix ix_list (pv 0) pe_int (fun _ _ => rfl)) pe_int) (pv 3)) pe_int) pa_nil)) pe_int) (pg_sub (pv 0) pe_int set_list))
      (pss_cons (ps_if (pt_cmpR op_ge (pv 3) (pe_op op_pow pe_int pe_int) (nomark _)) (pss_one (ps_asg (pe_op op_fdivN (pv 3) (pv 1)) (pg_sub (pv 0) pe_int set_list))) pss_nil)
      (pss_one (ps_ret (pe_op op_modN (pe_callTy call_int1 (by rfl) T.b_int boot_int (pa_cons (pv 3) pa_nil)) (pv 1))))))))), ?_⟩
    have hm0 : m ≠ 0 := by omega
    have hmb : m.natAbs < 1073741824 := by omega
    refine ⟨.ref r, rfl, r, _, 3, .int d, rfl, rfl, .inl (.inl hr0), atI_nat (j := 3) rfl, d, 0, rfl, rfl, _, rfl, ite2 (fun _ => ?_) (fun _ => ?_)⟩
    · -- digits of a great cell
      refine ⟨.ref r, rfl, r, _, 3, .int d, rfl, rfl, .inl (.inl hr0), atI_nat (j := 3) rfl, .inl ⟨d, rfl, .int m, rfl, d, m, rfl, rfl, hm0, ?_⟩⟩
      refine ⟨.ref r, rfl, r, _, 3, .int d, rfl, rfl, .inl (.inl hr0), atI_nat (j := 3) rfl, .int m, rfl, d, m, rfl, rfl, ⟨hm0, hmb⟩, .ref r, rfl, r, _, 3, 3, rfl, rfl, hr0, rfl, ?_⟩
      obtain ⟨f1, f2⟩ := fmod_range (x := d) (show 0 < m by omega)
      exact ⟨_, rfl, q _ _ f1 f2 (Gx.refl.wrS (List.mem_singleton.mpr rfl)) ⟨ns, i, st, d.fdiv m, upd_same, seqL_upd hS har, har, hi, hst, hst2⟩⟩
    · refine ⟨.ref r, rfl, r, _, 1, .int i, rfl, rfl, .inl (.inl hr0), atI_nat (j := 1) rfl, i, 1, rfl, rfl, .ref r, rfl, r, _, 1, 1, rfl, rfl, hr0, rfl, ?_⟩
      have hr1 : upd H r (.lst ([.ref a, .int i, .int st, .int d].set 1 (.int (i + 1)))) r = some (.lst [.ref a, .int (i + 1), .int st, .int d]) := upd_same
      have hS1 : SqL K (upd H r (.lst ([.ref a, .int i, .int st, .int d].set 1 (.int (i + 1))))) a (ns.map V.int) := seqL_upd hS har
      have g1 : Gx [r] H (upd H r (.lst ([.ref a, .int i, .int st, .int d].set 1 (.int (i + 1))))) := Gx.refl.wrS (List.mem_singleton.mpr rfl)
      generalize upd H r (.lst ([.ref a, .int i, .int st, .int d].set 1 (.int (i + 1)))) = H1 at *
      refine ⟨.ref r, rfl, r, _, 1, .int (i + 1), rfl, rfl, .inl (.inl hr1), atI_nat (j := 1) rfl, .ref r, rfl, r, _, 0, .ref a, rfl, rfl, .inl (.inl hr1), atI_nat (j := 0) rfl, a, _, rfl, .inl hS1, i + 1, _, rfl, rfl, _, rfl, ite2 (fun _ => ?_) (fun hlen => ?_)⟩
      · -- behind the script
        refine ⟨.ref r, rfl, r, _, 2, .int st, rfl, rfl, .inl (.inl hr1), atI_nat (j := 2) rfl, st, 48271, rfl, rfl, .inl ⟨by omega, by omega⟩, st * 48271, 11, rfl, rfl, .inl ⟨_, rfl, _, 2147483647, rfl, rfl, (by show (2147483647 : Int) ≠ 0; decide), .ref r, rfl, r, _, 2, 2, rfl, rfl, hr1, rfl, ?_⟩⟩
        obtain ⟨f1, f2⟩ := fmod_range (x := st * 48271 + 11) (show (0 : Int) < 2147483647 by decide)
        have hr2 : upd H1 r (.lst ([.ref a, .int (i + 1), .int st, .int d].set 2 ((.int (Int.fmod (st * 48271 + 11) 2147483647))))) r = some (.lst [.ref a, .int (i + 1), (.int (Int.fmod (st * 48271 + 11) 2147483647)), .int d]) := upd_same
        refine ⟨.ref r, rfl, r, _, 2, (.int (Int.fmod (st * 48271 + 11) 2147483647)), rfl, rfl, .inl (.inl hr2), atI_nat (j := 2) rfl, (Int.fmod (st * 48271 + 11) 2147483647), 7, rfl, rfl, ⟨by decide, by decide⟩, .inl ⟨_, rfl, .int m, rfl, _, m, rfl, rfl, hm0, ?_⟩⟩
        obtain ⟨e1, e2⟩ := fmod_range (x := (Int.fmod (st * 48271 + 11) 2147483647).fdiv 7) (show 0 < m by omega)
        exact q _ _ e1 e2 (g1.wrS (List.mem_singleton.mpr rfl)) ⟨ns, i + 1, _, d, hr2, seqL_upd hS1 har, har, by omega, f1, f2⟩
      · have hl : i < (ns.length : Int) := by
          have hlen' : ¬ (decide (((ns.map V.int).length : Int) < i + 1) = true) := hlen
          rw [List.length_map] at hlen'
          simp at hlen'
          omega
        obtain ⟨k, hk⟩ := Int.eq_ofNat_of_zero_le hi
        subst hk
        have hkl : k < ns.length := by omega
        refine ⟨.ref r, rfl, r, _, 0, .ref a, rfl, rfl, .inl (.inl hr1), atI_nat (j := 0) rfl, .ref r, rfl, r, _, 1, .int ((k : Int) + 1), rfl, rfl, .inl (.inl hr1), atI_nat (j := 1) rfl, (k : Int) + 1, 1, rfl, rfl, a, _, (k : Int) + 1 - 1, .int ns[k], rfl, rfl, hS1, at_of (j := k) (by omega) ?_, ?_⟩
        · rw [List.getElem?_map, List.getElem?_eq_getElem hkl]
          rfl
        generalize ns[k] = cell
        refine ⟨.ref r, rfl, r, _, 2, .int st, rfl, rfl, .inl (.inl hr1), atI_nat (j := 2) rfl, st, 48271, rfl, rfl, .inl ⟨by omega, by omega⟩, .int cell, rfl, st * 48271, cell, rfl, rfl, st * 48271 + cell, 11, rfl, rfl, .inl ⟨_, rfl, _, 2147483647, rfl, rfl, (by show (2147483647 : Int) ≠ 0; decide), .ref r, rfl, r, _, 2, 2, rfl, rfl, hr1, rfl, ?_⟩⟩
        obtain ⟨f1, f2⟩ := fmod_range (x := st * 48271 + cell + 11) (show (0 : Int) < 2147483647 by decide)
        have hr2 : upd H1 r (.lst ([.ref a, .int ((k : Int) + 1), .int st, .int d].set 2 ((.int (Int.fmod (st * 48271 + cell + 11) 2147483647))))) r = some (.lst [.ref a, .int ((k : Int) + 1), (.int (Int.fmod (st * 48271 + cell + 11) 2147483647)), .int d]) := upd_same
        have hS2 := seqL_upd (o := .lst ([.ref a, .int ((k : Int) + 1), .int st, .int d].set 2 ((.int (Int.fmod (st * 48271 + cell + 11) 2147483647))))) hS1 har
        have g2 : Gx [r] H (upd H1 r (.lst ([.ref a, .int ((k : Int) + 1), .int st, .int d].set 2 ((.int (Int.fmod (st * 48271 + cell + 11) 2147483647)))))) := g1.wrS (List.mem_singleton.mpr rfl)
        obtain ⟨e1, e2⟩ := fmod_range (x := cell) (show 0 < m by omega)
        refine ⟨.int cell, rfl, 10, 18, rfl, rfl, ⟨by decide, by decide, by decide⟩, cell, _, rfl, rfl, _, rfl, ite2 (fun _ => ?_) (fun _ => ?_)⟩
        · refine ⟨.int cell, rfl, .int m, rfl, cell, m, rfl, rfl, ⟨hm0, hmb⟩, .ref r, rfl, r, _, 3, 3, rfl, rfl, hr2, rfl, ?_⟩
          exact ⟨.int cell, rfl, .inl ⟨cell, rfl, .int m, rfl, cell, m, rfl, rfl, hm0, q _ _ e1 e2 (g2.wrS (List.mem_singleton.mpr rfl)) ⟨ns, (k : Int) + 1, _, cell.fdiv m, upd_same, seqL_upd hS2 har, har, by omega, f1, f2⟩⟩⟩
        · exact ⟨.int cell, rfl, .inl ⟨cell, rfl, .int m, rfl, cell, m, rfl, rfl, hm0, q _ _ e1 e2 g2 ⟨ns, (k : Int) + 1, _, d, hr2, hS2, har, by omega, f1, f2⟩⟩⟩

end K35

set_option Elab.async false
set_option linter.all false
set_option maxRecDepth 100000
set_option maxHeartbeats 4000000
namespace K35
open PySem PySem.Spec PyProof.Rows L2 TK MR
variable {P : Program} {w : World} {K : PySem.W.Frag} {mg : Str → Option Value} {base : Heap}
theorem Gx.seqLne {H H1 : Hp} {r l : Addr} {xs : List V} (g : Gx [r] H H1) (n : l ≠ r) (h : SqL K H l xs) : SqL K H1 l xs := by
  have nn : l ∉ [r] := fun z => n (List.mem_singleton.mp z)
  rcases h with (h | ⟨o', h⟩) | h
  · exact .inl (.inl (g.at nn h fun _ z => by cases z))
  · exact .inl (.inr ⟨o', g.at nn h fun _ z => by cases z⟩)
  · exact .inr h
/-! _law_pick -/
def sp_law_pick (K : PySem.W.Frag) : Sp := fun vs H Q _ => ∃ (r a l : Addr) (xs : List V), vs = [.ref r, .ref l] ∧ RowSt K H r a ∧ SqL K H l xs ∧ l ≠ r ∧ 1 ≤ xs.length ∧ xs.length ≤ 1000 ∧ ∀ (j : Nat) (v : V) H', xs[j]? = some v → Gx [r] H H' → RowSt K H' r a → Q v H'
theorem ok_law_pick (T : Txt K mg base) : FnOk P w K mg base CX0 2 T.law_pick.f T.law_pick.fd p_law_pick (sp_law_pick K) := by
  refine T.law_pick.F.ok sc_law_pick (fun vs H Q E h => ?_) (fun A outer s H vs Q E hr h => ?_)
  · obtain ⟨_, _, _, _, rfl, _⟩ := h
    rfl
  · obtain ⟨r, a, l, xs, rfl, hR, hS, hne, h1, h2, q⟩ := h
    refine ⟨_, pss_one (ps_ret (pe_ix ix_list (pv 1) (pe_call (ok_law_taken T) hr (by rfl) T.law_taken.g T.law_taken.F.kp T.law_taken.b .nil pass0 (pa_cons (pv 0) (pa_cons (pe_callB call_len_seq (by rfl) T.b_len PySem.boot_len (pa_cons (pv 1) pa_nil)) pa_nil))) (fun _ _ => rfl))), ?_⟩
    refine ⟨.ref l, rfl, .ref r, rfl, .ref l, rfl, l, xs, rfl, .inl hS, r, a, _, rfl, hR, by omega, by omega, fun x H' hx0 hx1 g hR' => ?_⟩
    obtain ⟨k, hk⟩ := Int.eq_ofNat_of_zero_le hx0
    subst hk
    have hkl : k < xs.length := by omega
    have e : xs[k]? = some xs[k] := List.getElem?_eq_getElem hkl
    exact ⟨l, xs, (k : Int), xs[k], rfl, rfl, Gx.seqLne g hne hS, atI_nat e, q k _ H' e g hR'⟩
/-! _law_rows -/
theorem ok_law_rows (T : Txt K mg base) : FnOk P w K mg base CX0 1 T.law_rows.f T.law_rows.fd p_law_rows (sp_all_rows K) := by
  refine T.law_rows.F.ok sc_law_rows (fun vs H Q E h => ?_) (fun A outer s H vs Q E hr h => ?_)
  · obtain ⟨sz, ar, rfl, _⟩ := h
    rfl
  · obtain ⟨sz, ar, rfl, h1, h2, q⟩ := h
    refine ⟨_, pss_cons (ps_set (i := 2) sc_law_rows.nd rfl (.inl rfl) (pe_lst (pa_cons (pe_tup pa_nil) pa_nil)))
      (pss_cons (ps_for PassesOwn.never rfl (pi_range1 (by rfl) T.b_range (pa_cons (pv 1) pa_nil)) (pg_name (i := 3) sc_law_rows.nd rfl (.inl rfl))
        (pss_cons (ps_set (i := 4) sc_law_rows.nd rfl (.inl rfl) (pe_lst pa_nil))
        (pss_cons (ps_for PassesOwn.never rfl (pi_list (pv 2)) (pg_name (i := 5) sc_law_rows.nd rfl (.inr rfl))
          (pss_one (ps_set (i := 4) sc_law_rows.nd rfl (.inl rfl) (pe_op op_cat (pv 4)
            (pe_lc (own := [("value", 6)]) (g := gName 6) (tt := tYes) rfl sc_law_rows.nd (pi_range1 (by rfl) T.b_range (pa_cons (pv 0) pa_nil))
              (blkOk_by (N := n_law_rows) (sc := defScope s_law_rows) (by decide +kernel)) (fun _ _ _ _ _ => pg_name (i := 6) sc_law_rows.nd rfl (Or.inl rfl)) (fun _ _ _ _ _ => pts_nil)
              (fun _ _ _ _ _ => pe_op (op_catAK K) (pv 5) (pe_tup (pa_cons (pv 6) pa_nil))))))))
        (pss_one (ps_set (i := 2) sc_law_rows.nd rfl (.inl rfl) (pv 4))))))
      (pss_one (ps_ret (pv 2)))), ?_⟩
    -- found = [()]
    refine ⟨Nat.zero_le _, fun t nt => ⟨by show 1 ≤ sizeLine; decide, fun p np => ?_⟩⟩
    have np0 : H p = none := Gr.free (Gx.new nt) np
    have g0 : Gr H (upd (upd H t (.tup [])) p (.lst [.ref t])) := (Gx.new nt).trans (Gx.new np)
    have l0 : LR K (upd (upd H t (.tup [])) p (.lst [.ref t])) p (allRows sz 0) := by
      refine ⟨_, upd_same, .one (.row (ns := []) ?_)⟩
      have : t ≠ p := fun e => by
        rw [e, upd_same] at np
        cases np
      rw [upd_ne this, upd_same]
      rfl
    refine ⟨.int ar, rfl, ar, rfl, by omega, by omega, ?_⟩
    refine for_range (n := (ar : Int).toNat) (fun i σ H' => ∃ p y3 y4 y5, σ = [some (.int sz), some (.int ar), some (.ref p), y3, y4, y5, none] ∧ Gr H H' ∧ H p = none ∧ LR K H' p (allRows sz i)) ⟨p, none, none, none, rfl, g0, np0, l0⟩ (fun i σ H' hi hp => ?_) (fun σ H' hp => ?_)
    · obtain ⟨p1, y3, y4, y5, rfl, g1, n1, vs1, hp1, hd1⟩ := hp
      have hi4 : i < 4 := by omega
      have lr4 : (allRows sz i).length * sz ≤ 256 := by
        rw [allRows_len]
        exact Nat.mul_le_mul (Nat.le_trans (Nat.pow_le_pow_left h1 i) (Nat.pow_le_pow_right (show 0 < 4 by omega) (show i ≤ 3 by omega))) h1
      have lx : vs1.length = (allRows sz i).length := by rw [hd1.1, List.length_map]
      -- more = []
      refine ⟨Nat.zero_le _, fun m0 nm0 => ?_⟩
      have gm : Gr H' (upd H' m0 (.lst [])) := Gx.new nm0
      refine ⟨.ref p1, rfl, p1, rfl, ⟨_, gm.seqL (.inl (.inl hp1))⟩, ?_⟩
      refine for_list (K := K) (xs := vs1) (fun j σ H2 => ∃ m y5, σ = [some (.int sz), some (.int ar), some (.ref p1), some (.int (0 + (i : Int))), some (.ref m), y5, none] ∧ Gr H' H2 ∧ H' m = none ∧ LR K H2 m (ext sz ((allRows sz i).take j)))
        ⟨m0, y5, rfl, gm, nm0, [], upd_same, .nil⟩ (fun j σ H2 _ hp => by obtain ⟨_, _, _, g2, _⟩ := hp; exact g2.seqL (.inl (.inl hp1))) (fun j x σ H2 ex hp => ?_) (fun σ H2 hp => ?_)
      · obtain ⟨m, y5', rfl, g2, nm, ms, hm, hms⟩ := hp
        obtain ⟨dx, e1, dv⟩ := hd1.at' ex
        rw [List.getElem?_map] at e1
        obtain ⟨r, er, rfl⟩ := Option.map_eq_some_iff.mp e1
        have hr4 := (allRows_ok (List.mem_of_getElem? er)).1
        refine ⟨.ref m, rfl, .int sz, rfl, sz, rfl, by omega, by omega, fun D nD => ?_⟩
        have hj : j < (allRows sz i).length := (List.getElem?_eq_some_iff.mp er).1
        have hDm : D ≠ m := fun z => by rw [z, hm] at nD; cases nD
        refine lc_range (n := (sz : Int).toNat) (fun b H3 => Gr H2 H3 ∧ b ≤ sz ∧ LR K H3 D ((List.range b).map fun (v : Nat) => r ++ [(v : Int)])) ⟨Gx.new nD, Nat.zero_le _, [], upd_same, .nil⟩ (fun b H3 hb p => ?_) (fun H3 p => ?_)
        · obtain ⟨g3, hb', ws, hD, hds⟩ := p
          have hb2 : b < sz := by omega
          refine ⟨rfl, yesT ⟨x, rfl, .int (0 + (b : Int)), rfl, by show 1 ≤ sizeLine; decide, fun t nt => ?_⟩⟩
          have gt : Gr H3 (upd H3 t (.tup [.int (0 + (b : Int))])) := Gx.new nt
          dsimp only [tC]
          refine cat_one (r := r) (n := 0 + (b : Int)) ((dv.gr (g2.trans g3)).gr gt) upd_same (by omega) fun u H4 g4 du => ?_
          have hD4 : H4 D = some (.lst ws) := (gt.trans g4).lst hD
          refine ⟨ws, hD4, ?_, ((g3.trans gt).trans g4).wr nD, hb2, _, upd_same, ?_⟩
          · rw [hds.1, List.length_map, List.length_map, List.length_range]
            exact small1000 (by omega)
          · rw [List.range_succ, List.map_append]
            rw [Int.zero_add] at du
            exact LR.app ((hds.gr (gt.trans g4)).wr hD4) (DT.wr hD4 du)
        · obtain ⟨g3, _, ws, hD, hds⟩ := p
          have hm3 := g3.lst hm
          have hms3 := hms.gr g3
          refine ⟨m, D, ms, ws, rfl, rfl, hm3, hD, ?_, fun p2 np2 => ?_⟩
          · have q1 := hms.1
            have q2 := hds.1
            rw [List.length_map, ext_len, List.length_take] at q1
            rw [List.length_map, List.length_map, List.length_range] at q2
            have : min j (allRows sz i).length * sz ≤ 256 := Nat.le_trans (Nat.mul_le_mul_right _ (Nat.min_le_right _ _)) lr4
            exact Nat.le_of_lt (small1000 (by omega))
          · refine ⟨p2, some x, rfl, (g2.trans g3).trans (Gx.new np2), ?_, _, upd_same, ?_⟩
            · exact (g2.trans g3).free np2
            · rw [List.take_add_one, er, ext_app]
              show DTs K _ _ ((ext sz ((allRows sz i).take j) ++ ext sz [r]).map rowD)
              rw [ext_one, List.map_append]
              have q : (sz : Int).toNat = sz := by omega
              rw [q] at hds
              exact (hms3.app hds).gr (Gx.new np2)
      · obtain ⟨m, y5', rfl, g2, nm, hl⟩ := hp
        rw [lx, List.take_length] at hl
        exact ⟨.ref m, rfl, m, _, _, _, rfl, g1.trans g2, g1.free nm, hl⟩
    · obtain ⟨p1, y3, y4, y5, rfl, g1, n1, hl⟩ := hp
      exact ⟨.ref p1, rfl, q p1 H' g1 n1 (by simpa using hl)⟩

end K35

set_option Elab.async false
set_option linter.all false
set_option maxRecDepth 100000
set_option maxHeartbeats 4000000
namespace K35
open PySem PySem.Spec PyProof.Rows L2 TK MR
variable {P : Program} {w : World} {K : PySem.W.Frag} {mg : Str → Option Value} {base : Heap}
/-- told + (thing,) of any data -/
theorem cat_oneD {H : Hp} {v u : V} {es : List PyData} {d : PyData} {T : Addr} {Q : VK} (hv : DT K H v (.tuple es)) (hu : DT K H u d) (hT : H T = some (.tup [u])) (hl : es.length < 1000) (q : ∀ z H', Gr H H' → DT K H' z (.tuple (es ++ [d])) → Q z H') : rCatA K v (.ref T) H Q := by
  obtain ⟨a, xs, rfl, hS, hD⟩ := hv.tup_inv
  refine ⟨a, T, _, _, rfl, rfl, hS, .inl (.inl hT), ?_, fun e => ?_, fun _ e => (by cases e), fun _ _ p hp => ?_⟩
  · have h9 := Nat.le_of_lt (small1000 (n := es.length + 1) (by omega))
    rw [hD.1]
    simpa using h9
  · subst e
    have e : es = [] := List.length_eq_zero_iff.mp hD.1.symm
    subst e
    exact q _ _ Gx.refl (.mk hT (.one hu))
  · exact q _ _ (Gx.new hp) (.mk upd_same ((hD.app (.one hu)).gr (Gx.new hp)))
/-- a list of tuples of n things of ds -/
def TLs (K : PySem.W.Frag) (H : Hp) (ds : List PyData) (n : Nat) (ws : List V) : Prop := ∀ w ∈ ws, ∃ es, DT K H w (.tuple es) ∧ es.length = n ∧ ∀ e ∈ es, e ∈ ds
theorem TLs.gr {H H' : Hp} {ds : List PyData} {n : Nat} {ws : List V} (g : Gr H H') (h : TLs K H ds n ws) : TLs K H' ds n ws := fun w hw => let ⟨es, a, b⟩ := h w hw; ⟨es, a.gr g, b⟩
theorem TLs.wr {H : Hp} {ds : List PyData} {n : Nat} {ws : List V} {p : Addr} {xs : List V} {o : HO} (e : H p = some (.lst xs)) (h : TLs K H ds n ws) : TLs K (upd H p o) ds n ws := fun w hw => let ⟨es, a, b⟩ := h w hw; ⟨es, DT.wr e a, b⟩
theorem TLs.app {H : Hp} {ds : List PyData} {n : Nat} {ws us : List V} (h : TLs K H ds n ws) (k : TLs K H ds n us) : TLs K H ds n (ws ++ us) := fun w hw => (List.mem_append.mp hw).elim (h w) (k w)
theorem TLs.nil {H : Hp} {ds : List PyData} {n : Nat} : TLs K H ds n [] := fun w hw => by simp at hw
theorem TLs.one {H : Hp} {ds : List PyData} {n : Nat} {u : V} {es : List PyData} (h : DT K H u (.tuple es)) (hl : es.length = n) (hm : ∀ e ∈ es, e ∈ ds) : TLs K H ds n [u] := fun w hw => by
  rw [List.mem_singleton.mp hw]
  exact ⟨es, h, hl, hm⟩
/-! _law_tuples -/
def sp_law_tuples (K : PySem.W.Frag) : Sp := fun vs H Q _ => ∃ (l : Addr) (xs : List V) (ds : List PyData) (n : Nat), vs = [.ref l, .int n] ∧ SqL K H l xs ∧ DTs K H xs ds ∧ ds.length ≤ 8 ∧ n ≤ 3 ∧ ∀ p H' ws, Gr H H' → H p = none → H' p = some (.lst ws) → ws.length ≤ 512 → TLs K H' ds n ws → Q (.ref p) H'
theorem ok_law_tuples (T : Txt K mg base) : FnOk P w K mg base CX0 1 T.law_tuples.f T.law_tuples.fd p_law_tuples (sp_law_tuples K) := by
  refine T.law_tuples.F.ok sc_law_tuples (fun vs H Q E h => ?_) (fun A outer s H vs Q E hr h => ?_)
  · obtain ⟨_, _, _, _, rfl, _⟩ := h
    rfl
  · obtain ⟨l, xs, ds, n, rfl, hS, hD0, hdl, hn, q⟩ := h
    have hxl : xs.length = ds.length := hD0.1
    refine ⟨_, pss_cons (ps_set (i := 2) sc_law_tuples.nd rfl (.inl rfl) (pe_lst (pa_cons (pe_tup pa_nil) pa_nil)))
      (pss_cons (ps_for PassesOwn.never rfl (pi_range1 (by rfl) T.b_range (pa_cons (pv 1) pa_nil)) (pg_name (i := 3) sc_law_tuples.nd rfl (.inl rfl))
        (pss_cons (ps_set (i := 4) sc_law_tuples.nd rfl (.inl rfl) (pe_lst pa_nil))
        (pss_cons (ps_for PassesOwn.never rfl (pi_list (pv 2)) (pg_name (i := 5) sc_law_tuples.nd rfl (.inr rfl))
          (pss_one (ps_set (i := 4) sc_law_tuples.nd rfl (.inl rfl) (pe_op op_cat (pv 4)
            (pe_lc (own := [("thing", 6)]) (g := gName 6) (tt := tYes) rfl sc_law_tuples.nd (pi_list (pv 0))
              (blkOk_by (N := n_law_tuples) (sc := defScope s_law_tuples) (by decide +kernel)) (fun _ _ _ _ _ => pg_name (i := 6) sc_law_tuples.nd rfl (Or.inl rfl)) (fun _ _ _ _ _ => pts_nil)
              (fun _ _ _ _ _ => pe_op (op_catAK K) (pv 5) (pe_tup (pa_cons (pv 6) pa_nil))))))))
        (pss_one (ps_set (i := 2) sc_law_tuples.nd rfl (.inl rfl) (pv 4))))))
      (pss_one (ps_ret (pv 2)))), ?_⟩
    refine ⟨Nat.zero_le _, fun t nt => ⟨by show 1 ≤ sizeLine; decide, fun p np => ?_⟩⟩
    have np0 : H p = none := Gr.free (Gx.new nt) np
    have g0 : Gr H (upd (upd H t (.tup [])) p (.lst [.ref t])) := (Gx.new nt).trans (Gx.new np)
    refine ⟨.int n, rfl, n, rfl, by omega, by omega, ?_⟩
    refine for_range (n := (n : Int).toNat) (fun i σ H' => ∃ p y3 y4 y5 ws, σ = [some (.ref l), some (.int n), some (.ref p), y3, y4, y5, none] ∧ Gr H H' ∧ H p = none ∧ H' p = some (.lst ws) ∧ ws.length ≤ 8 ^ i ∧ TLs K H' ds i ws) ⟨p, none, none, none, [.ref t], rfl, g0, np0, upd_same, Nat.le_refl _, ?_⟩ (fun i σ H' hi hp => ?_) (fun σ H' hp => ?_)
    · refine TLs.one (es := []) (.mk (xs := []) ?_ .nil) rfl fun e he => by simp at he
      have : t ≠ p := fun e => by
        rw [e, upd_same] at np
        cases np
      rw [upd_ne this, upd_same]
    · obtain ⟨p1, y3, y4, y5, vs1, rfl, g1, n1, hp1, hl1, ht1⟩ := hp
      have hi3 : i < 3 := by omega
      have hb : vs1.length * 8 ≤ 512 := by
        have : 8 ^ i ≤ 8 ^ 2 := Nat.pow_le_pow_right (by omega) (by omega)
        omega
      refine ⟨Nat.zero_le _, fun m0 nm0 => ?_⟩
      have gm : Gr H' (upd H' m0 (.lst [])) := Gx.new nm0
      refine ⟨.ref p1, rfl, p1, rfl, ⟨_, gm.seqL (.inl (.inl hp1))⟩, ?_⟩
      refine for_list (K := K) (xs := vs1) (fun j σ H2 => ∃ m y5 ms, σ = [some (.ref l), some (.int n), some (.ref p1), some (.int (0 + (i : Int))), some (.ref m), y5, none] ∧ Gr H' H2 ∧ H' m = none ∧ H2 m = some (.lst ms) ∧ j ≤ vs1.length ∧ ms.length ≤ j * 8 ∧ TLs K H2 ds (i + 1) ms)
        ⟨m0, y5, [], rfl, gm, nm0, upd_same, Nat.zero_le _, by simp, .nil⟩ (fun j σ H2 _ hp => by obtain ⟨_, _, _, _, g2, _⟩ := hp; exact g2.seqL (.inl (.inl hp1))) (fun j x σ H2 ex hp => ?_) (fun σ H2 hp => ?_)
      · obtain ⟨m, y5', ms, rfl, g2, nm, hm, hj, hml, hms⟩ := hp
        obtain ⟨es, de, hel, hem⟩ := ht1 x (List.mem_of_getElem? ex)
        have hjl : j < vs1.length := (List.getElem?_eq_some_iff.mp ex).1
        refine ⟨.ref m, rfl, .ref l, rfl, l, rfl, ⟨_, (g1.trans g2).seqL hS⟩, fun D nD => ?_⟩
        refine lc_list (K := K) (a := l) (xs := xs) (fun b H3 => Gr H2 H3 ∧ ∃ ws, H3 D = some (.lst ws) ∧ ws.length = b ∧ TLs K H3 ds (i + 1) ws) ⟨Gx.new nD, [], upd_same, rfl, .nil⟩ (fun b H3 _ p => ((g1.trans g2).trans p.1).seqL hS) (fun b y H3 ey p => ?_) (fun H3 p => ?_)
        · obtain ⟨g3, ws, hD, hwl, hws⟩ := p
          obtain ⟨d, ed, dy⟩ := hD0.at' ey
          have hbl : b < xs.length := (List.getElem?_eq_some_iff.mp ey).1
          refine ⟨rfl, yesT ⟨x, rfl, y, rfl, by show 1 ≤ sizeLine; decide, fun t nt => ?_⟩⟩
          have gt : Gr H3 (upd H3 t (.tup [y])) := Gx.new nt
          refine cat_oneD (es := es) (d := d) (de.gr ((g2.trans g3).trans gt)) (dy.gr ((((g1.trans g2).trans g3)).trans gt)) upd_same (by omega) fun u H4 g4 du => ?_
          have hD4 : H4 D = some (.lst ws) := (gt.trans g4).lst hD
          refine ⟨ws, hD4, small1000 (by omega), ((g3.trans gt).trans g4).wr nD, _, upd_same, by rw [List.length_append, hwl]; rfl, ?_⟩
          refine ((hws.gr (gt.trans g4)).wr hD4).app (.one (DT.wr hD4 du) (by rw [List.length_append, hel]; rfl) fun e he => ?_)
          rcases List.mem_append.mp he with he | he
          · exact hem e he
          · rw [List.mem_singleton.mp he]
            exact List.mem_of_getElem? ed
        · obtain ⟨g3, ws, hD, hwl, hws⟩ := p
          have hm3 := g3.lst hm
          refine ⟨m, D, ms, ws, rfl, rfl, hm3, hD, Nat.le_of_lt (small1000 (by omega)), fun p2 np2 => ?_⟩
          refine ⟨p2, some x, ms ++ ws, rfl, (g2.trans g3).trans (Gx.new np2), (g2.trans g3).free np2, upd_same, hjl, by rw [List.length_append]; omega, ?_⟩
          exact ((hms.gr g3).app hws).gr (Gx.new np2)
      · obtain ⟨m, y5', ms, rfl, g2, nm, hm, hj, hml, hms⟩ := hp
        exact ⟨.ref m, rfl, m, _, _, _, ms, rfl, g1.trans g2, g1.free nm, hm, by rw [Nat.pow_succ]; omega, hms⟩
    · obtain ⟨p1, y3, y4, y5, ws, rfl, g1, n1, hp1, hl1, ht1⟩ := hp
      have e : (n : Int).toNat = n := by omega
      rw [e] at hl1 ht1
      exact ⟨.ref p1, rfl, q p1 H' ws g1 n1 hp1 (Nat.le_trans hl1 (Nat.le_trans (Nat.pow_le_pow_right (by omega) hn) (by decide))) ht1⟩

end K35

set_option Elab.async false
set_option linter.all false
set_option maxRecDepth 100000
set_option maxHeartbeats 4000000
namespace K35
open PySem PySem.Spec PyProof.Rows L2 TK MR
variable {P : Program} {w : World} {K : PySem.W.Frag} {mg : Str → Option Value} {base : Heap}
/-- an operation: how many arguments, its table -/
def opD (k : Int) (tab : List Int) : PyData := .tuple [.int k, rowD tab]
theorem DT.op_inv {H : Hp} {v : V} {k : Int} {tab : List Int} (h : DT K H v (opD k tab)) : ∃ a b, v = .ref a ∧ SqT K H a [.int k, .ref b] ∧ SqT K H b (tab.map V.int) := by
  obtain ⟨a, xs, e, h1, h2⟩ := h.tup_inv
  obtain ⟨v1, r1, rfl, h3, h4⟩ := h2.cons_inv
  obtain ⟨v2, r2, rfl, h5, h6⟩ := h4.cons_inv
  have := h6.nil_inv
  subst this
  obtain ⟨b, rfl, h7⟩ := DT.row_inv h5
  rw [h3.int_inv] at h1
  exact ⟨a, b, e, h1, h7⟩
/-! _law_value -/
def sp_law_value (K : PySem.W.Frag) : Sp := fun vs H Q _ => ∃ (sz : Nat) (v : V) (l : Addr) (as tab : List Int) (k : Int), vs = [.int sz, v, .ref l] ∧ sz ≤ 4 ∧ DT K H v (opD k tab) ∧ SqL K H l (as.map V.int) ∧ (∀ x ∈ as, 0 ≤ x ∧ x < (sz : Int)) ∧ as.length ≤ 3 ∧ tab.length = sz ^ as.length ∧ Q (.int (tab.getD (idxI sz as).toNat 0)) H
theorem ok_law_value (T : Txt K mg base) : FnOk P w K mg base CX0 1 T.law_value.f T.law_value.fd p_law_value (sp_law_value K) := by
  refine T.law_value.F.ok sc_law_value (fun vs H Q E h => ?_) (fun A outer s H vs Q E hr h => ?_)
  · obtain ⟨_, _, _, _, _, _, rfl, _⟩ := h
    rfl
  · obtain ⟨sz, v, l, as, tab, k, rfl, hsz, hv, hS, has, hl, ht, q⟩ := h
    obtain ⟨a, b, rfl, h1, h2⟩ := DT.op_inv hv
    refine ⟨_, pss_cons (ps_set (i := 3) sc_law_value.nd rfl (.inl rfl) pe_int)
      (pss_cons (ps_for PassesOwn.never rfl (pi_list (pv 2)) (pg_name (i := 4) sc_law_value.nd rfl (.inl rfl))
        (pss_one (ps_set (i := 3) sc_law_value.nd rfl (.inl rfl) (pe_op op_add (pe_op op_mul (pv 3) (pv 0)) (pv 4)))))
      (pss_one (ps_ret (pe_ix (ix_tupK K) (pe_ix (ix_tupK K) (pv 1) pe_int (fun _ _ => rfl)) (pv 3) (fun _ _ => rfl))))), ?_⟩
    refine ⟨.ref l, rfl, l, rfl, ⟨_, hS⟩, ?_⟩
    refine for_list (K := K) (xs := as.map V.int) (fun i σ H' => H' = H ∧ ∃ y4, σ = [some (.int sz), some (.ref a), some (.ref l), some (.int (idxI sz (as.take i))), y4]) ⟨rfl, none, rfl⟩ (fun i σ H' _ p => by rw [p.1]; exact hS) (fun i x σ H' ex p => ?_) (fun σ H' p => ?_)
    · obtain ⟨rfl, y4, rfl⟩ := p
      rw [List.getElem?_map] at ex
      obtain ⟨n, en, rfl⟩ := Option.map_eq_some_iff.mp ex
      have hb := idxI_bd (sz := sz) (as.take i) fun x hx => has x (List.mem_of_mem_take hx)
      have hp : (sz : Int) ^ (as.take i).length ≤ 64 := by
        have h1 : sz ^ (as.take i).length ≤ 64 := Nat.le_trans (Nat.pow_le_pow_left hsz _) (Nat.le_trans (Nat.pow_le_pow_right (by omega) (show (as.take i).length ≤ 3 by rw [List.length_take]; omega)) (by decide))
        rw [← Int.natCast_pow]
        omega
      refine ⟨_, rfl, .int sz, rfl, _, sz, rfl, rfl, .inl ⟨by omega, by omega⟩, .int n, rfl, _, n, rfl, rfl, rfl, some (.int n), ?_⟩
      rw [List.take_add_one, en]
      show _ = [_, _, _, some (V.int (idxI sz (as.take i ++ [n]))), _]
      rw [idxI_app]
      rfl
    · obtain ⟨rfl, y4, rfl⟩ := p
      have e : as.take (as.map V.int).length = as := List.take_of_length_le (by rw [List.length_map]; exact Nat.le_refl _)
      rw [e]
      have hi : (idxI sz as).toNat < tab.length := by rw [ht]; exact idxI_nat has
      have h0 := (idxI_bd as has).1
      refine ⟨.ref a, rfl, a, _, 1, .ref b, rfl, rfl, h1, atI_nat (j := 1) rfl, .int (idxI sz as), rfl, b, _, idxI sz as, .int (tab.getD (idxI sz as).toNat 0), rfl, rfl, h2, at_of (j := (idxI sz as).toNat) (by omega) ?_, q⟩
      rw [List.getElem?_map, List.getElem?_eq_getElem hi, List.getD_eq_getElem?_getD, List.getElem?_eq_getElem hi]
      rfl
/-! _law_carried -/
def sp_law_carried (K : PySem.W.Frag) : Sp := fun vs H Q _ => ∃ (sz : Nat) (v u : V) (rs : List (List Int)) (tab : List Int) (k : Int) (ar : Nat), vs = [.int sz, v, u] ∧ sz ≤ 4 ∧ DT K H v (opD k tab) ∧ DT K H u (.tuple (rs.map rowD)) ∧ rs ≠ [] ∧ rs.length ≤ 3 ∧ (∀ r ∈ rs, r.length = ar ∧ ∀ x ∈ r, 0 ≤ x ∧ x < (sz : Int)) ∧ ar ≤ 4 ∧ tab.length = sz ^ rs.length ∧
  ∀ z H', Gr H H' → DT K H' z (rowD (carried sz tab rs ar)) → Q z H'
theorem ok_law_carried (T : Txt K mg base) : FnOk P w K mg base CX0 2 T.law_carried.f T.law_carried.fd p_law_carried (sp_law_carried K) := by
  refine T.law_carried.F.ok sc_law_carried (fun vs H Q E h => ?_) (fun A outer s H vs Q E hr h => ?_)
  · obtain ⟨_, _, _, _, _, _, _, rfl, _⟩ := h
    rfl
  · obtain ⟨sz, v, u, rs, tab, k, ar, rfl, hsz, hv, hu, hne, hl3, hrs, har, ht, q⟩ := h
    refine ⟨_, pss_one (ps_ret (pe_callTy (call_tuple_ofK K) (by rfl) T.b_tuple boot_tuple (pa_cons
      (pe_lc (own := [("at", 3)]) (g := gName 3) (tt := tYes) rfl sc_law_carried.nd (pi_range1 (by rfl) T.b_range (pa_cons (pe_callB call_len_seq (by rfl) T.b_len PySem.boot_len (pa_cons (pe_ix (ix_tupK K) (pv 2) pe_int (fun _ _ => rfl)) pa_nil)) pa_nil))
        (blkOk_by (N := n_law_carried) (sc := defScope s_law_carried) (by decide +kernel)) (fun _ _ _ _ _ => pg_name (i := 3) sc_law_carried.nd rfl (Or.inr rfl)) (fun _ _ _ _ _ => pts_nil)
        (fun _ _ _ _ _ => pe_call (ok_law_value T) hr (by rfl) T.law_value.g T.law_value.F.kp T.law_value.b .nil pass0 (pa_cons (pv 0) (pa_cons (pv 1) (pa_cons
          (pe_lc (own := [("told", 4)]) (g := gName 4) (tt := tYes) rfl sc_law_carried.nd (pi_tupK K (pv 2)) (blkOk_by (by kernel_rfl)) (fun _ _ _ _ _ => pg_name (i := 4) sc_law_carried.nd rfl (Or.inl rfl)) (fun _ _ _ _ _ => pts_nil)
            (fun _ _ _ _ _ => pe_ix (ix_tupK K) (pv 4) (pv 3) (fun _ _ => rfl))) pa_nil))))) pa_nil))), ?_⟩
    obtain ⟨b, xs, rfl, hB, hDs⟩ := hu.tup_inv
    have hxl : xs.length = rs.length := by rw [hDs.1, List.length_map]
    obtain ⟨r0, rest, ers⟩ : ∃ r0 rest, rs = r0 :: rest := by
      cases rs with
      | nil => exact absurd rfl hne
      | cons r0 rest => exact ⟨r0, rest, rfl⟩
    have hr0 := hrs r0 (by rw [ers]; exact List.mem_cons_self)
    obtain ⟨v0, e0, d0⟩ := hDs.at (i := 0) (d := rowD r0) (by rw [ers]; rfl)
    obtain ⟨p0, rfl, s0⟩ := d0.row_inv
    have el : (r0.map V.int).length = ar := by rw [List.length_map]; exact hr0.1
    refine ⟨.ref b, rfl, b, xs, 0, .ref p0, rfl, rfl, hB, atI_nat (j := 0) e0, p0, _, rfl, .inr s0, _, rfl, by omega, by omega, fun D nD => ?_⟩
    rw [el]
    refine lc_range (n := (ar : Int).toNat) (fun a H' => Gr H H' ∧ a ≤ ar ∧ H' D = some (.lst (((List.range a).map fun a => tab.getD (idxI sz (rs.map fun r => r.getD a 0)).toNat 0).map V.int))) ⟨Gx.new nD, Nat.zero_le _, upd_same⟩ (fun a H' ha p => ?_) (fun H' p => ?_)
    · obtain ⟨g, _, hD⟩ := p
      have ha2 : a < ar := by omega
      refine ⟨rfl, yesT ⟨.int sz, rfl, v, rfl, .ref b, rfl, b, rfl, ⟨_, g.seqT hB⟩, fun D2 nD2 => ?_⟩⟩
      refine lc_tup (K := K) (a := b) (xs := xs) (fun j H2 => Gr H' H2 ∧ H2 D2 = some (.lst (((rs.take j).map fun r => r.getD a 0).map V.int))) ⟨Gx.new nD2, upd_same⟩ (fun j H2 _ p => (g.trans p.1).seqT hB) (fun j x H2 ex p => ?_) (fun H2 p => ?_)
      · obtain ⟨g2, hD2⟩ := p
        obtain ⟨dx, e1, dv⟩ := hDs.at' ex
        rw [List.getElem?_map] at e1
        obtain ⟨r, er, rfl⟩ := Option.map_eq_some_iff.mp e1
        have hrl := (hrs r (List.mem_of_getElem? er)).1
        refine ⟨rfl, yesT ⟨x, rfl, .int (0 + (a : Int)), rfl, row_ix (dv.gr (g.trans g2)) (Int.zero_add _) (by omega) ⟨_, hD2, ?_, g2.wr nD2, ?_⟩⟩⟩
        · rw [List.length_map, List.length_map, List.length_take]
          exact small1000 (by omega)
        · rw [upd_same, List.take_add_one, er, List.map_append, List.map_append]
          rfl
      · obtain ⟨g2, hD2⟩ := p
        rw [hxl, List.take_length] at hD2
        have hD' := g2.lst hD
        refine ⟨sz, v, D2, rs.map fun r => r.getD a 0, tab, k, rfl, hsz, hv.gr (g.trans g2), .inl (.inl hD2), fun x hx => ?_, by rw [List.length_map]; exact hl3, by rw [List.length_map]; exact ht, _, hD', ?_, (g.trans g2).wr nD, ha2, ?_⟩
        · obtain ⟨r, hr, rfl⟩ := List.mem_map.mp hx
          have := hrs r hr
          have ha3 : a < r.length := by omega
          rw [List.getD_eq_getElem?_getD, List.getElem?_eq_getElem ha3]
          exact this.2 _ (List.getElem_mem ha3)
        · rw [List.length_map, List.length_map, List.length_range]
          exact small1000 (by omega)
        · rw [upd_same, List.range_succ, List.map_append, List.map_append]
          rfl
    · obtain ⟨g, _, hD⟩ := p
      have e : (ar : Int).toNat = ar := by omega
      rw [e] at hD
      exact ⟨D, _, rfl, .inl ⟨.inl (.inl hD), fun l nl => q _ _ (g.trans (Gx.new nl)) (.row upd_same)⟩⟩

end K35

set_option Elab.async false
set_option linter.all false
set_option maxRecDepth 100000
set_option maxHeartbeats 4000000
namespace K35
open PySem PySem.Spec PyProof.Rows L2 TK MR
variable {P : Program} {w : World} {K : PySem.W.Frag} {mg : Str → Option Value} {base : Heap}
/-! power_of -/
def sp_power_of : Sp := fun vs H Q _ => ∃ b e : Nat, vs = [.int b, .int e] ∧ b ≤ 4 ∧ e ≤ 8 ∧ Q (.int ((b ^ e : Nat) : Int)) H
theorem ok_power_of (T : Txt K mg base) : FnOk P w K mg base CX0 1 T.power_of.f T.power_of.fd p_power_of sp_power_of := by
  refine T.power_of.F.ok sc_power_of (fun vs H Q E h => ?_) (fun A outer s H vs Q E hr h => ?_)
  · obtain ⟨_, _, rfl, _⟩ := h
    rfl
  · obtain ⟨b, e, rfl, hb, he, q⟩ := h
    refine ⟨_, pss_cons (ps_set (i := 2) sc_power_of.nd rfl (.inl rfl) pe_int)
      (pss_cons (ps_for PassesOwn.never rfl (pi_range1 (by rfl) T.b_range (pa_cons (pv 1) pa_nil)) (pg_name (i := 3) sc_power_of.nd rfl (.inl rfl))
        (pss_one (ps_set (i := 2) sc_power_of.nd rfl (.inl rfl) (pe_op op_mul (pv 2) (pv 0)))))
      (pss_one (ps_ret (pv 2)))), ?_⟩
    refine ⟨.int e, rfl, e, rfl, by omega, by omega, ?_⟩
    refine for_range (n := (e : Int).toNat) (fun i σ H' => H' = H ∧ ∃ y3, σ = [some (.int b), some (.int e), some (.int ((b ^ i : Nat) : Int)), y3]) ⟨rfl, none, rfl⟩ (fun i σ H' hi p => ?_) (fun σ H' p => ?_)
    · obtain ⟨rfl, y3, rfl⟩ := p
      have h1 : b ^ i ≤ 4 ^ 8 := Nat.le_trans (Nat.pow_le_pow_left hb i) (Nat.pow_le_pow_right (by omega) (by omega))
      have h2 : (4 : Nat) ^ 8 = 65536 := by decide
      refine ⟨_, rfl, .int b, rfl, _, b, rfl, rfl, .inl ⟨by omega, by omega⟩, rfl, some (.int (0 + (i : Int))), ?_⟩
      show _ = [_, _, some (V.int ((b ^ (i + 1) : Nat) : Int)), _]
      rw [Nat.pow_succ, Int.natCast_mul]
      rfl
    · obtain ⟨rfl, y3, rfl⟩ := p
      have ee : (e : Int).toNat = e := by omega
      rw [ee]
      exact ⟨_, rfl, q⟩
/-- a table of so many arguments -/
structure TabOk4 (sz k : Nat) (tab : List Int) : Prop where
  k1 : 1 ≤ k
  k4 : k ≤ 4
  len : tab.length = sz ^ k
  val : ∀ x ∈ tab, 0 ≤ x ∧ x < (sz : Int)
theorem pow256 {sz k : Nat} (hs : sz ≤ 4) (hk : k ≤ 4) : sz ^ k ≤ 256 := Nat.le_trans (Nat.pow_le_pow_left hs k) (Nat.le_trans (Nat.pow_le_pow_right (by omega) hk) (by decide))
/-! is_operation_arity -/
def sp_is_operation_arity : Sp := fun vs H Q _ => ∃ sz k : Nat, vs = [.int sz, .int k] ∧ sz ≤ 4 ∧ (1 ≤ k ∧ k ≤ 4) ∧ Q (.bl true) H
theorem ok_is_operation_arity (T : Txt K mg base) : FnOk P w K mg base CX0 2 T.is_operation_arity.f T.is_operation_arity.fd p_is_operation_arity sp_is_operation_arity := by
  refine T.is_operation_arity.F.ok sc_is_operation_arity (fun vs H Q E h => ?_) (fun A outer s H vs Q E hr h => ?_)
  · obtain ⟨_, _, rfl, _⟩ := h
    rfl
  · obtain ⟨sz, k, rfl, hs, ⟨k1, k4⟩, q⟩ := h
    obtain ⟨t1, hMA⟩ := T.c_MOST_ARGUMENTS
    obtain ⟨t2, hLT⟩ := T.c_LONGEST_TABLE
    refine ⟨_, pss_one (ps_ret (pe_and (pe_call (ok_is_integer T) hr (by rfl) T.is_integer.g T.is_integer.F.kp T.is_integer.b .nil pass0 (pa_cons (pv 1) (pa_cons pe_int (pa_cons (pe_glob (v := .int 8) rfl hMA ⟨_, rfl⟩) pa_nil))))
      (pe_one (pe_cmpR op_le (pe_call (ok_power_of T) hr (by rfl) T.power_of.g T.power_of.F.kp T.power_of.b .nil pass0 (pa_cons (pv 0) (pa_cons (pv 1) pa_nil))) (pe_glob (v := .int 256) rfl hLT ⟨_, rfl⟩) (nomark _))))), ?_⟩
    refine ⟨.int k, rfl, k, 1, 8, rfl, _, rfl, ?_⟩
    rw [decide_eq_true (by omega)]
    refine iteT ⟨.int sz, rfl, .int k, rfl, sz, k, rfl, hs, by omega, _, 256, rfl, rfl, ?_⟩
    have := pow256 hs k4
    have e : decide (((sz ^ k : Nat) : Int) ≤ 256) = true := decide_eq_true (by omega)
    rw [← e] at q
    exact q
theorem op_invS {H : Hp} {v : V} {k : Int} {tab : List Int} (h : DT K H v (opD k tab)) : ∃ a b, v = .ref a ∧ H a = some (.tup [.int k, .ref b]) ∧ H b = some (.tup (tab.map V.int)) := by
  obtain ⟨a, xs, e, h1, h2⟩ := h.tup_invS
  obtain ⟨v1, r1, rfl, h3, h4⟩ := h2.cons_inv
  obtain ⟨v2, r2, rfl, h5, h6⟩ := h4.cons_inv
  have := h6.nil_inv
  subst this
  obtain ⟨b, rfl, hb⟩ := h5.row_invS
  rw [h3.int_inv] at h1
  exact ⟨a, b, e, h1, hb⟩
/-! is_operation -/
def sp_is_operation (T : Txt K mg base) : Sp := fun vs H Q _ => ∃ (sz k : Nat) (v : V) (tab : List Int), vs = [.int sz, v] ∧ sz ≤ 4 ∧ DT K H v (opD k tab) ∧ TabOk4 sz k tab ∧ TT T.tabs H ∧ ∀ H', Gr H H' → Q (.bl true) H'
theorem ok_is_operation (T : Txt K mg base) : FnOk P w K mg base CX0 5 T.is_operation.f T.is_operation.fd p_is_operation (sp_is_operation T) := by
  refine T.is_operation.F.ok sc_is_operation (fun vs H Q E h => ?_) (fun A outer s H vs Q E hr h => ?_)
  · obtain ⟨_, _, _, _, rfl, _⟩ := h
    rfl
  · obtain ⟨sz, k, v, tab, rfl, hs, hv, O, hT, q⟩ := h
    refine ⟨_, pss_cons (ps_if (pt_not (pt_val (pe_call (ok_is_tuple T) (hr.mono (by decide)) (by rfl) T.is_tuple.g T.is_tuple.F.kp T.is_tuple.b .nil pass0 (pa_cons (pv 1) (pa_cons pe_int (pa_cons pe_int pa_nil)))))) (pss_one ps_never) pss_nil)
      (pss_cons (ps_asg (pv 1) (pg_tup (by rfl) (pgs_cons (pg_name (i := 2) sc_is_operation.nd rfl (.inl rfl)) (pgs_cons (pg_name (i := 3) sc_is_operation.nd rfl (.inl rfl)) pgs_nil))))
      (pss_one (ps_ret (pe_and (pe_call (ok_is_operation_arity T) (hr.mono (by decide)) (by rfl) T.is_operation_arity.g T.is_operation_arity.F.kp T.is_operation_arity.b .nil pass0 (pa_cons (pv 0) (pa_cons (pv 2) pa_nil)))
        (pe_one (pe_call (ok_is_row T) hr (by rfl) T.is_row.g T.is_row.F.kp T.is_row.b .nil pass0 (pa_cons (pv 0) (pa_cons (pe_call (ok_power_of T) (hr.mono (by decide)) (by rfl) T.power_of.g T.power_of.F.kp T.power_of.b .nil pass0 (pa_cons (pv 0) (pa_cons (pv 2) pa_nil))) (pa_cons (pv 3) pa_nil))))))))), ?_⟩
    obtain ⟨a, b, rfl, h1, h2⟩ := op_invS hv
    have dtab : DT K H (.ref b) (rowD tab) := .row h2
    refine ⟨.ref a, rfl, .ref a, _, 2, 2, rfl, hv, true, ?_, iteF ?_⟩
    · rfl
    refine ⟨.ref a, rfl, a, _, rfl, .inl (.inl h1), rfl, .int k, [.ref b], rfl, .ref b, [], rfl, rfl, ?_⟩
    refine ⟨.int sz, rfl, .int k, rfl, sz, k, rfl, hs, ⟨O.k1, O.k4⟩, true, rfl, iteT ?_⟩
    refine ⟨.int sz, rfl, .int sz, rfl, .int k, rfl, sz, k, rfl, hs, by have := O.k4; omega, .ref b, rfl, sz, _, .ref b, tab, rfl, dtab, hT, by rw [O.len], fun x hx => by have := O.val x hx; omega, fun H' g => q H' g⟩
/-! check_operation -/
def sp_check_operation (T : Txt K mg base) : Sp := fun vs H Q _ => ∃ (sz k : Nat) (v : V) (tab : List Int), vs = [.int sz, v] ∧ sz ≤ 4 ∧ DT K H v (opD k tab) ∧ TabOk4 sz k tab ∧ TT T.tabs H ∧ ∀ H', Gr H H' → Q .non H'
theorem ok_check_operation (T : Txt K mg base) : FnOk P w K mg base CX0 6 T.check_operation.f T.check_operation.fd p_check_operation (sp_check_operation T) := by
  refine T.check_operation.F.ok sc_check_operation (fun vs H Q E h => ?_) (fun A outer s H vs Q E hr h => ?_)
  · obtain ⟨_, _, _, _, rfl, _⟩ := h
    rfl
  · obtain ⟨sz, k, v, tab, rfl, hs, hv, O, hT, q⟩ := h
    refine ⟨_, pss_one (ps_if (pt_not (pt_val (pe_call (ok_is_operation T) hr (by rfl) T.is_operation.g T.is_operation.F.kp T.is_operation.b .nil pass0 (pa_cons (pv 0) (pa_cons (pv 1) pa_nil))))) (pss_one ps_never) pss_nil), ?_⟩
    exact ⟨.int sz, rfl, v, rfl, sz, k, v, tab, rfl, hs, hv, O, hT, fun H' g => ⟨true, rfl, iteF (q H' g)⟩⟩
/-! check_operation_arity -/
def sp_check_operation_arity : Sp := fun vs H Q _ => ∃ sz k : Nat, vs = [.int sz, .int k] ∧ sz ≤ 4 ∧ (1 ≤ k ∧ k ≤ 4) ∧ Q .non H
/-! position -/
def sp_position (K : PySem.W.Frag) : Sp := fun vs H Q _ => ∃ (sz : Nat) (v : V) (as : List Int), vs = [.int sz, v] ∧ sz ≤ 4 ∧ DT K H v (rowD as) ∧ (∀ x ∈ as, 0 ≤ x ∧ x < (sz : Int)) ∧ as.length ≤ 4 ∧ Q (.int (idxI sz as)) H
/-! apply -/
def sp_apply (T : Txt K mg base) : Sp := fun vs H Q _ => ∃ (sz k : Nat) (v u : V) (tab as : List Int), vs = [.int sz, v, u] ∧ (1 ≤ sz ∧ sz ≤ 4) ∧ DT K H v (opD k tab) ∧ TabOk4 sz k tab ∧ DT K H u (rowD as) ∧ as.length = k ∧ (∀ x ∈ as, 0 ≤ x ∧ x < (sz : Int)) ∧ TT T.tabs H ∧ ∀ H', Gr H H' → Q (.int (tab.getD (idxI sz as).toNat 0)) H'
end K35

set_option Elab.async false
set_option linter.all false
set_option maxRecDepth 100000
set_option maxHeartbeats 4000000
/-! d.setdefault(key, x), the key a tuple -/
namespace SD
open PySem PySem.W PySem.Calls PyProof.Rows PyProof.V PySem.Spec L2
section
variable {prog : Program} {w : World} {K : Type} [DecidableEq K] {knd : HeapKind prog w K} {A : Around} {E : Value → Shared → Prop} {s : Shared}
theorem dictSetDefault_heap {d a : Addr} {xs : List (K × Addr × Value)} {k : K} {v : Value} {Q : Value → Shared → Prop} (hu : knd.room A) (hkey : knd.is s.heap k a) (hm : s.heap.DictOfH knd d xs)
    (h1 : ∀ p, atKey xs k = some p → Q p.2 { s with toks := s.toks + knd.draws k })
    (hQ : atKey xs k = none → ∀ h', h'.DictOfH knd d (storedH xs k a v) → Heap.SameBut d s.heap h' → Q v { s with heap := h', toks := s.toks + knd.draws k })
    (hsz : xs.length ≤ sizeLine) :
    wpAny (model prog w) A (dictSetDefault d (.ref a) v) Q E s := by
  obtain ⟨o, es, ep, ho, hc, hd, he, his, hn⟩ := hm
  unfold dictSetDefault
  try with_reducible refine wpAny_holding ?_
  refine wpAny_bind (knd.pyHash hu hkey ?_)
  refine wpAny_bind (wpAny_dictFind_heap (s := { s with toks := s.toks + knd.draws k }) hu hkey ho hd he his hn ?_ ?_)
  · intro hno
    have hnot : k ∉ xs.map (·.1) := not_mem_keys_of_get hno
    refine wpAny_bind (wpAny_rule (wpAny_bind (wpAny_updateDictKeys (hz := by have e := size_of_entries he; omega) (s := { s with toks := s.toks + knd.draws k }) ho hd (wpAny_pure (hQ (atKey_none_of_get hno) _ ⟨_, _, ep + 1, Heap.get?_update_self _ ho (Obj.isFreed_of_dict (Obj.data_mapDictKeys hd _)),
      hc.mapDictKeys _, Obj.data_mapDictKeys hd _, ?_, ?_, ?_⟩ (Heap.SameBut.update ..))))))
    · rw [storedH_new (atKey_none_of_get hno)]
      simp [he, entryOfKey]
    · rw [storedH_new (atKey_none_of_get hno)]
      intro x hx
      rcases List.mem_append.mp hx with hx | hx
      · exact knd.keeps (his x hx) ho hd (Heap.SameBut.update ..)
      · simp only [List.mem_singleton] at hx
        subst hx
        exact knd.keeps hkey ho hd (Heap.SameBut.update ..)
    · rw [storedH_new (atKey_none_of_get hno)]
      rw [List.map_append, List.nodup_append]
      refine ⟨hn, by simp, ?_⟩
      intro x hx y hy
      simp only [List.map_cons, List.map_nil, List.mem_singleton] at hy
      subst hy
      exact fun e => hnot (e ▸ hx)
  · intro j p hj
    refine wpAny_bind (wpAny_dictEntries (s := { s with toks := s.toks + knd.draws k }) ho hd ?_)
    have hej : es[j]? = some (entryOfKey knd (k, p)) := by rw [entry_at he j, hj]; rfl
    rw [hej]
    exact wpAny_bind (wpAny_rule (wpAny_pure (h1 p (atKey_of_get hn hj))))
theorem meetsSetdefault {d b : Addr} {k : K} (dflt : Value) (hd : (d == sysModules) = false) :
    MeetsIn prog w (Builtin.«dict.setdefault» ⟨[.ref d, .ref b, dflt], []⟩) (fun A R s => ∃ xs, knd.room A.in1 ∧ knd.is s.heap k b ∧ s.heap.DictOfH knd d xs ∧ xs.length ≤ sizeLine ∧
      (∀ p, atKey xs k = some p → ∀ tk, R (.ok (.ret p.2)) { s with toks := tk }) ∧
      (atKey xs k = none → ∀ h' tk, h'.DictOfH knd d (storedH xs k b dflt) → Heap.SameBut d s.heap h' → R (.ok (.ret dflt)) { s with heap := h', toks := tk })) :=
  .of_wp fun A R s ⟨xs, hu, hkey, hm, hsz, h1, h2⟩ => by
    unfold Builtin.«dict.setdefault»
    refine wpAny_bind ?_
    unfold Builtin.Dict.keyAndDefault
    refine wpAny_bind (wpAny_notOrdered_dict hm.typeIs ?_)
    show wpAny _ _ (pure (d, Value.ref b, some dflt)) _ _ s
    refine wpAny_pure ?_
    show wpAny _ _ (if (d == sysModules) = true then _ else (dictSetDefault d (.ref b) dflt >>= _)) _ _ s
    rw [if_neg (by rw [hd]; exact Bool.false_ne_true)]
    exact wpAny_bind (dictSetDefault_heap hu hkey hm (fun p hp => wpAny_pure ⟨_, rfl, h1 p hp _⟩) (fun hn h' hm' hs' => wpAny_pure ⟨dflt, rfl, h2 hn h' _ hm' hs'⟩) hsz)
end
section
variable {X : Cx}
def rSetT : V → List V → Hp → VK → Prop := fun x xs H Q => ∃ (a : Addr) (kvs : List (List L2.Key × V)) (k : List L2.Key) (b : Addr) (d : V), x = .ref a ∧ xs = [.ref b, d] ∧ H a = some (.dT kvs) ∧ H b = some (.tup (k.map kV)) ∧ kvs.length < sizeLine ∧
  (∀ v, valV kvs k = some v → Q v H) ∧ (valV kvs k = none → Q d (upd H a (.dT (putK kvs k d))))
theorem mt_setT (hu : X.A.units + 1 < cLine) : MtR X "dict.setdefault" rSetT := by
  intro pins s σ H x xs v us Q I rx rxs h
  obtain ⟨a, kvs, k, b, d, rfl, rfl, ha, hb, hlt, q1, q2⟩ := h
  cases rx
  obtain ⟨u1, u2, rfl, r1, r2⟩ := vals2 rxs
  cases r1
  obtain ⟨z, hd, xs', rel, dd⟩ := dt_of I.hok ha
  have hz : xs'.length ≤ sizeLine := by rw [← Paired.length rel]; exact z
  refine call_meetsIn PySem.F.slot_dict_setdefault dd.typeIs PySem.F.entry_dict_setdefault (PySem.F.args_dict_setdefault_3 _ _ _) (meetsSetdefault (knd := tupleKind (mixKind X.prog X.w)) (k := k) u2 hd)
    ⟨xs', tupleKind_room_in1 hu, key_of I.hok hb, dd, hz, fun p hp tk => ?_, fun hn h' tk dd' hs => ?_⟩
  · have r := rel.val k
    rw [hp] at r
    obtain ⟨v0, ev, rv⟩ : ∃ v0, valV kvs k = some v0 ∧ RelV v0 p.2 := by
      cases ev : valV kvs k with
      | none =>
        rw [ev] at r
        exact (show False from r).elim
      | some v0 =>
        rw [ev] at r
        exact ⟨v0, rfl, r⟩
    show EP X pins σ Q p.2 _
    exact ⟨v0, H, I.tok tk, rv, q1 v0 ev⟩
  · have r := rel.val k
    rw [hn] at r
    have e : valV kvs k = none := by
      cases ev : valV kvs k with
      | none => rfl
      | some v0 =>
        rw [ev] at r
        exact (show False from r).elim
    have hl : (putK kvs k d).length ≤ sizeLine := by have := length_putK kvs k d; omega
    obtain ⟨q, es, ep, hq, h2, h3, h4, _, h5⟩ := dd'
    have I2 : Inv X pins σ (upd H a (.dT (putK kvs k d))) { s with heap := h', toks := tk } :=
      d_write I (by rw [ha]; exact True.intro) hs ⟨q, hq⟩ ⟨hl, hd, _, (rel.put k hb r2).keeps (fun c ys ec => (by rw [upd_ne (ne_of ec ha (fun z => nomatch z))]; exact ec)), q, es, ep, hq, h2, h3, h4, h5⟩
    show EP X pins σ Q u2 _
    exact ⟨d, _, I2, r2, q2 e⟩
end
end SD

set_option Elab.async false
set_option linter.all false
set_option maxRecDepth 100000
set_option maxHeartbeats 4000000
namespace K35
open PySem PySem.Spec PyProof.Rows L2 TK MR
variable {P : Program} {w : World} {K : PySem.W.Frag} {mg : Str → Option Value} {base : Heap}
theorem sl_tupAK (K : PySem.W.Frag) {X : Cx} (hK : X.K = K := by rfl) : SlR X (rSlA K) := hK ▸ sl_tupA
/-- a part of a tuple, laid or the tuple itself -/
theorem sl_row {H : Hp} {b : Addr} {r : List Int} {lo hi : Nat} {Q : VK} (hb : H b = some (.tup (r.map V.int))) (h1 : lo ≤ hi) (h2 : hi ≤ r.length) (q : ∀ p H', Gr H H' → H' p = some (.tup (((r.drop lo).take (hi - lo)).map V.int)) → Q (.ref p) H') : rSlA K (.ref b) (some (lo : Int)) (some (hi : Int)) H Q := by
  have e1 : HT.sIx (r.map V.int).length 0 (some (lo : Int)) = lo := by
    rw [HT.sIx_nat, List.length_map]
    omega
  have e2 : HT.sIx (r.map V.int).length (r.map V.int).length (some (hi : Int)) = hi := by
    rw [HT.sIx_nat, List.length_map]
    omega
  refine ⟨b, _, rfl, .inl (.inl hb), fun h => ?_, fun _ p np => ?_⟩
  · rw [e1, e2, List.length_map] at h
    obtain ⟨rfl, rfl⟩ := h
    refine q b H Gx.refl ?_
    rw [List.drop_zero, Nat.sub_zero, List.take_length]
    exact hb
  · refine q p _ (Gx.new np) ?_
    rw [upd_same]
    unfold cutV
    rw [e1, e2, List.map_take, List.map_drop]
/-! _parts -/
def sp_parts (K : PySem.W.Frag) : Sp := fun vs H Q _ => ∃ (sz : Nat) (b : Addr) (r : List Int), vs = [.int sz, .ref b] ∧ 1 ≤ sz ∧ sz ≤ 4 ∧ H b = some (.tup (r.map V.int)) ∧ r.length ≤ 256 ∧ ∀ p H', Gr H H' → H p = none → LR K H' p (partsOf sz r) → Q (.ref p) H'
theorem ok_parts (T : Txt K mg base) : FnOk P w K mg base CX0 1 T.parts.f T.parts.fd p_parts (sp_parts K) := by
  refine T.parts.F.ok sc_parts (fun vs H Q E h => ?_) (fun A outer s H vs Q E hr h => ?_)
  · obtain ⟨_, _, _, rfl, _⟩ := h
    rfl
  · obtain ⟨sz, b, r, rfl, s1, s4, hb, hl, q⟩ := h
    refine ⟨_, pss_cons (ps_set (i := 2) sc_parts.nd rfl (by first | exact .inl rfl | exact .inr rfl) (pe_op op_fdivNN (pe_callB (call_len_seqK K) (by rfl) T.b_len PySem.boot_len (pa_cons (pv 1) pa_nil)) (pv 0)))
      (pss_one (ps_ret (pe_lc (own := [("value", 3)]) (g := gName 3) (tt := tYes) rfl sc_parts.nd (pi_range1 (by rfl) T.b_range (pa_cons (pv 0) pa_nil)) (blkOk_by (N := n_parts) (sc := defScope s_parts) (by decide +kernel)) (fun _ _ _ _ _ => pg_name (i := 3) sc_parts.nd rfl (by first | exact .inl rfl | exact .inr rfl)) (fun _ _ _ _ _ => pts_nil)
        (fun _ _ _ _ _ => pe_slice (sl_tupAK K) (pv 1) (po_some (pe_op op_mulN (pv 3) (pv 2))) (po_some (pe_op op_mulN (pe_op op_addN (pv 3) pe_int) (pv 2))))))), ?_⟩
    refine ⟨.ref b, rfl, b, _, rfl, .inr (.inl (.inl hb)), .int sz, rfl, r.length, sz, by rw [List.length_map], rfl, ⟨s1, by omega⟩, ?_⟩
    refine ⟨.int sz, rfl, sz, rfl, by omega, by omega, fun D nD => ?_⟩
    refine lc_range (n := ((sz : Nat) : Int).toNat) (fun i H' => Gr H H' ∧ LR K H' D (((List.range i).map (partAt sz r)))) ⟨Gx.new nD, [], upd_same, .nil⟩ (fun i H' hi p => ?_) (fun H' p => ?_)
    · obtain ⟨g1, ws, hD, hds⟩ := p
      have his : i < sz := by omega
      have e0 : (V.int (0 + (i : Int))) = V.int ((i : Nat) : Int) := by rw [Int.zero_add]
      rw [e0]
      refine ⟨rfl, yesT ⟨.ref b, rfl, .int i, rfl, .int ((r.length / sz : Nat) : Int), rfl, i, r.length / sz, rfl, rfl, by omega, _, rfl, .int i, rfl, i, 1, rfl, rfl, .int ((r.length / sz : Nat) : Int), rfl, i + 1, r.length / sz, rfl, rfl, by omega, _, rfl, ?_⟩⟩
      have h2 : (i + 1) * (r.length / sz) ≤ r.length := Nat.le_trans (Nat.mul_le_mul_right _ his) (Nat.mul_div_le _ _)
      refine sl_row (Gx.tupS g1 .nil hb) (Nat.mul_le_mul_right _ (Nat.le_succ i)) h2 fun p H2 g2 hp => ?_
      have hD2 := g2.lst hD
      refine ⟨ws, hD2, ?_, (g1.trans g2).wr nD, _, upd_same, ?_⟩
      · rw [hds.1, List.length_map, List.length_map, List.length_range]
        exact small1000 (by omega)
      · rw [List.range_succ, List.map_append]
        refine LR.app ((hds.gr g2).wr hD2) (DT.wr hD2 (.row ?_))
        rw [hp]
        unfold partAt
        rw [Nat.add_mul, Nat.one_mul, Nat.add_sub_cancel_left]
    · obtain ⟨g1, h⟩ := p
      have e : (((sz : Nat) : Int)).toNat = sz := by omega
      rw [e] at h
      exact q D H' g1 nD h

end K35

set_option Elab.async false
set_option linter.all false
set_option maxRecDepth 100000
namespace MR
def minOf : List Int → Int
  | [] => 0
  | n :: ns => ns.foldl min n
def maxOf : List Int → Int
  | [] => 0
  | n :: ns => ns.foldl max n
/-- the ascending arrangement -/
def ins (x : Int) : List Int → List Int
  | [] => [x]
  | y :: ys => if x ≤ y then x :: y :: ys else y :: ins x ys
def isort : List Int → List Int
  | [] => []
  | x :: xs => ins x (isort xs)
theorem ins_perm (x : Int) : ∀ l, (ins x l).Perm (x :: l)
  | [] => List.Perm.refl _
  | y :: ys => by
    unfold ins
    split
    · exact List.Perm.refl _
    · exact ((ins_perm x ys).cons y).trans (List.Perm.swap x y ys)
theorem isort_perm : ∀ l, (isort l).Perm l
  | [] => List.Perm.refl _
  | x :: xs => (ins_perm x _).trans ((isort_perm xs).cons x)
theorem ins_asc (x : Int) : ∀ {l : List Int}, l.Pairwise (· ≤ ·) → (ins x l).Pairwise (· ≤ ·)
  | [], _ => List.pairwise_singleton ..
  | y :: ys, h => by
    obtain ⟨h1, h2⟩ := List.pairwise_cons.mp h
    unfold ins
    split
    · rename_i hxy
      exact List.pairwise_cons.mpr ⟨fun z hz => (List.mem_cons.mp hz).elim (fun e => e ▸ hxy) fun hz => Int.le_trans hxy (h1 z hz), h⟩
    · rename_i hxy
      refine List.pairwise_cons.mpr ⟨fun z hz => ?_, ins_asc x h2⟩
      rcases List.mem_cons.mp ((ins_perm x ys).subset hz) with e | hz
      · rw [e]
        omega
      · exact h1 z hz
theorem isort_asc : ∀ l, (isort l).Pairwise (· ≤ ·)
  | [] => List.Pairwise.nil
  | x :: xs => ins_asc x (isort_asc xs)
/-- the second of the ascending list -/
def mid (r : List Int) : Int := (isort r).getD 1 0
def dif (sz : Nat) (r : List Int) : Int := Int.fmod (r.getD 0 0 - r.getD 1 0 + r.getD 2 0) sz
def pix (r : List Int) : Int := if r.getD 1 0 = r.getD 2 0 then r.getD 1 0 else r.getD 0 0
def named (sz : Nat) : List (Nat × List Int) :=
  [(2, (allRows sz 2).map minOf), (2, (allRows sz 2).map maxOf), (3, (allRows sz 3).map mid), (3, (allRows sz 3).map (dif sz)), (1, List.replicate sz 0), (3, (allRows sz 3).map pix)]
/-- two ascending arrangements are one -/
theorem sorted_one : ∀ {l m : List Int}, l.Perm m → l.Pairwise (· ≤ ·) → m.Pairwise (· ≤ ·) → l = m
  | [], m, h, _, _ => (List.nil_perm.mp h).symm
  | a :: l, [], h, _, _ => absurd h.length_eq (by simp)
  | a :: l, b :: m, h, h1, h2 => by
    have ha : a ∈ b :: m := h.subset List.mem_cons_self
    have hb : b ∈ a :: l := h.symm.subset List.mem_cons_self
    have e : a = b := by
      rcases List.mem_cons.mp ha with e | ha
      · exact e
      · rcases List.mem_cons.mp hb with e | hb
        · exact e.symm
        · exact Int.le_antisymm ((List.pairwise_cons.mp h1).1 b hb) ((List.pairwise_cons.mp h2).1 a ha)
    subst e
    rw [sorted_one (List.perm_cons a |>.mp h) (List.pairwise_cons.mp h1).2 (List.pairwise_cons.mp h2).2]
theorem mid_eq {r l : List Int} (h : l.Perm r) (hs : l.Pairwise (· ≤ ·)) : l.getD 1 0 = mid r := by
  unfold mid
  rw [sorted_one (h.trans (isort_perm r).symm) hs (isort_asc r)]
/-- an operation of so many arguments: its table -/
structure OpOk (sz k : Nat) (tab : List Int) : Prop where
  k1 : 1 ≤ k
  k3 : k ≤ 3
  len : tab.length = sz ^ k
  val : ∀ x ∈ tab, 0 ≤ x ∧ x < (sz : Int)
  /-- equal arguments give themselves, or all give zero -/
  own : (∀ v : Nat, v < sz → tab.getD (idxI sz (List.replicate k (v : Int))).toNat 0 = v) ∨ (∀ x ∈ tab, x = 0)
def opB (sz : Nat) (o : Nat × List Int) : Bool :=
  decide (1 ≤ o.1) && decide (o.1 ≤ 3) && decide (o.2.length = sz ^ o.1) && (o.2.all fun x => decide (0 ≤ x) && decide (x < (sz : Int))) &&
    (((List.range sz).all fun v => decide (o.2.getD (idxI sz (List.replicate o.1 (v : Int))).toNat 0 = v)) || o.2.all fun x => decide (x = 0))
theorem op_by {sz : Nat} {o : Nat × List Int} (h : opB sz o = true) : OpOk sz o.1 o.2 := by
  unfold opB at h
  simp only [Bool.and_eq_true, Bool.or_eq_true, decide_eq_true_eq, List.all_eq_true, List.mem_range] at h
  obtain ⟨⟨⟨⟨h1, h2⟩, h3⟩, h4⟩, h5⟩ := h
  exact ⟨h1, h2, h3, h4, h5⟩
theorem named_ok1 : (named 1).all (opB 1) = true := by decide +kernel
theorem named_ok2 : (named 2).all (opB 2) = true := by decide +kernel
theorem named_ok3 : (named 3).all (opB 3) = true := by decide +kernel
theorem named_ok4 : (named 4).all (opB 4) = true := by decide +kernel
theorem named_ok {sz : Nat} (h1 : 1 ≤ sz) (h4 : sz ≤ 4) : ∀ o ∈ named sz, OpOk sz o.1 o.2 := fun o ho => by
  have e : sz = 1 ∨ sz = 2 ∨ sz = 3 ∨ sz = 4 := by omega
  rcases e with rfl | rfl | rfl | rfl
  · exact op_by (List.all_eq_true.mp named_ok1 o ho)
  · exact op_by (List.all_eq_true.mp named_ok2 o ho)
  · exact op_by (List.all_eq_true.mp named_ok3 o ho)
  · exact op_by (List.all_eq_true.mp named_ok4 o ho)
end MR

set_option Elab.async false
set_option linter.all false
set_option maxRecDepth 100000
set_option maxHeartbeats 4000000
/-! min, max, sorted of a tuple of ints; tuple * 1 -/
namespace PyProof.Rows
open PySem
open Sem (wp)
section
variable {prog : Program} {w : World} {A : Around} {E : Value → Shared → Prop} {s : Shared}
theorem collect_tupleI {l : Addr} {vs : List Value} {Q : List Value → Shared → Prop} (hl : IsTup s.heap l vs.toArray)
    (h : Q vs { s with heap := (s.heap.push (seqObj "list" #[] 0)).update s.heap.objs.size (Obj.mapSeq (· ++ vs.toArray)) }) (hsz : vs.length ≤ sizeLine) :
    wpAny (model prog w) A (collect (.ref l)) Q E s := by
  obtain ⟨o, ho, hc, n, hd⟩ := id hl
  unfold collect
  refine wpAny_bind (wpAny_runValue (codeAny_builtin entry_proto_collect' ?_))
  show wpAny _ _ (do again (.builtin "list.__iadd__" ⟨[← newList [], .ref l], []⟩)) _ _ s
  refine wpAny_bind (wpAny_newList (wpAny_pure ⟨Code.quiet_builtin _ (by decide +kernel), codeAny_builtin entry_list_iadd' ?_⟩))
  show wpAny _ _ (Builtin.List.listExtendWith (.ref s.heap.objs.size) (.ref l) (.ref s.heap.objs.size)) _ _ { s with heap := s.heap.push (seqObj "list" #[] 0) }
  unfold Builtin.List.listExtendWith
  have ho' : (s.heap.push (seqObj "list" #[] 0)).get? l = some o := Heap.get?_push_of_some _ ho
  refine wpAny_bind (wpAny_typeOf (T := "tuple") ⟨o, ho', hc⟩ ?_)
  have ht : (Value.type "tuple" == Value.type "tuple") = true := by rfl
  rw [if_pos (by rw [ht]; simp)]
  refine wpAny_bind (listItems_at ho' hd ?_)
  refine wpAny_bind (listItems_at (xs := #[]) (n := 0) (Heap.get?_push_size _ rfl) rfl ?_)
  rw [if_neg (by simp)]
  refine wpAny_bind (listUpdate_at (xs := #[]) (n := 0) (Heap.get?_push_size _ rfl) rfl ?_ (Nat.zero_le _) (by show (#[] ++ vs.toArray).size ≤ sizeLine + 1; simp only [Array.size_append, List.size_toArray, List.length_nil]; omega))
  refine wpAny_pure ?_
  show wpAny (model prog w) A (do
      let o ← load s.heap.objs.size
      match o.data with
      | .seq xs _ => pure xs.toList
      | _ => unsupported "internal:collect") Q E { s with heap := (s.heap.push (seqObj "list" #[] 0)).update s.heap.objs.size (Obj.mapSeq (· ++ vs.toArray)) }
  refine wpAny_bind (wpAny_load (get?_update_seq (Heap.get?_push_size _ rfl) _) ?_)
  show wpAny _ _ (pure ((#[] : Array Value) ++ vs.toArray).toList) Q E _
  rw [show ((#[] : Array Value) ++ vs.toArray).toList = vs by simp]
  exact wpAny_pure h
theorem sorted_intsT {l : Addr} {vs : List Value} {ns : List Int} {Q : Value → Shared → Prop} (hl : IsTup s.heap l vs.toArray) (hI : IntsAre vs ns) (h64 : vs.length < 64)
    (h : ∀ (out : Array Value) (ns' : List Int), IntsAre out.toList ns' → ns'.Perm ns → ns'.Pairwise (· ≤ ·) → Q (.ref (s.heap.objs.size + 1)) { s with heap := sortedAll s.heap vs out }) :
    wpAny (model prog w) A (call (.builtin "sorted") [.ref l]) Q E s := by
  refine Calls.call_function_entry kind_sorted plain_sorted entry_sorted (args_sorted1 _) ?_
  unfold Builtin.«sorted»
  refine wpAny_bind (m := checkCount "sorted" 1 1 _) (wpAny_pure ?_)
  refine wpAny_bind (collect_tupleI hl ?_ (by rw [sizeLine_eq]; omega))
  refine wpAny_bind (wpAny_newList ?_)
  have hsz : ((s.heap.push (seqObj "list" #[] 0)).update s.heap.objs.size (Obj.mapSeq (· ++ vs.toArray))).objs.size = s.heap.objs.size + 1 := by
    rw [Heap.size_update, size_push']
  have hoL : (((s.heap.push (seqObj "list" #[] 0)).update s.heap.objs.size (Obj.mapSeq (· ++ vs.toArray))).push (seqObj "list" vs.toArray 0)).get? (s.heap.objs.size + 1) = some (seqObj "list" vs.toArray 0) := by
    rw [← hsz]; exact Heap.get?_push_size _ rfl
  show wpAny _ _ _ _ _ { s with heap := ((s.heap.push (seqObj "list" #[] 0)).update s.heap.objs.size (Obj.mapSeq (· ++ vs.toArray))).push (seqObj "list" vs.toArray 0) }
  rw [hsz]
  refine wpAny_bind (wpAny_holding (wpAny_call_entry slot_list_sort ⟨_, hoL, rfl⟩ entry_list_sort (list_sort_tree hoL hI h64 fun out ns' a1 a2 a3 => ⟨_, rfl, ?_⟩) (args_list_sort _)))
  exact wpAny_pure ⟨_, rfl, h out ns' a1 a2 a3⟩
end
end PyProof.Rows
namespace TK
open PySem PySem.Spec PyProof.Rows L2
section
variable {X : Cx}
theorem dpAll_ints {K : PySem.W.Frag} {H : Hp} : ∀ ns : List Int, DpAll K H (ns.map V.int) (ns.map PyData.int)
  | [] => .nil
  | n :: ns => .cons (.int n) (dpAll_ints ns)
theorem alikeInts (ns : List Int) : PySem.W.AlikeAll (ns.map PyData.int) := by
  refine ⟨fun x hx y hy => ?_, fun x hx => ?_⟩
  · obtain ⟨n, _, rfl⟩ := List.mem_map.mp hx
    obtain ⟨m, _, rfl⟩ := List.mem_map.mp hy
    rfl
  · obtain ⟨n, _, rfl⟩ := List.mem_map.mp hx
    exact fun z => by cases z
theorem depthInts : ∀ ns : List Int, PyData.depthAll (ns.map PyData.int) ≤ 1
  | [] => Nat.zero_le _
  | n :: ns => Nat.max_le.mpr ⟨by show PyData.depth (.int n) ≤ 1; simp [PyData.depth], depthInts ns⟩
/-- sorted(a tuple of ints) -/
def rSortedTI (K : PySem.W.Frag) : List V → Hp → VK → Prop := fun vs H Q => ∃ (a : Addr) (ns : List Int), vs = [V.ref a] ∧ SqT K H a (ns.map V.int) ∧ ns.length < 64 ∧ ∀ (ns' : List Int) (p : Addr), ns'.Perm ns → ns'.Pairwise (· ≤ ·) → H p = none → Q (.ref p) (upd H p (.lst (ns'.map V.int)))
theorem cr_sortedTI (K : PySem.W.Frag) (hK : X.K = K := by rfl) : CallR X (.builtin "sorted") (rSortedTI K) := by
  subst hK
  intro pins s σ H vs us Q I r h
  obtain ⟨a, ns, rfl, hs, h64, q⟩ := h
  obtain ⟨its, rv, hl, _⟩ := I.tuple hs
  rw [Vals.ref1 r]
  have hi := rv.ints
  refine PyProof.Rows.sorted_intsT hl hi (by rw [hi.length]; exact h64) fun out ns' h1 h2 h3 => ?_
  obtain ⟨ep, he'⟩ := PyProof.Rows.sortedAll_at s.heap its out
  have hlen : (ns'.map V.int).length ≤ sizeLine := by rw [List.length_map, h2.length_eq]; exact small64 h64
  exact ⟨.ref _, upd H (s.heap.objs.size + 1) (.lst (ns'.map V.int)), I.laid (t' := s.toks) (fun _ _ => PyProof.Rows.sortedAll_old) (Nat.le_succ _) ⟨hlen, out.toList, ep, vals_of_ints h1, he'⟩, rfl, q ns' _ h2 h3 (I.hok.fresh (Nat.le_succ _))⟩
/-- min, max of a tuple of ints -/
def rMinT (K : PySem.W.Frag) : List V → Hp → VK → Prop := fun vs H Q => ∃ (a : Addr) (n : Int) (ns : List Int), vs = [V.ref a] ∧ SqT K H a ((n :: ns).map V.int) ∧ Q (.int (ns.foldl min n)) H
def rMaxT (K : PySem.W.Frag) : List V → Hp → VK → Prop := fun vs H Q => ∃ (a : Addr) (n : Int) (ns : List Int), vs = [V.ref a] ∧ SqT K H a ((n :: ns).map V.int) ∧ Q (.int (ns.foldl max n)) H
theorem cr_minT (K : PySem.W.Frag) (hc : X.calm = true) (hu : X.A.units + 8 < cLine) (hK : X.K = K := by rfl) : CallR X (.builtin "min") (rMinT K) := by
  subst hK
  intro pins s σ H vs us Q I r h
  obtain ⟨a, n, ns, rfl, hs, q⟩ := h
  obtain ⟨its, rv, hl, _⟩ := I.tuple hs
  rw [Vals.ref1 r]
  obtain ⟨as, hr⟩ := Dp.readsAll I ((n :: ns).map PyData.int) _ its (dpAll_ints _) rv
  refine PySem.W.min_tuple_data (I.ok.hd hc) hl (by simpa using hr) (alikeInts (n :: ns)) (by have := depthInts (n :: ns); have e : PyData.depthAll (PyData.int n :: ns.map PyData.int) ≤ 1 := this; omega) fun i v h' tk bs _ hrd hk => ?_
  rw [PySem.W.minD_ints] at hrd
  cases hrd with
  | int i t => exact ⟨.int _, H, I.kept hk, ⟨t, rfl⟩, q⟩
theorem cr_maxT (K : PySem.W.Frag) (hc : X.calm = true) (hu : X.A.units + 8 < cLine) (hK : X.K = K := by rfl) : CallR X (.builtin "max") (rMaxT K) := by
  subst hK
  intro pins s σ H vs us Q I r h
  obtain ⟨a, n, ns, rfl, hs, q⟩ := h
  obtain ⟨its, rv, hl, _⟩ := I.tuple hs
  rw [Vals.ref1 r]
  obtain ⟨as, hr⟩ := Dp.readsAll I ((n :: ns).map PyData.int) _ its (dpAll_ints _) rv
  refine PySem.W.max_tuple_data (I.ok.hd hc) hl (by simpa using hr) (alikeInts (n :: ns)) (by have := depthInts (n :: ns); have e : PyData.depthAll (PyData.int n :: ns.map PyData.int) ≤ 1 := this; omega) fun i v h' tk bs _ hrd hk => ?_
  rw [PySem.W.maxD_ints] at hrd
  cases hrd with
  | int i t => exact ⟨.int _, H, I.kept hk, ⟨t, rfl⟩, q⟩
end
end TK

set_option Elab.async false
set_option linter.all false
set_option maxRecDepth 100000
set_option maxHeartbeats 4000000
/-! a tuple of one int, times k (1 to 4) -/
namespace TK
open PySem PySem.Spec PyProof.Rows L2
theorem tuple_mul1 (l : Addr) (items : Array Value) (n : Nat) (dd : Option Addr) (sl : Array (Option Value)) (u : Tok) :
    Meets (Builtin.«tuple.__mul__» ⟨[.ref l, .int 1 u], []⟩) (fun _ R s => s.heap.get? l = some { cls := .type "tuple", dict := dd, data := .seq items n, slots := sl } ∧ R (.ok (.ret (Value.ref l))) s) :=
  .of_wp fun prog w A R s h => by
    obtain ⟨hp, g, d, tk, os⟩ := s
    obtain ⟨hl, h⟩ := h
    have f1 := AutoSeq1.idx_int
    wp_walk using wpAny_loadPart' hl
    repeat (first
      | (refine wpAny_ite_false (decide_eq_false (by decide)) ?_; wp_walk using wpAny_loadPart' hl)
      | (refine wpAny_ite_true (decide_eq_true (by simp)) ?_; wp_walk using wpAny_loadPart' hl))
    exact ⟨_, rfl, h⟩
def rRepA (K : PySem.W.Frag) : R2 := fun x y H Q => ∃ l k xs, x = .ref l ∧ y = .int k ∧ SqT K H l xs ∧ xs ≠ [] ∧ 1 ≤ k ∧ k ≤ 1000 ∧ xs.length ≤ 1000 ∧ (k = 1 → Q (.ref l) H) ∧ (2 ≤ k → ∀ p, H p = none → Q (.ref p) (upd H p (.tup (List.replicate k.toNat xs).flatten)))
theorem op_repA {X : Cx} (K : PySem.W.Frag) (hK : X.K = K := by rfl) : OpR X (binaryOp .Mult) (rRepA K) := by
  subst hK
  intro pins s σ H x y v u Q I rx ry h
  obtain ⟨l, k, xs, rfl, rfl, hT, hne, h1, h2, hz, q1, q2⟩ := h
  by_cases hk : k = 1
  · subst hk
    cases rx
    obtain ⟨t, rfl⟩ := ry
    obtain ⟨its, r, ⟨⟨cls, dd, data, sl⟩, ho, hc, n, hd⟩, hs⟩ := I.tuple hT
    simp only at hc hd
    subst hc hd
    refine wpAny_binaryOp_repeat_ref (T := "tuple") (U := "int") (by decide) ⟨_, ho, rfl⟩ (fun s' => typeIs_int s' 1 t) noFill_tuple_mul F.fills_int_mul F.slot_int_rmul repeat_tuple F.slot_int_index.lookup
      (call_meets F.slot_int_rmul (typeIs_int s 1 t) F.entry_int_rmul (F.args_int_rmul_2 _ _) (int_rmul_tuple 1 t l its.toArray n dd sl)
        ⟨ho, rfl, ⟨_, ho, rfl⟩, call_meets F.slot_tuple_mul ⟨_, ho, rfl⟩ F.entry_tuple_mul (F.args_tuple_mul_2 _ _) (tuple_mul1 l its.toArray n dd sl t) ⟨ho, ?_⟩⟩)
    exact ⟨.ref l, H, I, rfl, q1 rfl⟩
  · exact op_repT pins s σ H (.ref l) (.int k) v u Q I rx ry ⟨l, k, xs, rfl, rfl, hT, hne, by omega, h2, hz, q2 (by omega)⟩
end TK

set_option Elab.async false
set_option linter.all false
set_option maxRecDepth 100000
set_option maxHeartbeats 4000000
namespace K35
open PySem PySem.Spec PyProof.Rows L2 TK MR
variable {P : Program} {w : World} {K : PySem.W.Frag} {mg : Str → Option Value} {base : Heap}
/-- [f(told) for told in a list of rows], f an int -/
theorem lc_ints {a : Addr} {xs : List V} {rows : List (List Int)} {te : TE} {j : Nat} {vs : List Nat} {σ : L2.St} {H1 : Hp} {D : Addr} {Qd : Hp → Prop} (f : List Int → Int) (hx : DTs K H1 xs (rows.map rowD)) (ha : SqL K H1 a xs) (hl : rows.length ≤ 900) (nD : H1 D = none)
    (hw : ∀ x, wipe ((wipe σ vs).set j (some x)) vs = wipe σ vs)
    (ht : ∀ x r H2 (k : VK), r ∈ rows → Gr H1 H2 → DT K H2 x (rowD r) → (∀ H3, Gr H2 H3 → k (.int (f r)) H3) → te ((wipe σ vs).set j (some x)) H2 k)
    (hd : ∀ H2, Gr H1 H2 → H2 D = some (.lst ((rows.map f).map V.int)) → Qd H2) :
    ∃ W : Nat → Nat → Hp → Prop, (∃ m, W 0 m (upd H1 D (.lst []))) ∧ ∀ i m H, W i m H →
      ((Itl K a).stop i H ∧ Qd H) ∨ ((Itl K a).go i H ∧ ∃ Nx : Hp → Prop, (∀ H', Nx H' → ∃ m', m' < m ∧ W (i + 1) m' H') ∧ ∀ x H', (Itl K a).yld i H x H' → gName j x (wipe σ vs) H' fun σ2 H2 => wipe σ2 vs = wipe σ vs ∧ tYes σ2 H2 fun b H3 =>
        if b = true then te σ2 H3 fun y H4 => ∃ acc, H4 D = some (.lst acc) ∧ acc.length < sizeLine ∧ Nx (upd H4 D (.lst (acc ++ [y]))) else Nx H3) := by
  have lx : xs.length = rows.length := by rw [hx.1, List.length_map]
  refine lc_list (K := K) (a := a) (xs := xs) (fun i H' => Gr H1 H' ∧ H' D = some (.lst (((rows.take i).map f).map V.int))) ⟨Gx.new nD, upd_same⟩ (fun i H' _ p => p.1.seqL ha) (fun i x H' ex p => ?_) (fun H' p => ?_)
  · obtain ⟨g, hD⟩ := p
    obtain ⟨dx, e1, dv⟩ := hx.at' ex
    rw [List.getElem?_map] at e1
    obtain ⟨r, er, rfl⟩ := Option.map_eq_some_iff.mp e1
    refine ⟨hw x, yesT (ht x r H' _ (List.mem_of_getElem? er) g (dv.gr g) fun H3 g3 => ⟨_, g3.lst hD, ?_, (g.trans g3).wr nD, ?_⟩)⟩
    · rw [List.length_map, List.length_map, List.length_take]
      exact small1000 (by omega)
    · rw [upd_same, List.take_add_one, er, List.map_append, List.map_append]
      rfl
  · obtain ⟨g, hD⟩ := p
    rw [lx, List.take_length] at hD
    exact hd H' g hD
/-- (k, tuple) laid -/
theorem op_laid {H : Hp} {l t : Addr} {k : Int} {tab : List Int} (h : H l = some (.tup (tab.map V.int))) (ht : H t = none) : DT K (upd H t (.tup [.int k, .ref l])) (.ref t) (opD k tab) :=
  .mk upd_same (.cons (.int k) (.one (.row (Gx.tupS (Gx.new (S := []) ht) .nil h))))
/-- a list of operations at p -/
def LO (K : PySem.W.Frag) (H : Hp) (p : Addr) (os : List (Nat × List Int)) : Prop := ∃ vs, H p = some (.lst vs) ∧ DTs K H vs (os.map fun o => opD o.1 o.2)
theorem LO.gr {H H' : Hp} {p : Addr} {os : List (Nat × List Int)} (g : Gr H H') (h : LO K H p os) : LO K H' p os := let ⟨vs, a, b⟩ := h; ⟨vs, g.lst a, b.gr g⟩
/-- found.append(op) -/
theorem LO.add {H : Hp} {p : Addr} {os : List (Nat × List Int)} (h : LO K H p os) (hl : os.length ≤ 900) {v : V} {o : Nat × List Int} (hv : DT K H v (opD o.1 o.2)) (Q : VK) (q : ∀ H', (∀ b, b ≠ p → H' b = H b) → LO K H' p (os ++ [o]) → Q .non H') : rAppend (.ref p) [v] H Q := by
  obtain ⟨vs, a, b⟩ := h
  refine ⟨p, vs, v, rfl, rfl, a, ?_, q _ (fun c hc => upd_ne hc) ⟨_, upd_same, ?_⟩⟩
  · rw [b.1, List.length_map]
    exact small1000 (by omega)
  · rw [List.map_append]
    exact (b.wr a).app (.one (DT.wr a hv))
theorem grBut {H H1 H2 : Hp} {p : Addr} (g : Gr H H1) (n : H p = none) (h : ∀ b, b ≠ p → H2 b = H1 b) : Gr H H2 := fun b o hb e => by
  rw [h b (ne_of_none e n)]
  exact g b o hb e
/-- (k, tuple([f(told) for told in a list of rows])) -/
theorem pair_ints {wi : TI} {te : TE} {σ : L2.St} {H : Hp} {Q : VK} {rows : List (List Int)} (k : Int) (f : List Int → Int) (hwi : ∀ R : It → Hp → Prop, (∀ p xs H1, Gr H H1 → SqL K H1 p xs → DTs K H1 xs (rows.map rowD) → R (Itl K p) H1) → wi σ H R) (hl : rows.length ≤ 900)
    (ht : ∀ x r H2 (k : VK), r ∈ rows → Gr H H2 → DT K H2 x (rowD r) → (∀ H3, Gr H2 H3 → k (.int (f r)) H3) → te ((wipe σ [2]).set 2 (some x)) H2 k)
    (q : ∀ v H', Gr H H' → DT K H' v (opD k (rows.map f)) → Q v H') (hw : ∀ x, wipe ((wipe σ [2]).set 2 (some x)) [2] = wipe σ [2] := by intro _; rfl) : tTup (tCons (tC (.int k)) (tCons (tCB (rTupleOf K) (tCons (tLc wi (gName 2) tYes te [2]) tNil)) tNil)) σ H Q := by
  refine hwi _ fun p xs H1 g1 hS hD D nD => ?_
  refine lc_ints (K := K) (xs := xs) (rows := rows) f hD hS hl nD hw (fun x r H2 k hr g dv kk => ht x r H2 k hr (g1.trans g) dv kk) fun H2 g2 hD2 => ?_
  refine ⟨D, _, rfl, .inl ⟨.inl (.inl hD2), fun l nl => ⟨by show 2 ≤ sizeLine; decide, fun t nt => ?_⟩⟩⟩
  exact q _ _ (((g1.trans g2).trans (Gx.new nl)).trans (Gx.new nt)) (op_laid upd_same nt)
/-- found.append(such a pair) -/
theorem app_op {te : TE} {u : TS} {D : Ends} {σ : L2.St} {H0 H : Hp} {p : Addr} {os : List (Nat × List Int)} (o : Nat × List Int) (hσ : σ[1]? = some (some (.ref p))) (hl : LO K H p os) (hn : os.length ≤ 900) (g : Gr H0 H) (np : H0 p = none)
    (hp : ∀ Q : VK, (∀ v H', Gr H H' → DT K H' v (opD o.1 o.2) → Q v H') → te σ H Q) (q : ∀ H', Gr H0 H' → Gx [p] H H' → LO K H' p (os ++ [o]) → u D σ H') : tSeq (tDrop (tBM K "list" rAppend (tVar 1) (tCons te tNil))) u D σ H := by
  refine ⟨.ref p, hσ, .inl ⟨rfl, _, .inl (.inl hl.choose_spec.1)⟩, hp _ fun v H' g' dv => ?_⟩
  exact (hl.gr g').add hn dv (fun _ H2 => u D σ H2) fun H2 hb hl2 => q H2 (grBut (g.trans g') np hb) (fun b o hb' e => by
    rw [hb b (fun z => hb' (List.mem_singleton.mpr z))]
    exact g' b o (by simp) e) hl2
/-- found = [such a pair] -/
theorem first_op {te : TE} {u : TS} {D : Ends} {σ : L2.St} {H : Hp} (o : Nat × List Int) (hp : ∀ Q : VK, (∀ v H', Gr H H' → DT K H' v (opD o.1 o.2) → Q v H') → te σ H Q)
    (q : ∀ p H', Gr H H' → H p = none → LO K H' p [o] → u D (σ.set 1 (some (.ref p))) H') : tSeq (tAsg (tLst (tCons te tNil)) (gName 1)) u D σ H :=
  hp _ fun v H1 g1 dv => ⟨by show 1 ≤ sizeLine; decide, fun p np => q p _ (g1.trans (Gx.new np)) (g1.free np) ⟨_, upd_same, .one (dv.gr (Gx.new np))⟩⟩
/-- return found + [such a pair] -/
theorem ret_op {te : TE} {D : Ends} {σ : L2.St} {H0 H : Hp} {p : Addr} {os : List (Nat × List Int)} (o : Nat × List Int) (hσ : σ[1]? = some (some (.ref p))) (hl : LO K H p os) (hn : os.length ≤ 900) (g : Gr H0 H)
    (hp : ∀ Q : VK, (∀ v H', Gr H H' → DT K H' v (opD o.1 o.2) → Q v H') → te σ H Q) (q : ∀ l H', Gr H0 H' → H0 l = none → LO K H' l (os ++ [o]) → D.rt (.ref l) H') : tRet (tOp rCat (tVar 1) (tLst (tCons te tNil))) D σ H := by
  refine ⟨.ref p, hσ, hp _ fun v H7 g7 dv => ⟨by show 1 ≤ sizeLine; decide, fun p7 np7 => ?_⟩⟩
  obtain ⟨vs, ev, dvs⟩ := hl
  have ev7 := g7.lst ev
  have hpp : p ≠ p7 := fun z => by
    rw [z] at ev7
    rw [ev7] at np7
    cases np7
  refine ⟨p, p7, vs, [v], rfl, rfl, by rw [upd_ne hpp]; exact ev7, upd_same, ?_, fun p8 np8 => ?_⟩
  · rw [dvs.1, List.length_map]
    exact Nat.le_of_lt (small1000 (n := os.length + 1) (by omega))
  · have gl : Gr H0 (upd (upd H7 p7 (.lst [v])) p8 (.lst (vs ++ [v]))) := ((g.trans g7).trans (Gx.new np7)).trans (Gx.new np8)
    refine q p8 _ gl (((g.trans g7).trans (Gx.new np7)).free np8) ⟨_, upd_same, ?_⟩
    have g8 : Gr H (upd (upd H7 p7 (.lst [v])) p8 (.lst (vs ++ [v]))) := (g7.trans (Gx.new np7)).trans (Gx.new np8)
    rw [List.map_append]
    exact (dvs.gr g8).app (.one (dv.gr ((Gx.new np7).trans (Gx.new np8))))
/-- told[a] -/
theorem ixc {σ : L2.St} {H : Hp} {i a : Nat} {x : V} {r : List Int} {Q : VK} (hσ : σ[i]? = some (some x)) (hd : DT K H x (rowD r)) (hc : a < r.length) (q : Q (.int (r.getD a 0)) H) : tOp (rIxT K) (tVar i) (tC (.int (a : Int))) σ H Q := by
  refine ⟨x, hσ, ?_⟩
  dsimp only [tC]
  exact row_ix hd rfl hc q
/-! _law_named -/
def sp_law_named (K : PySem.W.Frag) : Sp := fun vs H Q _ => ∃ sz : Nat, vs = [.int sz] ∧ 1 ≤ sz ∧ sz ≤ 4 ∧ ∀ p H', Gr H H' → H p = none → LO K H' p (named sz) → Q (.ref p) H'
theorem ok_law_named (T : Txt K mg base) : FnOk P w K mg base CX0 2 T.law_named.f T.law_named.fd p_law_named (sp_law_named K) := by
  refine T.law_named.F.ok sc_law_named (fun vs H Q E h => ?_) (fun A outer s H vs Q E hr h => ?_)
  · obtain ⟨_, rfl, _⟩ := h
    rfl
  · obtain ⟨sz, rfl, h1, h4, q⟩ := h
    have hu8 : (A.deeper (envOfC "_law_named" (defScope s_law_named) s.heap.objs.size T.law_named.f (.ref T.law_named.c))).units + 8 < cLine := by have := hr.units; omega
    refine ⟨_, pss_cons (ps_set (i := 1) sc_law_named.nd rfl (.inl rfl) (pe_lst (pa_cons (pe_tup (pa_cons pe_int (pa_cons (pe_callTy (call_tuple_ofK K) (by rfl) T.b_tuple boot_tuple (pa_cons
        (pe_lc (own := [("told", 2)]) (g := gName 2) (tt := tYes) rfl sc_law_named.nd (pi_listK K (pe_call (ok_law_rows T) hr (by rfl) T.law_rows.g T.law_rows.F.kp T.law_rows.b .nil pass0 (pa_cons (pv 0) (pa_cons pe_int pa_nil))))
          (blkOk_by (N := n_law_named) (sc := defScope s_law_named) (by decide +kernel)) (fun _ _ _ _ _ => pg_name (i := 2) sc_law_named.nd rfl (Or.inl rfl)) (fun _ _ _ _ _ => pts_nil)
          (fun _ _ _ _ _ => pe_callB (cr_minT K rfl hu8) (by rfl) T.b_min boot_min (pa_cons (pv 2) pa_nil))) pa_nil)) pa_nil))) pa_nil)))
      (pss_cons (ps_expr (pe_bm PySem.F.plainAttrs_list PySem.F.slot_list_append PySem.F.type_list_append mt_append (pv 1) (pa_cons (pe_tup (pa_cons pe_int (pa_cons (pe_callTy (call_tuple_ofK K) (by rfl) T.b_tuple boot_tuple (pa_cons
        (pe_lc (own := [("told", 2)]) (g := gName 2) (tt := tYes) rfl sc_law_named.nd (pi_listK K (pe_call (ok_law_rows T) hr (by rfl) T.law_rows.g T.law_rows.F.kp T.law_rows.b .nil pass0 (pa_cons (pv 0) (pa_cons pe_int pa_nil))))
          (blkOk_by (N := n_law_named) (sc := defScope s_law_named) (by decide +kernel)) (fun _ _ _ _ _ => pg_name (i := 2) sc_law_named.nd rfl (Or.inl rfl)) (fun _ _ _ _ _ => pts_nil)
          (fun _ _ _ _ _ => pe_callB (cr_maxT K rfl hu8) (by rfl) T.b_max boot_max (pa_cons (pv 2) pa_nil))) pa_nil)) pa_nil))) pa_nil)))
      (pss_cons (ps_set (i := 3) sc_law_named.nd rfl (.inl rfl) (pe_call (ok_law_rows T) hr (by rfl) T.law_rows.g T.law_rows.F.kp T.law_rows.b .nil pass0 (pa_cons (pv 0) (pa_cons pe_int pa_nil))))
      (pss_cons (ps_expr (pe_bm PySem.F.plainAttrs_list PySem.F.slot_list_append PySem.F.type_list_append mt_append (pv 1) (pa_cons (pe_tup (pa_cons pe_int (pa_cons (pe_callTy (call_tuple_ofK K) (by rfl) T.b_tuple boot_tuple (pa_cons
        (pe_lc (own := [("told", 2)]) (g := gName 2) (tt := tYes) rfl sc_law_named.nd (pi_listK K (pv 3))
          (blkOk_by (N := n_law_named) (sc := defScope s_law_named) (by decide +kernel)) (fun _ _ _ _ _ => pg_name (i := 2) sc_law_named.nd rfl (Or.inl rfl)) (fun _ _ _ _ _ => pts_nil)
          (fun _ _ _ _ _ => pe_ix (ix_listK K) (pe_callB (cr_sortedTI K) (by rfl) T.b_sorted boot_sorted (pa_cons (pv 2) pa_nil)) pe_int (fun _ _ => rfl))) pa_nil)) pa_nil))) pa_nil)))
      (pss_cons (ps_expr (pe_bm PySem.F.plainAttrs_list PySem.F.slot_list_append PySem.F.type_list_append mt_append (pv 1) (pa_cons (pe_tup (pa_cons pe_int (pa_cons (pe_callTy (call_tuple_ofK K) (by rfl) T.b_tuple boot_tuple (pa_cons
        (pe_lc (own := [("told", 2)]) (g := gName 2) (tt := tYes) rfl sc_law_named.nd (pi_listK K (pv 3))
          (blkOk_by (N := n_law_named) (sc := defScope s_law_named) (by decide +kernel)) (fun _ _ _ _ _ => pg_name (i := 2) sc_law_named.nd rfl (Or.inl rfl)) (fun _ _ _ _ _ => pts_nil)
          (fun _ _ _ _ _ => pe_op op_modN (pe_callTy call_int1 (by rfl) T.b_int boot_int (pa_cons (pe_op op_add (pe_op op_sub (pe_ix (ix_tupK K) (pv 2) pe_int (fun _ _ => rfl)) (pe_ix (ix_tupK K) (pv 2) pe_int (fun _ _ => rfl))) (pe_ix (ix_tupK K) (pv 2) pe_int (fun _ _ => rfl))) pa_nil)) (pv 0))) pa_nil)) pa_nil))) pa_nil)))
      (pss_cons (ps_expr (pe_bm PySem.F.plainAttrs_list PySem.F.slot_list_append PySem.F.type_list_append mt_append (pv 1) (pa_cons (pe_tup (pa_cons pe_int (pa_cons (pe_op (op_repA K) (pe_tup (pa_cons pe_int pa_nil)) (pv 0)) pa_nil))) pa_nil)))
      (pss_one (ps_ret (pe_op op_cat (pv 1) (pe_lst (pa_cons (pe_tup (pa_cons pe_int (pa_cons (pe_callTy (call_tuple_ofK K) (by rfl) T.b_tuple boot_tuple (pa_cons
        (pe_lc (own := [("told", 2)]) (g := gName 2) (tt := tYes) rfl sc_law_named.nd (pi_listK K (pv 3))
          (blkOk_by (N := n_law_named) (sc := defScope s_law_named) (by decide +kernel)) (fun _ _ _ _ _ => pg_name (i := 2) sc_law_named.nd rfl (Or.inl rfl)) (fun _ _ _ _ _ => pts_nil)
          (fun _ _ _ _ _ => pe_ifExp (pt_cmpR op_eq (pe_ix (ix_tupK K) (pv 2) pe_int (fun _ _ => rfl)) (pe_ix (ix_tupK K) (pv 2) pe_int (fun _ _ => rfl)) (nomark _)) (pe_ix (ix_tupK K) (pv 2) pe_int (fun _ _ => rfl)) (pe_ix (ix_tupK K) (pv 2) pe_int (fun _ _ => rfl)))) pa_nil)) pa_nil))) pa_nil)))))))))), ?_⟩
    have l2 : (allRows sz 2).length ≤ 900 := Nat.le_trans (allRows_len_le h4 (by omega)) (by omega)
    have l3 : (allRows sz 3).length ≤ 900 := Nat.le_trans (allRows_len_le h4 (by omega)) (by omega)
    have rows_of : ∀ (n : Nat), n ≤ 4 → ∀ {H1 : Hp} {R : It → Hp → Prop}, (∀ p xs H2, Gr H1 H2 → SqL K H2 p xs → DTs K H2 xs ((allRows sz n).map rowD) → R (Itl K p) H2) → ∀ σ : L2.St, σ[0]? = some (some (.int sz)) → iList K (tCall (sp_all_rows K) [] E0 (tCons (tVar 0) (tCons (tC (.int (n : Int))) tNil))) σ H1 R := fun n hn H1 R hR σ hσ =>
      ⟨.int sz, hσ, sz, n, rfl, h4, hn, fun p H2 g _ hl => by
        obtain ⟨vs, a, b⟩ := hl
        exact ⟨p, rfl, ⟨vs, .inl (.inl a)⟩, hR p vs H2 g (.inl (.inl a)) b⟩⟩
    -- found = [(2, least ones)]
    refine first_op (K := K) (2, (allRows sz 2).map minOf) (fun Q' hQ => ?_) fun p H1 g0 np0 hl0 => ?_
    · refine pair_ints (K := K) (rows := allRows sz 2) 2 minOf (fun R hR => rows_of 2 (by omega) hR _ rfl) l2 (fun x r H2 k hr g dv kk => ?_) hQ
      obtain ⟨a, rfl, hS⟩ := dv.row_inv
      have hlen := (allRows_ok hr).1
      cases r with
      | nil => cases hlen
      | cons n ns => exact ⟨.ref a, rfl, a, n, ns, rfl, hS, kk H2 Gx.refl⟩
    -- found.append((2, greatest ones))
    refine app_op (K := K) (2, (allRows sz 2).map maxOf) rfl hl0 (by simp) g0 np0 (fun Q' hQ => ?_) fun H2 g2 _ hl2 => ?_
    · refine pair_ints (K := K) (rows := allRows sz 2) 2 maxOf (fun R hR => rows_of 2 (by omega) hR _ rfl) l2 (fun x r H2 k hr g dv kk => ?_) hQ
      obtain ⟨a, rfl, hS⟩ := dv.row_inv
      have hlen := (allRows_ok hr).1
      cases r with
      | nil => cases hlen
      | cons n ns => exact ⟨.ref a, rfl, a, n, ns, rfl, hS, kk H2 Gx.refl⟩
    -- three
    refine ⟨.int sz, rfl, sz, 3, rfl, h4, by omega, fun p3 H3 g3 n3 hl3 => ?_⟩
    obtain ⟨ys, hy, hyD⟩ := hl3
    have np3 : p3 ≠ p := fun z => by
      obtain ⟨vs, a, _⟩ := hl2.gr g3
      obtain ⟨vs2, b, _⟩ := hl2
      rw [z, b] at n3
      cases n3
    have three : ∀ {H4 : Hp} {R : It → Hp → Prop} {zs : List V}, H4 p3 = some (.lst zs) → DTs K H4 zs ((allRows sz 3).map rowD) → (∀ p xs H5, Gr H4 H5 → SqL K H5 p xs → DTs K H5 xs ((allRows sz 3).map rowD) → R (Itl K p) H5) → ∀ σ : L2.St, σ[3]? = some (some (.ref p3)) → iList K (tVar 3) σ H4 R := fun {H4 R zs} hz hzD hR σ hσ =>
      ⟨.ref p3, hσ, p3, rfl, ⟨zs, .inl (.inl hz)⟩, hR p3 zs H4 Gx.refl (.inl (.inl hz)) hzD⟩
    have carry : ∀ {H4 H5 : Hp} {zs : List V} {os : List (Nat × List Int)}, LO K H4 p os → Gx [p] H4 H5 → H4 p3 = some (.lst zs) → DTs K H4 zs ((allRows sz 3).map rowD) → H5 p3 = some (.lst zs) ∧ DTs K H5 zs ((allRows sz 3).map rowD) := fun {H4 H5 zs os} hl g hz hzD => by
      obtain ⟨vs, a, _⟩ := hl
      exact ⟨g.at (fun z => np3 (List.mem_singleton.mp z)) hz (fun _ z => by cases z), hzD.gx g (.one a)⟩
    have row3 : ∀ {r : List Int}, r ∈ allRows sz 3 → r.length = 3 := fun hr => (allRows_ok hr).1
    -- the middle
    refine app_op (K := K) (3, (allRows sz 3).map mid) rfl (hl2.gr g3) (by simp) (g2.trans g3) np0 (fun Q' hQ => ?_) fun H4 g4 x4 hl4 => ?_
    · refine pair_ints (K := K) (rows := allRows sz 3) 3 mid (fun R hR => three hy hyD hR _ rfl) l3 (fun x r H5 k hr g dv kk => ?_) hQ
      obtain ⟨a, rfl, hS⟩ := dv.row_inv
      refine ⟨.ref a, rfl, a, r, rfl, hS, by rw [row3 hr]; omega, fun ns' p5 hp hs np5 => ?_⟩
      have hlen : ns'.length = 3 := by rw [hp.length_eq, row3 hr]
      refine ⟨p5, _, 1, .int (mid r), rfl, rfl, .inl (.inl upd_same), atI_nat (j := 1) ?_, kk _ (Gx.new np5)⟩
      rw [← mid_eq hp hs, List.getElem?_map, List.getD_eq_getElem?_getD, List.getElem?_eq_getElem (by omega)]
      rfl
    obtain ⟨hy4, hyD4⟩ := carry (hl2.gr g3) x4 hy hyD
    -- x - y + z
    refine app_op (K := K) (3, (allRows sz 3).map (dif sz)) rfl hl4 (by simp) g4 np0 (fun Q' hQ => ?_) fun H5 g5 x5 hl5 => ?_
    · refine pair_ints (K := K) (rows := allRows sz 3) 3 (dif sz) (fun R hR => three hy4 hyD4 hR _ rfl) l3 (fun x r H6 k hr g dv kk => ?_) hQ
      have hlen := row3 hr
      refine ixc (a := 0) rfl dv (by omega) (ixc (a := 1) rfl dv (by omega) ⟨_, _, rfl, rfl, ixc (a := 2) rfl dv (by omega) ⟨_, _, rfl, rfl, .inl ⟨_, rfl, ?_⟩⟩⟩)
      exact ⟨.int sz, rfl, _, sz, rfl, rfl, (by show (sz : Int) ≠ 0; omega), kk _ Gx.refl⟩
    obtain ⟨hy5, hyD5⟩ := carry hl4 x5 hy4 hyD4
    -- all zero
    refine app_op (K := K) (1, List.replicate sz 0) rfl hl5 (by simp) g5 np0 (fun Q' hQ => ?_) fun H6 g6 x6 hl6 => ?_
    · refine ⟨by show 1 ≤ sizeLine; decide, fun t nt => ?_⟩
      refine ⟨.int sz, rfl, ?_⟩
      have g1 : ([.int 0] : List V) ≠ [] := by intro z; cases z
      have g2 : (1 : Int) ≤ (sz : Int) := by omega
      have g3 : (sz : Int) ≤ 1000 := by omega
      have g4 : ([.int 0] : List V).length ≤ 1000 := by show 1 ≤ 1000; omega
      refine ⟨t, sz, [.int 0], rfl, rfl, .inl (.inl upd_same), g1, g2, g3, g4, fun e => ?_, fun e l nl => ?_⟩
      · have e : sz = 1 := by omega
        subst e
        exact ⟨by show 2 ≤ sizeLine; decide, fun t2 nt2 => hQ _ _ ((Gx.new nt).trans (Gx.new nt2)) (op_laid (tab := [0]) upd_same nt2)⟩
      · refine ⟨by show 2 ≤ sizeLine; decide, fun t2 nt2 => hQ _ _ (((Gx.new nt).trans (Gx.new nl)).trans (Gx.new nt2)) (op_laid (tab := List.replicate sz 0) ?_ nt2)⟩
        rw [upd_same]
        have e1 : (sz : Int).toNat = sz := by omega
        rw [e1]
        have e2 : ∀ n : Nat, (List.replicate n [V.int 0]).flatten = (List.replicate n (0 : Int)).map V.int := fun n => by
          induction n with
          | zero => rfl
          | succ n ih => rw [List.replicate_succ, List.flatten_cons, ih, List.replicate_succ]; rfl
        rw [e2]
    obtain ⟨hy6, hyD6⟩ := carry hl5 x6 hy5 hyD5
    -- the first unless two agree; the end
    refine ret_op (K := K) (3, (allRows sz 3).map pix) rfl hl6 (by simp) g6 (fun Q' hQ => ?_) fun l H7 g7 nl hl7 => q l H7 g7 nl hl7
    refine pair_ints (K := K) (rows := allRows sz 3) 3 pix (fun R hR => three hy6 hyD6 hR _ rfl) l3 (fun x r H7 k hr g dv kk => ?_) hQ
    have hlen := row3 hr
    refine ixc (a := 1) rfl dv (by omega) (ixc (a := 2) rfl dv (by omega) ⟨rfl, _, rfl, ite2 (fun e => ?_) (fun e => ?_)⟩)
    · have e' : r.getD 1 0 = r.getD 2 0 := V.int.inj (of_decide_eq_true e)
      have ep : pix r = r.getD 1 0 := if_pos e'
      exact ixc (a := 1) rfl dv (by omega) (by rw [← ep]; exact kk _ Gx.refl)
    · have e' : r.getD 1 0 ≠ r.getD 2 0 := fun z => e (decide_eq_true (by rw [z]))
      have ep : pix r = r.getD 0 0 := if_neg e'
      exact ixc (a := 0) rfl dv (by omega) (by rw [← ep]; exact kk _ Gx.refl)

end K35

set_option Elab.async false
set_option linter.all false
set_option maxRecDepth 100000
set_option maxHeartbeats 4000000
/-! sorted(d), d a dict whose keys are tuples of ints -/
namespace TK
open PySem PySem.Spec PyProof.Rows L2
section
variable {X : Cx} {pins : List (Addr × Obj)} {σ : L2.St} {H : Hp} {s : Shared}
def rSortedDT (d : Nat) (B : Int) : List V → Hp → VK → Prop := fun vs H Q => ∃ (a : Addr) (kvs : List (List Key × V)), vs = [.ref a] ∧ H a = some (.dT kvs) ∧ kvs.length < 64 ∧ (∀ p ∈ kvs, ∃ ns : List Int, p.1 = ns.map Sum.inl ∧ ns.length = d ∧ TS.Bd B ns) ∧
  ∀ (bs : List Addr) (ys : List V) (p : Addr), IsKeys H kvs bs → ys.Perm (bs.map V.ref) → ys.Pairwise (fun x y => ∀ n m : List Int, (∃ t, x = .ref t ∧ H t = some (.tup (n.map V.int))) → (∃ t, y = .ref t ∧ H t = some (.tup (m.map V.int))) → TS.code B n ≤ TS.code B m) → H p = none → Q (.ref p) (upd H p (.lst ys))
theorem keys_ints (ns : List Int) : (ns.map Sum.inl : List Key).map kV = ns.map V.int := by
  rw [List.map_map]
  rfl
theorem paired_mem {α β : Type} {F : α → β → Prop} : ∀ {l : List α} {m : List β}, Paired F l m → ∀ y ∈ m, ∃ x ∈ l, F x y := by
  intro l m h
  induction h with
  | nil => intro y hy; cases hy
  | @cons p q ps qs hq t ih =>
    intro y hy
    rcases List.mem_cons.mp hy with e | hy
    · subst e
      exact ⟨p, List.mem_cons_self, hq⟩
    · obtain ⟨x, hx, e⟩ := ih y hy
      exact ⟨x, List.mem_cons_of_mem _ hx, e⟩
theorem tupI_rawS (I : Inv X pins σ H s) {t : Addr} {ns : List Int} (h : H t = some (.tup (ns.map V.int))) : TS.TupInts s.heap (.ref t) ns := tupI_raw I (.inl (.inl h))
theorem cr_sortedDT {d : Nat} {B : Int} (hd1 : 1 ≤ d) (hc : X.calm = true) : CallR X (.builtin "sorted") (rSortedDT d B) := by
  intro pins s σ H vs us Q I r h
  obtain ⟨a, kvs, rfl, ha, h64, hk, q⟩ := h
  obtain ⟨u, eu, rx⟩ := vals1 r
  subst eu
  cases rx
  obtain ⟨z, hs, ks, pr, o, es, ep, ho, hx, hdt, he, hn⟩ := (show ObjOk X.prog X.w H s.heap a (.dT kvs) from I.hok a _ ha)
  have l1 : es.size = ks.length := size_of_entries he
  have l2 : kvs.length = ks.length := Paired.length pr
  refine Calls.call_function_entry PyProof.Rows.kind_sorted PyProof.Rows.plain_sorted PyProof.Rows.entry_sorted (PyProof.Rows.args_sorted1 _) ?_
  unfold Builtin.«sorted»
  refine wpAny_bind (m := checkCount "sorted" 1 1 _) (wpAny_pure ?_)
  refine wpAny_bind (PySem.W.kdu_collect (A := X.A.in1) (kdl_raw hs hx hdt) (I.ok.hd hc) ho (by omega) fun h' tk acc kp it => ?_)
  have ea : acc.toList = (ks.map fun x => x.2.1).map Value.ref := by
    have hl : acc.toList.length = ks.length := by rw [Array.length_toList, it.1]; exact l1
    apply List.ext_getElem?
    intro j
    rw [List.map_map, List.getElem?_map]
    cases hj : acc.toList[j]? with
    | none =>
      have h1 := List.getElem?_eq_none_iff.mp hj
      rw [List.getElem?_eq_none (by omega)]
      all_goals rfl
    | some v =>
      obtain ⟨en, hen, hv⟩ := it.2 j v (by rw [← Array.getElem?_toList]; exact hj)
      have qe := entry_at he j
      rw [hen] at qe
      cases hb : ks[j]? with
      | none =>
        rw [hb] at qe
        exact nomatch (show some en = none from qe)
      | some b =>
        rw [hb] at qe
        have e2 : en = entryOfKey (tupleKind (mixKind X.prog X.w)) b := Option.some.inj qe
        rw [hv, e2]
        all_goals rfl
  have hal : acc.toList.length = ks.length := by rw [ea, List.length_map, List.length_map]
  have I1 : Inv X pins σ H { s with heap := h', toks := tk } := I.kept kp
  have key : ∀ v ∈ acc.toList, ∃ (t : Addr) (ns : List Int), v = Value.ref t ∧ H t = some (.tup (ns.map V.int)) ∧ ns.length = d ∧ TS.Bd B ns := fun v hv => by
    rw [ea, List.map_map] at hv
    obtain ⟨x, hx1, rfl⟩ := List.mem_map.mp hv
    obtain ⟨p, hp, e1, e2, _⟩ := paired_mem pr x hx1
    obtain ⟨ns, e3, e4, e5⟩ := hk p hp
    refine ⟨x.2.1, ns, rfl, ?_, e4, e5⟩
    rw [e3, keys_ints] at e2
    exact e2
  refine wpAny_bind (wpAny_newList ?_ (by rw [hal, sizeLine_eq]; omega))
  have hoL : (h'.push (seqObj "list" acc.toList.toArray 0)).get? h'.objs.size = some (seqObj "list" acc.toList.toArray 0) := Heap.get?_push_size _ rfl
  show wpAny _ _ _ _ _ { s with heap := h'.push (seqObj "list" acc.toList.toArray 0), toks := tk }
  have tk2 : ∀ (t : Addr) (ns : List Int), H t = some (.tup (ns.map V.int)) → TS.TupInts (h'.push (seqObj "list" acc.toList.toArray 0)) (.ref t) ns := fun t ns e =>
    (tupI_rawS I1 e).keeps fun b o e _ => Heap.get?_push_of_some _ e
  have x : TS.TupsOk (h'.push (seqObj "list" acc.toList.toArray 0)) d B acc.toList := fun v hv => by
    obtain ⟨t, ns, rfl, e, e4, e5⟩ := key v hv
    exact ⟨ns, tk2 t ns e, e4, e5⟩
  refine wpAny_bind (wpAny_holding (TS.call_sort_tups (s := { s with heap := h'.push (seqObj "list" acc.toList.toArray 0), toks := tk }) hoL (by rw [hal]; omega) hd1 x fun out a1 a2 => ?_))
  obtain ⟨c, he'⟩ := sortedHeap_at (vs := acc.toList) (out := out) hoL
  have h3 : ∀ u ∈ out.toList, ∃ a, u = Value.ref a := fun u hu => by
    obtain ⟨t, _, e, _⟩ := key u (a1.mem_iff.mp hu)
    exact ⟨t, e⟩
  have hp : (out.toList.map bkV).Perm ((ks.map fun x => x.2.1).map V.ref) := by
    have e := a1.map bkV
    rw [ea, List.map_map] at e
    exact e
  have hlen : (out.toList.map bkV).length ≤ sizeLine := by
    rw [hp.length_eq, List.length_map, List.length_map, sizeLine_eq]
    omega
  refine wpAny_pure ⟨_, rfl, .ref h'.objs.size, upd H h'.objs.size (.lst (out.toList.map bkV)), I1.laid (t' := tk) (fun b u e => ?_) (Nat.le_refl _)
    (show ObjOk X.prog X.w _ _ _ (.lst (out.toList.map bkV)) from ⟨hlen, out.toList, c, bkV_vals h3, he'⟩), rfl, q _ _ _ (isKeys_of pr) hp ?_ (I1.hok.fresh (Nat.le_refl _))⟩
  · have hb : b < h'.objs.size := Heap.lt_size e
    rw [PyProof.Rows.sortedHeap_old (Nat.ne_of_lt hb) (by rw [size_push']; exact Nat.lt_succ_of_lt hb)]
    exact Heap.get?_push_of_some _ e
  · rw [List.pairwise_map]
    refine List.Pairwise.imp (fun {u v} huv n m hn hm => ?_) a2
    obtain ⟨t, et, ht⟩ := hn
    obtain ⟨t', et', ht'⟩ := hm
    have eu := bkV_ref et
    have ev := bkV_ref et'
    have i1 := (tk2 t n ht).ints
    have i2 := (tk2 t' m ht').ints
    rw [← i1, ← i2, ← eu, ← ev]
    exact huv
end
end TK

set_option linter.all false
set_option maxRecDepth 100000
/-! the order of rows, equality of rows -/
namespace MR
open PySem PySem.Spec PyProof.Rows L2 TK
theorem lex_of_code {B : Int} : ∀ {r q : List Int}, r.length = q.length → TS.Bd B r → TS.Bd B q → TS.code B r ≤ TS.code B q → r ≠ q → HT.lexLt r q = true
  | [], [], _, _, _, _, ne => absurd rfl ne
  | [], _ :: _, hl, _, _, _, _ => by simp at hl
  | _ :: _, [], hl, _, _, _, _ => by simp at hl
  | d :: r, e :: q, hl, h1, h2, hc, ne => by
    have hl' : r.length = q.length := by simpa using hl
    rw [HT.lexLt_cons]
    by_cases hde : d = e
    · subst hde
      rw [if_pos rfl]
      refine lex_of_code hl' h1.tail h2.tail ?_ fun z => ne (by rw [z])
      have := TS.code_same (B := B) (d := d) hl'.symm
      omega
    · rw [if_neg hde]
      refine decide_eq_true ?_
      rcases Int.lt_trichotomy d e with y | y | y
      · exact y
      · exact absurd y hde
      · have := TS.code_lt (B := B) hl'.symm h2.tail h1.tail y
        omega
theorem eqvAll_ints : ∀ (a b : List Int), PyData.eqvAll (a.map PyData.int) (b.map PyData.int) = decide (a = b)
  | [], [] => by simp [PyData.eqvAll]
  | [], _ :: _ => by simp [PyData.eqvAll]
  | _ :: _, [] => by simp [PyData.eqvAll]
  | x :: a, y :: b => by
    rw [List.map_cons, List.map_cons, PyData.eqvAll, eqvAll_ints a b, PyData.eqv]
    by_cases h : x = y
    · subst h
      by_cases h2 : a = b
      · subst h2; simp
      · simp [h2]
    · simp [h]
theorem row_eqv (a b : List Int) : PyData.eqv (rowD a) (rowD b) = decide (a = b) := by
  unfold rowD
  rw [PyData.eqv, eqvAll_ints]
theorem any_eqv (rows : List (List Int)) (r : List Int) : ((rows.map rowD).any fun z => PyData.eqv z (rowD r)) = decide (r ∈ rows) := by
  induction rows with
  | nil => rfl
  | cons q rows ih =>
    rw [List.map_cons, List.any_cons, ih, row_eqv]
    by_cases h : q = r
    · subst h; simp
    · have h' : ¬ r = q := fun z => h z.symm
      simp [h, h']
theorem row_lay (r : List Int) : (rowD r).canLay0 = true := by
  have : ∀ ns : List Int, PyData.canLayAll0 (ns.map PyData.int) = true := fun ns => by
    induction ns with
    | nil => simp [PyData.canLayAll0]
    | cons n ns ih => simp only [List.map_cons, PyData.canLayAll0, ih, PyData.canLay0, Bool.and_self]
  unfold rowD
  rw [PyData.canLay0]
  exact this r
theorem ints_depth : ∀ ns : List Int, PyData.depthAll (ns.map PyData.int) ≤ 1
  | [] => by simp [PyData.depthAll]
  | n :: ns => by
    have := ints_depth ns
    simp only [List.map_cons, PyData.depthAll, PyData.depth]
    omega
theorem row_depth (r : List Int) : (rowD r).depth ≤ 2 := by
  have := ints_depth r
  unfold rowD
  simp only [PyData.depth]
  omega
theorem row_shaped (r : List Int) : SeqAt.shaped (rowD r) = true := by
  have h := row_depth r
  show ((rowD r).canLay0 && decide ((rowD r).depth ≤ 64)) = true
  rw [Bool.and_eq_true]
  exact ⟨row_lay r, decide_eq_true (by omega)⟩
theorem rows_lay : ∀ rows : List (List Int), PyData.canLayAll0 (rows.map rowD) = true
  | [] => by simp [PyData.canLayAll0]
  | r :: rows => by simp [PyData.canLayAll0, row_lay r, rows_lay rows]
theorem rows_depth : ∀ rows : List (List Int), PyData.depthAll (rows.map rowD) ≤ 2
  | [] => by simp [PyData.depthAll]
  | r :: rows => by
    have h1 := rows_depth rows
    have h2 := row_depth r
    simp only [List.map_cons, PyData.depthAll]
    omega
theorem rows_shaped (rows : List (List Int)) : SeqAt.shaped (.list (rows.map rowD)) = true := by
  have h1 := rows_depth rows
  have h2 : PyData.depth (.list (rows.map rowD)) ≤ 64 := by
    simp only [PyData.depth]
    omega
  show (PyData.canLay0 (.list (rows.map rowD)) && decide (PyData.depth (.list (rows.map rowD)) ≤ 64)) = true
  rw [Bool.and_eq_true]
  exact ⟨by simp only [PyData.canLay0]; exact rows_lay rows, decide_eq_true h2⟩
end MR
namespace TK
open PySem PySem.Spec PyProof.Rows L2 MR
variable {K : PySem.W.Frag} {H : Hp}
theorem dpAll_of : ∀ {vs : List V} {ds : List PyData}, DTs K H vs ds → DpAll K H vs ds
  | [], [], _ => .nil
  | [], _ :: _, h => by have := h.1; simp at this
  | _ :: _, [], h => by have := h.1; simp at this
  | v :: vs, d :: ds, h => by
    obtain ⟨w, ws, e, h1, h2⟩ := h.cons_inv
    cases e
    exact .cons h1.dp (dpAll_of h2)
theorem dp_rows {p : Addr} {vs : List V} {rows : List (List Int)} (h : H p = some (.lst vs)) (d : DTs K H vs (rows.map rowD)) : Dp K H (.ref p) (.list (rows.map rowD)) := .lst (.inl (.inl h)) (dpAll_of d)
def unI : V → Int
  | .int n => n
  | _ => 0
/-- the ints of a row, read off the heap -/
def rowOf (H : Hp) : V → List Int
  | .ref a => match H a with
    | some (.tup xs) => xs.map unI
    | _ => []
  | _ => []
theorem unI_ints (ns : List Int) : (ns.map V.int).map unI = ns := by
  rw [List.map_map]
  induction ns with
  | nil => rfl
  | cons n ns ih => rw [List.map_cons, ih]; rfl
theorem rowOf_eq {v : V} {r : List Int} (h : DT K H v (rowD r)) : rowOf H v = r := by
  obtain ⟨a, rfl, e⟩ := h.row_invS
  show (match H a with | some (.tup xs) => xs.map unI | _ => []) = r
  rw [e]
  exact unI_ints r
theorem rows_read {xs : List V} {rows : List (List Int)} (h : DTs K H xs (rows.map rowD)) : rows = xs.map (rowOf H) := by
  induction rows generalizing xs with
  | nil => rw [h.nil_inv]; rfl
  | cons r rows ih =>
    obtain ⟨w, ws, rfl, h1, h2⟩ := h.cons_inv
    rw [List.map_cons, ← ih h2, rowOf_eq h1]
theorem rows_each {xs : List V} {rows : List (List Int)} (h : DTs K H xs (rows.map rowD)) : ∀ x ∈ xs, DT K H x (rowD (rowOf H x)) ∧ rowOf H x ∈ rows := by
  induction rows generalizing xs with
  | nil => rw [h.nil_inv]; intro x hx; simp at hx
  | cons r rows ih =>
    obtain ⟨w, ws, rfl, h1, h2⟩ := h.cons_inv
    intro x hx
    rcases List.mem_cons.mp hx with e | hx
    · subst e
      rw [rowOf_eq h1]
      exact ⟨h1, List.mem_cons_self⟩
    · exact ⟨(ih h2 x hx).1, List.mem_cons_of_mem _ (ih h2 x hx).2⟩
theorem rows_of {ys : List V} (h : ∀ y ∈ ys, DT K H y (rowD (rowOf H y))) : DTs K H ys ((ys.map (rowOf H)).map rowD) := by
  induction ys with
  | nil => exact .nil
  | cons y ys ih => exact .cons (h y List.mem_cons_self) (ih fun z hz => h z (List.mem_cons_of_mem _ hz))
/-- sorted rows -/
theorem sorted_rows {B : Int} {d : Nat} {xs ys : List V} {rows : List (List Int)} (hx : DTs K H xs (rows.map rowD)) (hp : ys.Perm xs) (nd : rows.Nodup) (ok : ∀ r ∈ rows, r.length = d ∧ TS.Bd B r)
    (hw : ys.Pairwise fun x y => ∀ n m : List Int, (∃ t, x = .ref t ∧ H t = some (.tup (n.map V.int))) → (∃ t, y = .ref t ∧ H t = some (.tup (m.map V.int))) → TS.code B n ≤ TS.code B m) :
    ∃ qs : List (List Int), DTs K H ys (qs.map rowD) ∧ qs.Perm rows ∧ qs.Pairwise fun r q => HT.lexLt r q = true := by
  have hr := rows_read hx
  have he : ∀ y ∈ ys, DT K H y (rowD (rowOf H y)) ∧ rowOf H y ∈ rows := fun y hy => rows_each hx y (hp.mem_iff.mp hy)
  have pm : (ys.map (rowOf H)).Perm rows := by
    rw [hr]
    exact hp.map _
  refine ⟨ys.map (rowOf H), rows_of fun y hy => (he y hy).1, pm, ?_⟩
  have ndy : (ys.map (rowOf H)).Nodup := pm.nodup_iff.mpr nd
  rw [List.Nodup, List.pairwise_map] at ndy
  rw [List.pairwise_map]
  refine List.Pairwise.imp_of_mem ?_ (hw.and ndy)
  rintro x y hx' hy' ⟨c, ne⟩
  obtain ⟨a, ea, ha⟩ := (he x hx').1.row_invS
  obtain ⟨b, eb, hb⟩ := (he y hy').1.row_invS
  obtain ⟨l1, b1⟩ := ok _ (he x hx').2
  obtain ⟨l2, b2⟩ := ok _ (he y hy').2
  exact lex_of_code (by rw [l1, l2]) b1 b2 (c _ _ ⟨a, ea, ha⟩ ⟨b, eb, hb⟩) ne
end TK
namespace MR
theorem lex_irr : ∀ r : List Int, HT.lexLt r r = false
  | [] => rfl
  | x :: r => by rw [HT.lexLt_cons, if_pos rfl, lex_irr r]
theorem lex_asymm : ∀ {r q : List Int}, HT.lexLt r q = true → HT.lexLt q r = false
  | [], [], h => rfl
  | [], _ :: _, _ => rfl
  | _ :: _, [], h => by cases h
  | x :: r, y :: q, h => by
    rw [HT.lexLt_cons] at h ⊢
    by_cases e : x = y
    · subst e
      rw [if_pos rfl] at h ⊢
      exact lex_asymm h
    · rw [if_neg e] at h
      rw [if_neg fun z => e z.symm]
      have := of_decide_eq_true h
      exact decide_eq_false (by omega)
/-- two ascending lists of the same rows are the same -/
theorem asc_unique : ∀ {l m : List (List Int)}, l.Pairwise (fun r q => HT.lexLt r q = true) → m.Pairwise (fun r q => HT.lexLt r q = true) → (∀ x, x ∈ l ↔ x ∈ m) → l = m
  | [], [], _, _, _ => rfl
  | [], y :: m, _, _, h => by
    have := (h y).mpr List.mem_cons_self
    cases this
  | x :: l, [], _, _, h => by
    have := (h x).mp List.mem_cons_self
    cases this
  | x :: l, y :: m, hl, hm, h => by
    obtain ⟨l1, l2⟩ := List.pairwise_cons.mp hl
    obtain ⟨m1, m2⟩ := List.pairwise_cons.mp hm
    have e : x = y := by
      rcases List.mem_cons.mp ((h x).mp List.mem_cons_self) with e | e
      · exact e
      · rcases List.mem_cons.mp ((h y).mpr List.mem_cons_self) with e2 | e2
        · exact e2.symm
        · have a := l1 y e2
          have b := lex_asymm (m1 x e)
          rw [a] at b
          cases b
    subst e
    have nl : x ∉ l := fun z => by
      have := l1 x z
      rw [lex_irr] at this
      cases this
    have nm : x ∉ m := fun z => by
      have := m1 x z
      rw [lex_irr] at this
      cases this
    refine congrArg (x :: ·) (asc_unique l2 m2 fun z => ⟨fun hz => ?_, fun hz => ?_⟩)
    · rcases List.mem_cons.mp ((h z).mp (List.mem_cons_of_mem _ hz)) with e | e
      · subst e
        exact absurd hz nl
      · exact e
    · rcases List.mem_cons.mp ((h z).mpr (List.mem_cons_of_mem _ hz)) with e | e
      · subst e
        exact absurd hz nm
      · exact e
end MR

set_option Elab.async false
set_option linter.all false
set_option maxRecDepth 100000
set_option maxHeartbeats 4000000
/-! x in s, s a set of tuples of ints; set(t), t a tuple of such -/
namespace TK
open PySem PySem.Spec PyProof.Rows L2
/-- the c-th probe for the hash h -/
abbrev wk (t : SetTable) (h : Int) (c : Nat) : SetTable.Probe := nth t.mask (runAt t.mask (SetTable.bits h % (t.mask + 1)) (SetTable.bits h)) c
theorem wk_add (t : SetTable) (h : Int) (c q : Nat) : nth t.mask (wk t h c) q = wk t h (c + q) := (nth_add t.mask c _ q).symm
theorem wk_clean (t : SetTable) (h : Int) (c : Nat) : (wk t h c).dummy = none := by
  have all : ∀ (n : Nat) (p : SetTable.Probe), p.dummy = none → (nth t.mask p n).dummy = none := by
    intro n
    induction n with
    | zero => exact fun p e => e
    | succ n ih => exact fun p e => ih (adv t.mask p) (by unfold adv; split <;> exact e)
  exact all c _ rfl
section
variable {P : Program} {w : World} {A : Around} {E : Value → Shared → Prop} {s : Shared} {a : Addr} {L : List (Addr × List Int)} {es : Array (Int × Value)} {ep : Nat} {t : SetTable}
theorem ask_from (R : SetTR P w s.heap a L es ep t) {x : Addr} {k : List Int} (hx : IsT P w s.heap k x) (hu : A.units < cLine) {M : Nat} (hM : M < 10 * SetTable.turns t.mask)
    (free : (wk t (thash P w k) M).j ∉ t.place.toList) (full : ∀ c, c < M → (wk t (thash P w k) c).j ∈ t.place.toList) {Q : SetFound → Shared → Prop}
    (yes : k ∈ L.map (·.2) → ∀ i, Q (.there (some i)) s) (no : k ∉ L.map (·.2) → ∀ j, Q (.free j false) s) (f : Nat) :
    ∀ (c : Nat) (stand : Option SetTable.Probe), stand.getD (t.probeStart (thash P w k)) = wk t (thash P w k) c → c ≤ M → M - c < f →
      (∀ (i : Nat) p, L[i]? = some p → p.2 = k → ∃ c', c ≤ c' ∧ c' < M ∧ t.place.toList[i]? = some (wk t (thash P w k) c').j) →
      wpAny (model P w) A (setSearchFrom a (.ref x) (thash P w k) false f stand) Q E s := by
  have sz : t.place.toList.length = L.length := by
    have h2 := R.tab.sz
    rw [List.length_map] at h2
    rw [Array.length_toList]
    exact h2
  obtain ⟨o, ho, hex, hd⟩ := R.ob
  have fits := R.fits
  have hash_of : ∀ {i : Nat} {p : Addr × List Int}, L[i]? = some p → ((es[i]?.map (·.1)).getD 0 : Int) = thash P w p.2 := fun hp => by
    rw [R.entry hp]
    rfl
  induction f with
  | zero => exact fun c _ _ _ hf => absurd hf (Nat.not_lt_zero _)
  | succ f ih =>
    intro c stand hst hc hf left
    rw [setSearchFrom_succ]
    refine wpAny_bind (wpAny_setState_of ho hd fits ?_)
    dsimp only
    refine wp_if_neg R.gw ?_
    try refine wpAny_bind (wpAny_pure ?_)
    have at_ : ∀ q, (nth t.mask (wk t (thash P w k) c) q).j = (wk t (thash P w k) (c + q)).j := fun q => congrArg SetTable.Probe.j (wk_add t _ c q)
    rcases go_spec t R.tab.ris R.tab.dm (fun i => (es[i]?.map (·.1)).getD 0) (thash P w k) (10 * SetTable.turns t.mask) (M - c) (wk t (thash P w k) c) (wk_clean t _ c) (by omega)
      (fun q hq => by rw [at_]; exact full (c + q) (by omega)) (by rw [at_, show c + (M - c) = M by omega]; exact free) with ⟨q, i, hq, hi, hh, before, e⟩ | ⟨before, e⟩
    · have met : t.probe (fun i => (es[i]?.map (·.1)).getD 0) (thash P w k) (stand.getD (t.probeStart (thash P w k))) = some (.candidate (wk t (thash P w k) (c + q)).j i (wk t (thash P w k) (c + (q + 1)))) := by
        rw [hst, ← at_, ← wk_add t _ c (q + 1)]
        exact e
      rw [met]
      dsimp only
      rw [at_] at hi
      have hil : i < L.length := by
        rw [← sz]
        exact (List.getElem?_eq_some_iff.mp hi).1
      obtain ⟨p, hp⟩ : ∃ p, L[i]? = some p := ⟨_, List.getElem?_eq_getElem hil⟩
      have mem : p ∈ L := List.mem_of_getElem? hp
      have live := slot_live R.tab.ris hi
      have after : wpAny (model P w) A (searchRest a (.ref x) (thash P w k) false f es t (wk t (thash P w k) (c + q)).j i (wk t (thash P w k) (c + (q + 1)))) Q E s := by
        unfold searchRest
        rw [R.entry hp]
        dsimp only
        refine wpAny_bind (wpAny_holding (wpAny_eqBool_tuple hu (R.tup p mem) hx (wpAny_bind (wpAny_setState_of ho hd fits ?_))))
        dsimp only
        refine wp_if_neg (by simp) ?_
        try refine wpAny_bind (wpAny_pure ?_)
        rw [sameMem]
        dsimp only
        simp only [if_true, live, R.entry hp]
        refine wpAny_bind (wpAny_isSame_ref_self (wpAny_bind (wpAny_pure ?_)))
        simp only [if_true]
        rcases Classical.em (p.2 = k) with same | other
        · exact wp_if_pos (by simp [same]) (wpAny_pure (yes (List.mem_map.mpr ⟨p, mem, same⟩) i))
        · refine wp_if_neg (by simp [other]) (ih (c + (q + 1)) _ rfl (by omega) (by omega) fun i0 p0 h0 hk0 => ?_)
          obtain ⟨c', b1, b2, b3⟩ := left i0 p0 h0 hk0
          refine ⟨c', ?_, b2, b3⟩
          rcases Nat.lt_trichotomy c' (c + q) with l | l | l
          · refine absurd ((hash_of h0).trans (congrArg (thash P w) hk0)) (before (c' - c) i0 (by omega) ?_)
            rw [at_, show c + (c' - c) = c' by omega]
            exact b3
          · rw [l] at b3
            have two := (slot_live R.tab.ris b3).symm.trans live
            injection two with two
            rw [two, hp] at h0
            exact absurd ((congrArg Prod.snd (Option.some.inj h0)).trans hk0) other
          · omega
      rcases Classical.em (t.led = true) with l | l
      · refine wp_if_neg (by simp [l]) ?_
        try refine wpAny_bind (wpAny_pure ?_)
        exact after
      · refine wp_if_pos (by simp [l]) (wpAny_bind (seen_tup hx (fun y hy => ?_) (wp_if_neg (by decide) ?_)))
        · obtain ⟨e0, h0, ee⟩ := List.mem_map.mp hy
          have h1 : e0 ∈ es.toList := by
            have z : e0 ∈ es ∧ e0.1 = thash P w k := by simpa using h0
            simpa using z.1
          rw [R.rows] at h1
          obtain ⟨p2, m2, e2⟩ := List.mem_map.mp h1
          exact ⟨p2.2, p2.1, by rw [← ee, ← e2], R.tup p2 m2⟩
        · try refine wpAny_bind (wpAny_pure ?_)
          exact after
    · have met : t.probe (fun i => (es[i]?.map (·.1)).getD 0) (thash P w k) (stand.getD (t.probeStart (thash P w k))) = some (.empty (wk t (thash P w k) M).j none) := by
        have e2 : (wk t (thash P w k) M).j = (nth t.mask (wk t (thash P w k) c) (M - c)).j := by
          rw [at_, show c + (M - c) = M by omega]
        rw [hst, e2]
        exact e
      rw [met]
      dsimp only
      refine wpAny_pure (no (fun hm => ?_) _)
      obtain ⟨p0, m0, hk0⟩ := List.mem_map.mp hm
      obtain ⟨i0, hi0, e0⟩ := List.getElem_of_mem m0
      have h00 : L[i0]? = some p0 := by rw [List.getElem?_eq_getElem hi0, e0]
      obtain ⟨c', b1, b2, b3⟩ := left i0 p0 h00 hk0
      refine before (c' - c) i0 (by omega) ?_ ((hash_of h00).trans (congrArg (thash P w) hk0))
      rw [at_, show c + (c' - c) = c' by omega]
      exact b3
theorem find_tup (R : SetTR P w s.heap a L es ep t) {x : Addr} {k : List Int} (hx : IsT P w s.heap k x) (hu : A.units < cLine) {Q : Option Nat → Shared → Prop}
    (h : ∀ r : Option Nat, r.isSome = decide (k ∈ L.map (·.2)) → Q r s) : wpAny (model P w) A (setFind a (.ref x) (thash P w k)) Q E s := by
  obtain ⟨o, ho, hex, hd⟩ := R.ob
  have room := R.room
  obtain ⟨M, hM, free, full⟩ := R.tab.first (by rw [List.length_map]; omega) (thash P w k)
  have big : M < 100000 := by
    have : 10 * SetTable.turns t.mask ≤ 1420 := by
      unfold SetTable.turns
      rcases R.tab.mok with e | e | e <;> omega
    omega
  unfold setFind setFindIn
  refine wpAny_bind (wpAny_setState_of ho hd R.fits ?_)
  dsimp only
  refine wp_if_neg (by simp [byScan, Value.scannable]) ?_
  try refine wpAny_bind (wpAny_pure ?_)
  unfold setSearch
  refine wpAny_bind (ask_from R hx hu hM free full (fun hm i => ?_) (fun hm j => ?_) 100000 0 none rfl (Nat.zero_le _) (by omega) fun i p hp hk => ?_)
  · exact wpAny_pure (h _ (by simp [hm]))
  · exact wpAny_pure (h _ (by simp [hm]))
  · have hi : (L.map fun p => thash P w p.2)[i]? = some (thash P w k) := by
      rw [List.getElem?_map, hp, ← hk]
      rfl
    have hil : i < t.place.toList.length := by
      have h1 : i < L.length := (List.getElem?_eq_some_iff.mp hp).1
      have h2 := R.tab.sz
      rw [List.length_map] at h2
      rw [Array.length_toList]
      omega
    have hj := List.getElem?_eq_getElem hil
    obtain ⟨c, hc, e⟩ := R.tab.before free hi hj
    exact ⟨c, Nat.zero_le _, hc, by rw [hj, ← e]⟩
theorem in_tup (R : SetTR P w s.heap a L es ep t) {x : Addr} {k : List Int} (hx : IsT P w s.heap k x) (hu : A.units + 8 < cLine) {Q : Value → Shared → Prop}
    (h : ∀ tk, Q (.bool (decide (k ∈ L.map (·.2)))) { s with toks := tk }) : wpAny (model P w) A (compareOp .In (.ref x) (.ref a)) Q E s := by
  obtain ⟨o, ho, hex, hd⟩ := R.ob
  have ty : s.TypeIs (.ref a) "set" := ⟨o, ho, hex.1⟩
  show wpAny _ _ (do return .bool (← contains (.ref a) (.ref x))) Q E s
  refine wpAny_bind ?_
  unfold contains
  try with_reducible refine wpAny_holding ?_
  refine wpAny_bind (wpAny_specialOf ty F.slot_set_contains.lookup ?_)
  show wpAny _ _ (if (some (Value.builtin "set.__contains__") == some Value.none) = true then _ else _) _ E s
  rw [if_neg (by rw [beq_builtin_none]; exact Bool.false_ne_true)]
  refine wpAny_bind (wpAny_callSpecialUnlessNone?_slot (name := Str.ofString "__contains__") ty F.slot_set_contains (wpAny_call_entry F.slot_set_contains ty entry_set_contains ?_ (F.args_set_contains_2 _ _)))
  unfold Builtin.«frozenset.__contains__» Builtin.Frozenset.oneOther
  simp only [List.isEmpty_nil, bind_assoc]
  unfold Builtin.Frozenset.addrOf Builtin.Frozenset.withSetAsKey setContains
  refine wpAny_bind (wpAny_pure ?_)
  try dsimp only
  refine wpAny_bind (wpAny_pure ?_)
  try dsimp only
  refine wpAny_bind (wpAny_tryCatch (wpAny_holding (wpAny_bind (wpAny_pyHash_tuple ?_ hx (wpAny_bind (find_tup (s := { s with toks := s.toks + (k.length + 1) }) (R.keep (fun _ e => e) R.tup) hx ?_ fun r hr => wpAny_pure ?_))))))
  · show A.units + 1 < cLine
    omega
  · show A.units + 1 < cLine
    omega
  · show wpAny _ _ (ret (Value.bool r.isSome)) _ _ _
    rw [hr]
    exact wpAny_pure ⟨_, rfl, wpAny_truthy_bool (wpAny_pure (h _))⟩
end
section
variable {X : Cx}
/-- t in s, s the set of the tuples L -/
def rInSetT (K : PySem.W.Frag) (P : Program) (w : World) : R2 := fun x y H Q => ∃ (b a : Addr) (k : List Int) (L : List (Addr × List Int)), x = .ref b ∧ y = .ref a ∧ SqT K H b (k.map V.int) ∧ H a = some (SetTO P w a L) ∧ (∀ p ∈ L, SqT K H p.1 (p.2.map V.int)) ∧ Q (.bl (decide (k ∈ L.map (·.2)))) H
theorem op_inSetT (K : PySem.W.Frag) (P : Program) (w : World) (hu : X.A.units + 8 < cLine) (hK : X.K = K := by rfl) (hP : X.prog = P := by rfl) (hw : X.w = w := by rfl) : OpR X (compareOp .In) (rInSetT K P w) := by
  subst hK hP hw
  intro pins s σ H x y v u Q I rx ry h
  obtain ⟨b, a, k, L, rfl, rfl, hb, ha, hL, q⟩ := h
  cases rx
  cases ry
  have R0 : SetT0 X.prog X.w s.heap a L := (I.hok a _ ha).1
  obtain ⟨es, ep, t, R⟩ := R0.full fun p hp => I.isT (hL p hp)
  exact in_tup R (I.isT hb) hu fun tk => ⟨.bl _, H, I.tok tk, rfl, q⟩
end
end TK

set_option Elab.async false
set_option linter.all false
set_option maxRecDepth 100000
set_option maxHeartbeats 4000000
/-! set(t), t a tuple of tuples of ints -/
namespace TK
open PySem PySem.Spec PyProof.Rows L2
/-- a set that was just made -/
abbrev bareSet (w : World) : Obj := { cls := .type "set", dict := none, data := .set #[] 0 (.fresh 0 0 (!w.params.followText "set-order")) }
section
variable {P : Program} {w : World} {A : Around} {E : Value → Shared → Prop} {s : Shared}
theorem set_of_tuple {l : Addr} {items : Array Value} (ks : List (Addr × List Int)) {Q : Value → Shared → Prop} (hh : A.handled = none) (hl : s.heap.IsTuple l items) (hit : items.toList = ks.map fun p => Value.ref p.1)
    (hk : ∀ p ∈ ks, IsT P w s.heap p.2 p.1) (few : ks.length < 64) (hu : A.units + 3 < cLine)
    (h : ∀ (h' : Heap) (tk : Nat) L es ep t, SetTR P w h' s.heap.objs.size L es ep t → Got ks ks.length L → (∀ b o, s.heap.get? b = some o → h'.get? b = some o) → Q (.ref s.heap.objs.size) { s with heap := h', toks := tk }) :
    wpAny (model P w) A (call (.type "set") [.ref l]) Q E s := by
  have many : items.size = ks.length := by
    have q := congrArg List.length hit
    rw [Array.length_toList, List.length_map] at q
    exact q
  obtain ⟨c, tl, hmro⟩ := F.called_set.mro
  have hmade := F.called_set.made
  have hsub := F.called_set.sub
  refine wpAny_call (codeAny_of_tree ?_)
  show wpAny _ _ (callAny (.type "set") _) _ _ _
  refine wpAny_pure ⟨Code.quiet_builtin _ (by decide +kernel), codeAny_builtin F.entry_type_call ?_⟩
  rw [Around.under_plain (weight_type_call_type "set" [.ref l] []) rfl]
  have h1 := F.called_set.notType
  have h2 := F.called_set.canCreate
  have hct := F.typeCall_set_1 (.ref l)
  repeat (any_goals (first | assumption | wp_step))
  refine codeAny_mono (code_set_led1 (.ref l) (E := E) (Q₁ := fun obj s₁ => obj = .ref s.heap.objs.size ∧ s₁ = { s with heap := s.heap.push (bareSet w) }) ⟨rfl, rfl⟩) fun r s₁ hr => ?_
  cases r with
  | error e => exact hr
  | ok fl =>
    cases fl with
    | ret obj =>
      obtain ⟨rfl, rfl⟩ := hr
      have hS : (s.heap.push (bareSet w)).get? s.heap.objs.size = some (bareSet w) := Heap.get?_push_size _ rfl
      have hT : Shared.TypeIs { s with heap := s.heap.push (bareSet w) } (.ref s.heap.objs.size) "set" := ⟨_, hS, rfl⟩
      have hli := F.called_set.init.lookup
      have hbi := F.called_set.init.bind (.ref s.heap.objs.size)
      repeat (any_goals (first | assumption | wp_step))
      refine codeAny_mono (codeAny_call_builtin (R := wants (fun r s₂ => r = .none ∧ ∃ h' tk L es ep t, s₂ = { s with heap := h', toks := tk } ∧ SetTR P w h' s.heap.objs.size L es ep t ∧ Got ks ks.length L ∧ (∀ b o, s.heap.get? b = some o → h'.get? b = some o)) E)
        F.called_set.init.plain F.entry_set_init (check_set_init_1 hT ?_)) fun r₂ s₂ hr₂ => ?_
      · obtain ⟨ol, hol, hcl, nl, hdl⟩ := hl
        obtain ⟨ocls, odict, odata, oslots⟩ := ol
        simp only at hcl hdl
        subst hcl; subst hdl
        have hol' : (s.heap.push (bareSet w)).get? l = some { cls := .type "tuple", dict := odict, data := .seq items nl, slots := oslots } := Heap.get?_push_of_some _ hol
        have hsls := F.sub_tuple_set
        have hslf := F.sub_tuple_frozenset
        have hne : (Value.type "tuple" == Value.type "dict") = false := by decide
        have hl1 : (s.heap.push (bareSet w)).IsTuple l items := ⟨_, hol', rfl, nl, rfl⟩
        unfold Builtin.«set.__init__» noKeywords Builtin.Frozenset.updateFrom
        generalize hPI : pyIter = PI
        wp_walk
        subst hPI
        refine wpAny_pyIter_tuple hl1 (wpAny_bind (wpAny_runValue ?_))
        have lt : l < s.heap.objs.size := Heap.lt_size hol
        have hh3 : A.in1.in1.in1.handled = none := by simp [hh]
        have z1 : (s.heap.push (bareSet w)).objs.size = s.heap.objs.size + 1 := Heap.size_push ..
        have apart : l ≠ (s.heap.push (bareSet w)).objs.size := by
          rw [Heap.size_push]
          exact Nat.ne_of_lt (Nat.lt_succ_of_lt lt)
        have away : s.heap.objs.size ∉ [(s.heap.push (bareSet w)).objs.size, l] := by
          simp only [List.mem_cons, List.not_mem_nil, or_false, not_or]
          rw [Heap.size_push]
          exact ⟨Nat.ne_of_lt (Nat.lt_succ_self _), Nat.ne_of_gt lt⟩
        have val : ∀ (i : Nat) (v : Value), items[i]? = some v → ∃ p, ks[i]? = some p ∧ v = .ref p.1 := fun i v hv => by
          have q : items.toList[i]? = some v := by rw [Array.getElem?_toList]; exact hv
          rw [hit, List.getElem?_map] at q
          obtain ⟨p, hp, e⟩ := Option.map_eq_some_iff.mp q
          exact ⟨p, hp, e.symm⟩
        have none_of : ∀ b, s.heap.objs.size ≤ b → s.heap.get? b = none := fun b hb => by
          cases q : s.heap.get? b with
          | none => rfl
          | some o => exact absurd (Nat.lt_of_lt_of_le (Heap.lt_size q) hb) (Nat.lt_irrefl _)
        refine set_update_tups ((Walks.tuple hh3 _ l apart items).toS) s.heap.objs.size away ks many few val s.heap hk (none_of _ (Nat.le_refl _)) (fun b hb => none_of b (by
            rw [List.mem_singleton.mp hb, Heap.size_push]
            exact Nat.le_succ _)) hu (items.size - 0) 0 _ (by omega) (Nat.zero_le _)
          ⟨⟨_, Heap.get?_push_size _ rfl, rfl, rfl⟩, (hl1.push _)⟩ (fun b o e => Heap.get?_push_of_some _ (Heap.get?_push_of_some _ e)) ?start ?stop
        case start =>
          exact ⟨[], #[], 0, _, setTR_fresh (Heap.get?_push_of_some _ hS), Got.zero ks⟩
        case stop =>
          intro s' L es ep t hm hS' g' hkp
          obtain ⟨h', g2, d', tk', os'⟩ := s'
          have eg : g2 = s.gens := hm.gens
          have ed : d' = s.drawn := hm.drawn
          have eo : os' = s.os := hm.os
          subst eg; subst ed; subst eo
          rw [many] at g'
          exact wpAny_pure (wpAny_pure ⟨rfl, h', tk', L, es, ep, t, rfl, hS', g', hkp⟩)
      · cases r₂ with
        | error e => exact hr₂
        | ok fl₂ =>
          cases fl₂ with
          | ret r =>
            obtain ⟨rfl, h', tk, L, es, ep, t, rfl, hS', g', hk'⟩ := hr₂
            repeat (any_goals (first | assumption | wp_step))
            exact h _ _ _ _ _ _ hS' g' hk'
          | _ => exact hr₂.elim
    | _ => exact hr.elim
end
section
variable {X : Cx}
/-- set(t), t a tuple of tuples of ints -/
def rSetOfTT (K : PySem.W.Frag) (P : Program) (w : World) : List V → Hp → VK → Prop := fun xs H Q => ∃ (l : Addr) (ks : List (Addr × List Int)), xs = [V.ref l] ∧ SqT K H l (ks.map fun p => V.ref p.1) ∧ (∀ p ∈ ks, SqT K H p.1 (p.2.map V.int)) ∧ ks.length < 64 ∧
  ∀ a L, H a = none → (∀ p ∈ L, p ∈ ks) → (∀ p ∈ ks, p.2 ∈ L.map (·.2)) → Q (.ref a) (upd H a (SetTO P w a L))
theorem cr_setOfTT (K : PySem.W.Frag) (P : Program) (w : World) (hc : X.calm = true) (hu : X.A.units + 64 < cLine) (hK : X.K = K := by rfl) (hP : X.prog = P := by rfl) (hw : X.w = w := by rfl) : CallR X (.type "set") (rSetOfTT K P w) := by
  subst hK hP hw
  intro pins s σ H xs us Q I r h
  obtain ⟨l, ks, rfl, hl, hk, hf, q⟩ := h
  rw [Vals.ref1 r]
  obtain ⟨its, rv, pl, hz⟩ := I.tuple hl
  have hn : H s.heap.objs.size = none := I.hok.fresh (Nat.le_refl _)
  refine set_of_tuple (P := X.prog) (w := X.w) ks (I.ok.hd hc) pl (by simpa using refs_of_vals rv) (fun p hp => I.isT (hk p hp)) hf (by omega) fun h' tk L es ep t R g k => ?_
  exact ⟨.ref s.heap.objs.size, upd H s.heap.objs.size (SetTO X.prog X.w s.heap.objs.size L), I.laid (t' := tk) k (Nat.le_refl _) (setTO_new R.t0), rfl, q _ L hn (fun p hp => List.mem_of_mem_take (g.sub p hp)) fun p hp => g.all p (by rw [List.take_length]; exact hp)⟩
end
end TK

set_option Elab.async false
set_option linter.all false
set_option maxRecDepth 100000
set_option maxHeartbeats 4000000
namespace K35
open PySem PySem.Spec PyProof.Rows L2 TK MR
variable {P : Program} {w : World} {K : PySem.W.Frag} {mg : Str → Option Value} {base : Heap}
theorem op_notInDK (K : PySem.W.Frag) {X : Cx} (hu : X.A.units + 65 < cLine) (hK : X.K = K := by rfl) : OpR X (compareOp .NotIn) (rNotInD K) := hK ▸ op_notInD hu
theorem cr_sortTK (K : PySem.W.Frag) {X : Cx} {d : Nat} {B : Int} (hd : 1 ≤ d) (hK : X.K = K := by rfl) : CallR X (.builtin "sorted") (rSortU K d B) := hK ▸ cr_sortT hd
theorem LR.gx {S : List Addr} {H H' : Hp} {p : Addr} {rows : List (List Int)} (g : Gx S H H') (hS : LS S H) (n : p ∉ S) (h : LR K H p rows) : LR K H' p rows := let ⟨vs, a, b⟩ := h; ⟨vs, g.at n a (fun _ z => by cases z), b.gx g hS⟩
theorem LR.gr {H H' : Hp} {p : Addr} {rows : List (List Int)} (g : Gr H H') (h : LR K H p rows) : LR K H' p rows := h.gx g .nil (by simp)
theorem LR.wr {H : Hp} {p q : Addr} {xs : List V} {o : HO} {rows : List (List Int)} (e : H q = some (.lst xs)) (n : p ≠ q) (h : LR K H p rows) : LR K (upd H q o) p rows := let ⟨vs, a, b⟩ := h; ⟨vs, by rw [upd_ne n]; exact a, b.wr e⟩
/-- the script stands somewhere -/
def Lv (K : PySem.W.Frag) (H : Hp) (c : Addr) : Prop := H c ≠ none ∨ ∃ ns : List Int, SqL K (fun _ => none) c (ns.map V.int)
theorem RowSt.wr {H : Hp} {r c p : Addr} {o : HO} (h : RowSt K H r c) (n : r ≠ p) (nc : c ≠ p ∨ ∃ ns : List Int, SqL K (fun _ => none) c (ns.map V.int)) : RowSt K (upd H p o) r c := by
  obtain ⟨ns, i, st, d, h1, h2, h3, h4⟩ := h
  rcases nc with nc | ⟨ms, k⟩
  · exact ⟨ns, i, st, d, by rw [upd_ne n]; exact h1, seqL_ne h2 nc, h3, h4⟩
  · exact ⟨ms, i, st, d, by rw [upd_ne n]; exact h1, seqL_frag k, .inr k, h4⟩
theorem Lv.gx {H H' : Hp} {r c : Addr} (g : Gx [r] H H') (hR : RowSt K H' r c) (h : Lv K H c) : Lv K H' c := by
  rcases h with h | h
  · by_cases e : c = r
    · subst e
      obtain ⟨xs, e⟩ := hR.lst
      exact .inl (by rw [e]; intro z; cases z)
    · obtain ⟨o, e1⟩ := Option.ne_none_iff_exists'.mp h
      exact .inl (g c o (fun z => e (List.mem_singleton.mp z)) e1).some
  · exact .inr h
theorem live_ne {H : Hp} {c p : Addr} (h : Lv K H c) (n : H p = none) : c ≠ p ∨ ∃ ns : List Int, SqL K (fun _ => none) c (ns.map V.int) := h.imp_left fun h z => h (by rw [z]; exact n)
/-! _law_some_rows -/
def sp_law_some_rows (K : PySem.W.Frag) : Sp := fun vs H Q _ => ∃ (r c : Addr) (sz ar most : Nat), vs = [.ref r, .int sz, .int ar, .int most] ∧ RowSt K H r c ∧ Lv K H c ∧ (1 ≤ sz ∧ sz ≤ 4) ∧ (1 ≤ ar ∧ ar ≤ 4) ∧ (1 ≤ most ∧ most ≤ 9) ∧
  ∀ (v : V) (rows : List (List Int)) H', Gx [r] H H' → RowSt K H' r c → DT K H' v (.tuple (rows.map rowD)) → rows ≠ [] → rows.length ≤ most → RelOk sz ar rows → Q v H'
theorem ok_law_some_rows (T : Txt K mg base) : FnOk P w K mg base CX0 3 T.law_some_rows.f T.law_some_rows.fd p_law_some_rows (sp_law_some_rows K) := by
  refine T.law_some_rows.F.ok sc_law_some_rows (fun vs H Q E h => ?_) (fun A outer s H vs Q E hr h => ?_)
  · obtain ⟨_, _, _, _, _, rfl, _⟩ := h
    rfl
  · obtain ⟨r, c, sz, ar, most, rfl, hR, hc, ⟨s1, s4⟩, ⟨a1, a4⟩, ⟨m1, m9⟩, q⟩ := h
    have hu65 : (A.deeper (envOfC "_law_some_rows" (defScope s_law_some_rows) s.heap.objs.size T.law_some_rows.f (.ref T.law_some_rows.c))).units + 65 < cLine := by have := hr.un; omega
    refine ⟨_, pss_cons (ps_par (i := 4) (j := 5) (by rfl) sc_law_some_rows.nd rfl rfl (by decide) rfl rfl (pa_cons (pe_call (ok_law_rows T) (hr.mono (by decide)) (by rfl) T.law_rows.g T.law_rows.F.kp T.law_rows.b .nil pass0 (pa_cons (pv 1) (pa_cons (pv 2) pa_nil))) (pa_cons (pe_lst pa_nil) pa_nil)) (by rfl))
      (pss_cons (ps_for PassesOwn.never rfl (pi_range1 (by rfl) T.b_range (pa_cons (pe_op op_add pe_int (pe_call (ok_law_taken T) (hr.mono (by decide)) (by rfl) T.law_taken.g T.law_taken.F.kp T.law_taken.b .nil pass0 (pa_cons (pv 0) (pa_cons (pv 3) pa_nil)))) pa_nil)) (pg_name (i := 6) sc_law_some_rows.nd rfl (.inl rfl))
        (pss_cons (ps_set (i := 7) sc_law_some_rows.nd rfl (.inl rfl) (pe_call (ok_law_pick T) hr (by rfl) T.law_pick.g T.law_pick.F.kp T.law_pick.b .nil pass0 (pa_cons (pv 0) (pa_cons (pv 4) pa_nil))))
        (pss_one (ps_if (pt_cmpR (op_notInDK K hu65) (pv 7) (pv 5) (by rfl)) (pss_one (ps_expr (pe_bm PySem.F.plainAttrs_list PySem.F.slot_list_append PySem.F.type_list_append mt_append (pv 5) (pa_cons (pv 7) pa_nil)))) pss_nil))))
      (pss_one (ps_ret (pe_callTy (call_tuple_ofK K) (by rfl) T.b_tuple boot_tuple (pa_cons (pe_callB (cr_sortTK K (d := ar) (B := 4) a1) (by rfl) T.b_sorted boot_sorted (pa_cons (pv 5) pa_nil)) pa_nil))))), ?_⟩
    have len256 : (allRows sz ar).length ≤ 256 := allRows_len_le s4 a4
    have len1 : 1 ≤ (allRows sz ar).length := by
      rw [allRows_len]
      exact Nat.pow_pos (by omega)
    refine ⟨.int sz, rfl, .int ar, rfl, sz, ar, rfl, s4, a4, fun e H1 g1 ne he => ?_⟩
    refine ⟨Nat.zero_le _, fun p np => ⟨_, _, rfl, ?_⟩⟩
    have gp : Gr H1 (upd H1 p (.lst [])) := Gx.new np
    have hpH : H p = none := g1.free np
    have hpe : p ≠ e := fun z => by
      obtain ⟨vs, a, _⟩ := he
      rw [z, a] at np
      cases np
    have hR0 := hR.gr (g1.trans gp)
    have g0 : Gr H (upd H1 p (.lst [])) := g1.trans gp
    have he0 : LR K (upd H1 p (.lst [])) e (allRows sz ar) := he.gr gp
    have hp0 : LR K (upd H1 p (.lst [])) p [] := ⟨[], upd_same, .nil⟩
    generalize upd H1 p (.lst []) = H2 at *
    have rr : ∀ {H' : Hp} {x : Addr}, RowSt K H' r c → H' x = none → r ≠ x := fun h n z => by
      obtain ⟨xs, e⟩ := h.lst
      rw [z, n] at e
      cases e
    have nrp : r ≠ p := rr hR hpH
    have nre : r ≠ e := rr hR ne
    have ncp := live_ne hc hpH
    refine ⟨.ref r, rfl, .int most, rfl, r, c, most, rfl, hR0, by omega, by omega, fun x H3 hx0 hx1 g3 hR3 => ⟨_, _, rfl, rfl, 1 + x, rfl, by omega, by omega, ?_⟩⟩
    have nn : ∀ {z : Addr}, r ≠ z → z ∉ [r] := fun h z => h (List.mem_singleton.mp z).symm
    have he3 : LR K H3 e (allRows sz ar) := he0.gx g3 hR0.ls (nn nre)
    have hp3 : LR K H3 p [] := hp0.gx g3 hR0.ls (nn nrp)
    refine for_range (n := (1 + x).toNat) (fun i σ H' => ∃ y6 y7 rows, σ = [some (.ref r), some (.int sz), some (.int ar), some (.int most), some (.ref e), some (.ref p), y6, y7] ∧ Gx [r] H H' ∧ RowSt K H' r c ∧ LR K H' e (allRows sz ar) ∧ LR K H' p rows ∧ rows.length ≤ i ∧ rows.Nodup ∧ (∀ z ∈ rows, z ∈ allRows sz ar) ∧ (1 ≤ i → rows ≠ []))
      ⟨none, none, [], rfl, g0.thn g3, hR3, he3, hp3, Nat.zero_le _, List.nodup_nil, fun z hz => by simp at hz, fun z => by omega⟩ (fun i σ H' hi hp => ?_) (fun σ H' hp => ?_)
    · obtain ⟨y6, y7, rows, rfl, g4, hR4, he4, hp4, hl, nd, hm, _⟩ := hp
      obtain ⟨es, ee, ed⟩ := id he4
      have el : es.length = (allRows sz ar).length := by rw [ed.1, List.length_map]
      refine ⟨.ref r, rfl, .ref e, rfl, r, c, e, es, rfl, hR4, .inl (.inl ee), fun z => nre z.symm, by omega, by omega, fun j v H5 ev g5 hR5 => ?_⟩
      obtain ⟨d, e1, dv⟩ := ed.at' ev
      rw [List.getElem?_map] at e1
      obtain ⟨ro, er, rfl⟩ := Option.map_eq_some_iff.mp e1
      have hmem := List.mem_of_getElem? er
      have dv5 : DT K H5 v (rowD ro) := dv.gx g5 hR4.ls
      have he5 := he4.gx g5 hR4.ls (nn nre)
      have hp5 := hp4.gx g5 hR4.ls (nn nrp)
      obtain ⟨fs, ef, fd⟩ := id hp5
      refine ⟨v, rfl, .ref p, rfl, _, _, dv5.dp, dp_rows ef fd, row_shaped ro, rows_shaped rows, _, rfl, ?_⟩
      rw [any_eqv]
      refine ite2 (fun hn => ?_) (fun hn => ?_)
      · have hnot : ro ∉ rows := by simpa using hn
        refine ⟨.ref p, rfl, .inl ⟨rfl, _, .inl (.inl ef)⟩, v, rfl, p, fs, v, rfl, rfl, ef, ?_, ?_⟩
        · rw [fd.1, List.length_map]
          exact small1000 (by omega)
        · refine ⟨_, _, rows ++ [ro], rfl, ?_, hR5.wr nrp ncp, he5.wr ef fun z => hpe z.symm, ⟨_, upd_same, LR.app (fd.wr ef) (DT.wr ef dv5)⟩, by rw [List.length_append]; show rows.length + 1 ≤ i + 1; omega, ?_, ?_, fun _ => by simp⟩
          · exact (g4.trans g5).wr hpH
          · rw [List.nodup_append]
            exact ⟨nd, by simp, fun a ha b hb => by
              rw [List.mem_singleton.mp hb]
              exact fun z => hnot (z ▸ ha)⟩
          · intro z hz
            rcases List.mem_append.mp hz with hz | hz
            · exact hm z hz
            · rw [List.mem_singleton.mp hz]
              exact hmem
      · have hin : ro ∈ rows := by simpa using hn
        exact ⟨_, _, rows, rfl, g4.trans g5, hR5, he5, hp5, by omega, nd, hm, fun _ z => by rw [z] at hin; cases hin⟩
    · obtain ⟨y6, y7, rows, rfl, g4, hR4, he4, hp4, hl, nd, hm, hne⟩ := hp
      have hl9 : rows.length ≤ most := by omega
      have ok4 : ∀ z ∈ rows, z.length = ar ∧ TS.Bd 4 z := fun z hz => by
        obtain ⟨h1, h2⟩ := allRows_ok (hm z hz)
        exact ⟨h1, fun m hmm => by have := h2 m hmm; omega⟩
      obtain ⟨fs, ef, fd⟩ := hp4
      have fl : fs.length = rows.length := by rw [fd.1, List.length_map]
      refine ⟨.ref p, rfl, p, fs, rfl, .inl (.inl ef), by omega, fun y hy => ?_, fun ys p2 pm pw np2 => ?_⟩
      · obtain ⟨h1, h2⟩ := rows_each fd y hy
        obtain ⟨t, e1, e2⟩ := h1.row_invS
        exact ⟨_, ⟨t, e1, .inl (.inl e2)⟩, ok4 _ h2⟩
      · obtain ⟨qs, qd, qp, qw⟩ := sorted_rows (B := 4) (d := ar) fd pm nd ok4 (pw.imp fun h n m hn hm => h n m (let ⟨t, a, b⟩ := hn; ⟨t, a, .inl (.inl b)⟩) (let ⟨t, a, b⟩ := hm; ⟨t, a, .inl (.inl b)⟩))
        refine ⟨p2, ys, rfl, .inl ⟨.inl (.inl upd_same), fun l nl => ?_⟩⟩
        have g6 : Gr H' (upd (upd H' p2 (.lst ys)) l (.tup ys)) := (Gx.new np2).trans (Gx.new nl)
        refine q _ qs _ (g4.thn g6) (hR4.gr g6) (.mk upd_same (qd.gr g6)) ?_ ?_ ?_
        · intro z
          rw [z] at qp
          exact hne (by omega) (List.Perm.nil_eq qp).symm
        · rw [qp.length_eq]
          exact hl9
        · exact ⟨by omega, by omega, fun z hz => by have := (ok4 z (qp.mem_iff.mp hz)).1; omega, fun z hz x' hx' => by have := (allRows_ok (hm z (qp.mem_iff.mp hz))).2 x' hx'; omega, qw, by rw [qp.length_eq]; omega⟩

end K35

set_option Elab.async false
set_option linter.all false
set_option maxRecDepth 100000
set_option maxHeartbeats 4000000
namespace K35
open PySem PySem.Spec PyProof.Rows L2 TK MR
variable {P : Program} {w : World} {K : PySem.W.Frag} {mg : Str → Option Value} {base : Heap}
/-! rows numbered from 0 -/
def kn (i : Nat) (keys : List (List Int)) : List (List Key × V) := (keys.zipIdx i).map fun p => (p.1.map Sum.inl, V.int p.2)
theorem inl_inj {a b : List Int} (h : (a.map Sum.inl : List Key) = b.map Sum.inl) : a = b := List.map_inj_right (fun x y e => Sum.inl.inj e) |>.mp h
theorem kn_len (i : Nat) (keys : List (List Int)) : (kn i keys).length = keys.length := by
  unfold kn
  rw [List.length_map, List.length_zipIdx]
theorem kn_get : ∀ {keys : List (List Int)} {i : Nat} {r : List Int}, valV (kn i keys) (r.map Sum.inl) = if r ∈ keys then some (.int ((i : Nat) + idxIn keys r)) else none
  | [], i, r => rfl
  | k :: keys, i, r => by
    have e : kn i (k :: keys) = (k.map Sum.inl, V.int i) :: kn (i + 1) keys := rfl
    rw [e]
    by_cases h : k = r
    · subst h
      rw [valV_pos rfl, if_pos List.mem_cons_self]
      unfold idxIn
      rw [List.idxOf_cons_self]
      simp
    · rw [valV_neg (fun q => h (inl_inj q)), kn_get]
      have hm : (r ∈ k :: keys) ↔ r ∈ keys := by
        rw [List.mem_cons]
        exact ⟨fun q => q.elim (fun e => absurd e.symm h) id, .inr⟩
      by_cases q : r ∈ keys
      · rw [if_pos q, if_pos (hm.mpr q)]
        unfold idxIn
        rw [List.idxOf_cons, show (k == r) = false from beq_false_of_ne h]
        show some (V.int (((i + 1 : Nat) : Int) + ((keys.idxOf r : Nat) : Int))) = some (V.int ((i : Int) + ((keys.idxOf r + 1 : Nat) : Int)))
        congr 2
        omega
      · rw [if_neg q, if_neg (fun z => q (hm.mp z))]
theorem kn_snoc (keys : List (List Int)) (r : List Int) : kn 0 (keys ++ [r]) = kn 0 keys ++ [(r.map Sum.inl, V.int (keys.length : Nat))] := by
  unfold kn
  rw [List.zipIdx_append, List.map_append]
  simp
/-- a list of lists of rows -/
def PPs (K : PySem.W.Frag) (H : Hp) (p : Addr) (PP : List (List (List Int))) : Prop := ∃ as : List Addr, H p = some (.lst (as.map V.ref)) ∧ as.length = PP.length ∧ ∀ (i : Nat) a P', as[i]? = some a → PP[i]? = some P' → LR K H a P'
theorem PPs.gr {H H' : Hp} {p : Addr} {PP : List (List (List Int))} (g : Gr H H') (h : PPs K H p PP) : PPs K H' p PP := by
  obtain ⟨as, e, l, q⟩ := h
  exact ⟨as, g.lst e, l, fun i a P' e1 e2 => (q i a P' e1 e2).gr g⟩
theorem LR.at {H : Hp} {ws : List V} {rows : List (List Int)} (hd : DTs K H ws (rows.map rowD)) {i : Nat} {x : V} (ex : ws[i]? = some x) : ∃ (b : Addr) (r : List Int), x = .ref b ∧ rows[i]? = some r ∧ H b = some (.tup (r.map V.int)) := by
  obtain ⟨dx, e1, dv⟩ := hd.at' ex
  rw [List.getElem?_map] at e1
  obtain ⟨r, er, rfl⟩ := Option.map_eq_some_iff.mp e1
  obtain ⟨b, rfl, hb⟩ := dv.row_invS
  exact ⟨b, r, rfl, er, hb⟩
/-! _numbered -/
def sp_numbered (K : PySem.W.Frag) : Sp := fun vs H Q _ => ∃ (p : Addr) (PP : List (List (List Int))), vs = [.ref p] ∧ PPs K H p PP ∧ PP.flatten.length ≤ 1000 ∧ ∀ d H', Gr H H' → H d = none → H' d = some (.dT (kn 0 (keysOf PP))) → Q (.ref d) H'
theorem ok_numbered (T : Txt K mg base) : FnOk P w K mg base CX0 1 T.numbered.f T.numbered.fd p_numbered (sp_numbered K) := by
  refine T.numbered.F.ok sc_numbered (fun vs H Q E h => ?_) (fun A outer s H vs Q E hr h => ?_)
  · obtain ⟨_, _, rfl, _⟩ := h
    rfl
  · obtain ⟨p, PP, rfl, ⟨as, hp, al, aq⟩, hl, q⟩ := h
    have hu1 : (A.deeper (envOfC "_numbered" (defScope s_numbered) s.heap.objs.size T.numbered.f (.ref T.numbered.c))).units + 1 < cLine := by have := hr.un; omega
    refine ⟨_, pss_cons (ps_set (i := 1) sc_numbered.nd rfl (by first | exact .inl rfl | exact .inr rfl) pe_dnewT)
      (pss_cons (ps_for PassesOwn.never rfl (pi_list (pv 0)) (pg_name (i := 2) sc_numbered.nd rfl (by first | exact .inl rfl | exact .inr rfl))
        (pss_one (ps_for PassesOwn.never rfl (pi_list (pv 2)) (pg_name (i := 3) sc_numbered.nd rfl (by first | exact .inl rfl | exact .inr rfl))
          (pss_one (ps_expr (pe_bm PySem.F.plainAttrs_dict PySem.F.slot_dict_setdefault PySem.F.type_dict_setdefault (SD.mt_setT hu1) (pv 1) (pa_cons (pv 3) (pa_cons (pe_callB call_len_dT (by rfl) T.b_len boot_len (pa_cons (pv 1) pa_nil)) pa_nil))))))))
      (pss_one (ps_ret (pv 1)))), ?_⟩
    refine fun d nd => ⟨.ref p, rfl, p, rfl, ⟨_, .inl (.inl ((Gx.new (S := []) nd).lst hp))⟩, ?_⟩
    have flat_le : ∀ i, ((PP.take i).flatten).length ≤ 1000 := fun i => by
      have e : PP.flatten.length = (PP.take i).flatten.length + (PP.drop i).flatten.length := by
        rw [← List.length_append, ← List.flatten_append, List.take_append_drop]
      omega
    refine for_list (K := K) (a := p) (xs := as.map V.ref) (fun i σ H' => ∃ y2 y3, σ = [some (.ref p), some (.ref d), y2, y3] ∧ Gr H H' ∧ H' d = some (.dT (kn 0 ((PP.take i).flatten.foldl addK [])))) ⟨none, none, rfl, Gx.new nd, upd_same⟩
      (fun i σ H' _ hp' => by
        obtain ⟨_, _, _, g, _⟩ := hp'
        exact .inl (.inl (g.lst hp))) (fun i x σ H' ex hp' => ?_) (fun σ H' hp' => ?_)
    · obtain ⟨y2, y3, rfl, g1, hd⟩ := hp'
      rw [List.getElem?_map] at ex
      obtain ⟨a, ea, rfl⟩ := Option.map_eq_some_iff.mp ex
      have hi : i < PP.length := by rw [← al]; exact (List.getElem?_eq_some_iff.mp ea).1
      have eP : PP[i]? = some PP[i] := List.getElem?_eq_getElem hi
      have hlr := aq i a _ ea eP
      generalize PP[i] = P' at eP hlr
      obtain ⟨ws, hw, hds⟩ := hlr
      have wl : ws.length = P'.length := by rw [hds.1, List.length_map]
      have nad : a ≠ d := ne_of_none hw nd
      have eflat : (PP.take (i + 1)).flatten = (PP.take i).flatten ++ P' := by
        rw [List.take_add_one, eP, List.flatten_append]
        simp
      have fl1 := flat_le (i + 1)
      rw [eflat, List.length_append] at fl1
      refine ⟨.ref a, rfl, a, rfl, ⟨_, .inl (.inl (g1.lst hw))⟩, ?_⟩
      refine for_list (K := K) (a := a) (xs := ws) (fun j σ H2 => ∃ y3, σ = [some (.ref p), some (.ref d), some (.ref a), y3] ∧ Gr H H2 ∧ H2 d = some (.dT (kn 0 (((PP.take i).flatten ++ P'.take j).foldl addK [])))) ⟨y3, rfl, g1, by rw [List.take_zero, List.append_nil]; exact hd⟩
        (fun j σ H2 _ hq => by
          obtain ⟨_, _, g, _⟩ := hq
          exact .inl (.inl (g.lst hw))) (fun j x σ H2 ex2 hq => ?_) (fun σ H2 hq => ?_)
      · obtain ⟨y3', rfl, g2, hd2⟩ := hq
        obtain ⟨b, r, rfl, er, hb⟩ := LR.at hds ex2
        have hb2 := Gx.tupS g2 .nil hb
        have st : ((PP.take i).flatten ++ P'.take (j + 1)).foldl addK [] = addK (((PP.take i).flatten ++ P'.take j).foldl addK []) r := by
          rw [List.take_add_one, er, ← List.append_assoc, List.foldl_append]
          rfl
        have kl : (((PP.take i).flatten ++ P'.take j).foldl addK []).length ≤ 1000 := by
          have h1 := len_foldK (l := (PP.take i).flatten ++ P'.take j) (ks := [])
          rw [List.length_append, List.length_take, List.length_nil] at h1
          omega
        generalize ((PP.take i).flatten ++ P'.take j).foldl addK [] = keys at *
        refine ⟨.ref d, rfl, .inr (.inr (.inl ⟨rfl, .inr ⟨_, hd2⟩⟩)), .ref b, rfl, .ref d, rfl, d, _, rfl, hd2, ?_⟩
        refine ⟨d, kn 0 keys, r.map Sum.inl, b, _, rfl, rfl, hd2, by rw [keys_ints]; exact hb2, by rw [kn_len]; exact Nat.lt_of_le_of_lt kl (by decide), fun v hv => ?_, fun hv => ?_⟩
        · refine ⟨some (.ref b), rfl, g2, ?_⟩
          rw [st]
          rw [kn_get] at hv
          by_cases hm : r ∈ keys
          · unfold addK
            rw [if_pos hm]
            exact hd2
          · rw [if_neg hm] at hv
            cases hv
        · refine ⟨some (.ref b), rfl, g2.wr nd, ?_⟩
          rw [st, upd_same, putK_new _ hv]
          rw [kn_get] at hv
          by_cases hm : r ∈ keys
          · rw [if_pos hm] at hv
            cases hv
          · unfold addK
            rw [if_neg hm, kn_snoc, kn_len]
      · obtain ⟨y3', rfl, g2, hd2⟩ := hq
        refine ⟨some (.ref a), y3', rfl, g2, ?_⟩
        rw [eflat]
        rw [wl, List.take_length] at hd2
        exact hd2
    · obtain ⟨y2, y3, rfl, g1, hd⟩ := hp'
      rw [List.length_map, al, List.take_length] at hd
      exact ⟨.ref d, rfl, q d H' g1 nd hd⟩

end K35

set_option Elab.async false
set_option linter.all false
set_option maxRecDepth 100000
set_option maxHeartbeats 4000000
namespace K35
open PySem PySem.Spec PyProof.Rows L2 TK MR
variable {P : Program} {w : World} {K : PySem.W.Frag} {mg : Str → Option Value} {base : Heap}
def tupD (t : List (List Int)) : PyData := .tuple (t.map rowD)
theorem tuplesR_len (rows : List (List Int)) (n : Nat) : (tuplesR rows n).length = rows.length ^ n := by rw [tuplesR_eq, tuples_len]
theorem extT_len (rows : List (List Int)) : ∀ A : List (List (List Int)), (extT rows A).length = A.length * rows.length
  | [] => by simp [extT]
  | t :: A => by
    have e : extT rows (t :: A) = (rows.map fun x => t ++ [x]) ++ extT rows A := by
      unfold extT
      rw [List.flatMap_cons]
    rw [e, List.length_append, extT_len rows A, List.length_map, List.length_cons, Nat.add_mul, Nat.one_mul]
    omega
theorem extT_take {rows : List (List Int)} {A : List (List (List Int))} {j : Nat} {t : List (List Int)} (h : A[j]? = some t) : extT rows (A.take (j + 1)) = extT rows (A.take j) ++ rows.map fun x => t ++ [x] := by
  unfold extT
  rw [List.take_add_one, h, List.flatMap_append]
  simp
theorem smallM {n : Nat} (h : n ≤ 1000000) : n < sizeLine := Nat.lt_of_le_of_lt h (by decide)
/-! _law_tuples, to the letter -/
def sp_law_tuplesX (K : PySem.W.Frag) : Sp := fun vs H Q _ => ∃ (l : Addr) (xs : List V) (rows : List (List Int)) (n : Nat), vs = [.ref l, .int n] ∧ SqL K H l xs ∧ DTs K H xs (rows.map rowD) ∧ rows.length ≤ 100 ∧ n ≤ 3 ∧ ∀ p H' ws, Gr H H' → H p = none → H' p = some (.lst ws) → DTs K H' ws ((tuplesR rows n).map tupD) → Q (.ref p) H'
theorem ok_law_tuplesX (T : Txt K mg base) : FnOk P w K mg base CX0 1 T.law_tuples.f T.law_tuples.fd p_law_tuples (sp_law_tuplesX K) := by
  refine T.law_tuples.F.ok sc_law_tuples (fun vs H Q E h => ?_) (fun A outer s H vs Q E hr h => ?_)
  · obtain ⟨_, _, _, _, rfl, _⟩ := h
    rfl
  · obtain ⟨l, xs, rows, n, rfl, hS, hD0, hdl, hn, q⟩ := h
    have hxl : xs.length = rows.length := by rw [hD0.1, List.length_map]
    refine ⟨_, pss_cons (ps_set (i := 2) sc_law_tuples.nd rfl (by first | exact .inl rfl | exact .inr rfl) (pe_lst (pa_cons (pe_tup pa_nil) pa_nil)))
      (pss_cons (ps_for PassesOwn.never rfl (pi_range1 (by rfl) T.b_range (pa_cons (pv 1) pa_nil)) (pg_name (i := 3) sc_law_tuples.nd rfl (by first | exact .inl rfl | exact .inr rfl))
        (pss_cons (ps_set (i := 4) sc_law_tuples.nd rfl (by first | exact .inl rfl | exact .inr rfl) (pe_lst pa_nil))
        (pss_cons (ps_for PassesOwn.never rfl (pi_list (pv 2)) (pg_name (i := 5) sc_law_tuples.nd rfl (by first | exact .inl rfl | exact .inr rfl))
          (pss_one (ps_set (i := 4) sc_law_tuples.nd rfl (by first | exact .inl rfl | exact .inr rfl) (pe_op op_cat (pv 4)
            (pe_lc (own := [("thing", 6)]) (g := gName 6) (tt := tYes) rfl sc_law_tuples.nd (pi_list (pv 0)) (blkOk_by (N := n_law_tuples) (sc := defScope s_law_tuples) (by decide +kernel)) (fun _ _ _ _ _ => pg_name (i := 6) sc_law_tuples.nd rfl (by first | exact .inl rfl | exact .inr rfl)) (fun _ _ _ _ _ => pts_nil)
              (fun _ _ _ _ _ => pe_op (op_catAK K) (pv 5) (pe_tup (pa_cons (pv 6) pa_nil))))))))
        (pss_one (ps_set (i := 2) sc_law_tuples.nd rfl (by first | exact .inl rfl | exact .inr rfl) (pv 4))))))
      (pss_one (ps_ret (pv 2)))), ?_⟩
    refine ⟨Nat.zero_le _, fun t nt => ⟨by show 1 ≤ sizeLine; decide, fun p np => ?_⟩⟩
    have np0 : H p = none := Gr.free (Gx.new nt) np
    have g0 : Gr H (upd (upd H t (.tup [])) p (.lst [.ref t])) := (Gx.new nt).trans (Gx.new np)
    have tp : t ≠ p := fun e => by
      rw [e, upd_same] at np
      cases np
    have pow_le : ∀ i, i ≤ n → rows.length ^ i ≤ 1000000 := fun i hi => Nat.le_trans (Nat.pow_le_pow_left hdl i) (Nat.le_trans (Nat.pow_le_pow_right (by omega) (show i ≤ 3 by omega)) (by decide))
    refine ⟨.int n, rfl, n, rfl, by omega, by omega, ?_⟩
    refine for_range (n := (n : Int).toNat) (fun i σ H' => ∃ p y3 y4 y5 ws, σ = [some (.ref l), some (.int n), some (.ref p), y3, y4, y5, none] ∧ Gr H H' ∧ H p = none ∧ H' p = some (.lst ws) ∧ DTs K H' ws ((tuplesR rows i).map tupD)) ⟨p, none, none, none, [.ref t], rfl, g0, np0, upd_same, .one (.mk (xs := []) (by rw [upd_ne tp, upd_same]) .nil)⟩ (fun i σ H' hi hp => ?_) (fun σ H' hp => ?_)
    · obtain ⟨p1, y3, y4, y5, vs1, rfl, g1, n1, hp1, ht1⟩ := hp
      have hi3 : i < n := by omega
      have vl : vs1.length = rows.length ^ i := by rw [ht1.1, List.length_map, tuplesR_len]
      have hb1 := pow_le (i + 1) hi3
      rw [Nat.pow_succ] at hb1
      refine ⟨Nat.zero_le _, fun m0 nm0 => ?_⟩
      have gm : Gr H' (upd H' m0 (.lst [])) := Gx.new nm0
      refine ⟨.ref p1, rfl, p1, rfl, ⟨_, gm.seqL (.inl (.inl hp1))⟩, ?_⟩
      refine for_list (K := K) (xs := vs1) (fun j σ H2 => ∃ m y5 ms, σ = [some (.ref l), some (.int n), some (.ref p1), some (.int (0 + (i : Int))), some (.ref m), y5, none] ∧ Gr H' H2 ∧ H' m = none ∧ H2 m = some (.lst ms) ∧ j ≤ vs1.length ∧ DTs K H2 ms ((extT rows ((tuplesR rows i).take j)).map tupD))
        ⟨m0, y5, [], rfl, gm, nm0, upd_same, Nat.zero_le _, .nil⟩ (fun j σ H2 _ hp => by obtain ⟨_, _, _, _, g2, _⟩ := hp; exact g2.seqL (.inl (.inl hp1))) (fun j x σ H2 ex hp => ?_) (fun σ H2 hp => ?_)
      · obtain ⟨m, y5', ms, rfl, g2, nm, hm, hj, hms⟩ := hp
        obtain ⟨dx, e1, de⟩ := ht1.at' ex
        rw [List.getElem?_map] at e1
        obtain ⟨tt, et, rfl⟩ := Option.map_eq_some_iff.mp e1
        have hjl : j < vs1.length := (List.getElem?_eq_some_iff.mp ex).1
        have ttl : tt.length ≤ 3 := by
          have h := List.mem_of_getElem? et
          rw [tuplesR_eq] at h
          rw [(mem_tuples h).1]
          omega
        refine ⟨.ref m, rfl, .ref l, rfl, l, rfl, ⟨_, (g1.trans g2).seqL hS⟩, fun D nD => ?_⟩
        refine lc_list (K := K) (a := l) (xs := xs) (fun b H3 => Gr H2 H3 ∧ ∃ ws, H3 D = some (.lst ws) ∧ DTs K H3 ws (((rows.take b).map fun x => tt ++ [x]).map tupD)) ⟨Gx.new nD, [], upd_same, .nil⟩ (fun b H3 _ p => ((g1.trans g2).trans p.1).seqL hS) (fun b y H3 ey p => ?_) (fun H3 p => ?_)
        · obtain ⟨g3, ws, hD, hws⟩ := p
          obtain ⟨d, ed, dy⟩ := hD0.at' ey
          rw [List.getElem?_map] at ed
          obtain ⟨r, er, rfl⟩ := Option.map_eq_some_iff.mp ed
          have hbl : b < xs.length := (List.getElem?_eq_some_iff.mp ey).1
          refine ⟨rfl, yesT ⟨x, rfl, y, rfl, by show 1 ≤ sizeLine; decide, fun t nt => ?_⟩⟩
          have gt : Gr H3 (upd H3 t (.tup [y])) := Gx.new nt
          refine cat_oneD (es := tt.map rowD) (d := rowD r) (de.gr ((g2.trans g3).trans gt)) (dy.gr ((((g1.trans g2).trans g3)).trans gt)) upd_same (by rw [List.length_map]; omega) fun u H4 g4 du => ?_
          have hD4 : H4 D = some (.lst ws) := (gt.trans g4).lst hD
          refine ⟨ws, hD4, ?_, ((g3.trans gt).trans g4).wr nD, _, upd_same, ?_⟩
          · rw [hws.1, List.length_map, List.length_map, List.length_take]
            exact smallM (by omega)
          · rw [List.take_add_one, er, List.map_append, List.map_append]
            refine ((hws.gr (gt.trans g4)).wr hD4).app (.one (DT.wr hD4 ?_))
            show DT K H4 u (.tuple ((tt ++ [r]).map rowD))
            rw [List.map_append]
            exact du
        · obtain ⟨g3, ws, hD, hws⟩ := p
          rw [hxl, List.take_length] at hws
          have hm3 := g3.lst hm
          have mlen : ms.length = j * rows.length := by
            rw [hms.1, List.length_map, extT_len, List.length_take, tuplesR_len]
            have : min j (rows.length ^ i) = j := by omega
            rw [this]
          have wlen : ws.length = rows.length := by rw [hws.1, List.length_map, List.length_map]
          have tot : ms.length + ws.length ≤ 1000000 := by
            have h1 : (j + 1) * rows.length ≤ rows.length ^ i * rows.length := Nat.mul_le_mul_right _ (by omega)
            rw [Nat.add_mul, Nat.one_mul] at h1
            omega
          refine ⟨m, D, ms, ws, rfl, rfl, hm3, hD, Nat.le_of_lt (smallM (by omega)), fun p2 np2 => ?_⟩
          refine ⟨p2, some x, ms ++ ws, rfl, (g2.trans g3).trans (Gx.new np2), (g2.trans g3).free np2, upd_same, hjl, ?_⟩
          rw [extT_take et, List.map_append]
          exact ((hms.gr g3).app hws).gr (Gx.new np2)
      · obtain ⟨m, y5', ms, rfl, g2, nm, hm, hj, hms⟩ := hp
        refine ⟨.ref m, rfl, m, _, _, _, ms, rfl, g1.trans g2, g1.free nm, hm, ?_⟩
        have e : (tuplesR rows i).take vs1.length = tuplesR rows i := List.take_of_length_le (by rw [tuplesR_len, vl]; exact Nat.le_refl _)
        rw [e] at hms
        exact hms
    · obtain ⟨p1, y3, y4, y5, ws, rfl, g1, n1, hp1, ht1⟩ := hp
      have e : (n : Int).toNat = n := by omega
      rw [e] at ht1
      exact ⟨.ref p1, rfl, q p1 H' ws g1 n1 hp1 ht1⟩

end K35

set_option linter.all false
set_option maxRecDepth 100000
/-! rows that an operation closes; a dict of rows -/
namespace MR
open PySem PySem.Spec PyProof.Rows L2 TK
theorem nodup_le : ∀ {l S : List (List Int)}, l.Nodup → (∀ x ∈ l, x ∈ S) → l.length ≤ S.length
  | [], _, _, _ => Nat.zero_le _
  | x :: l, S, nd, h => by
    obtain ⟨n1, n2⟩ := List.nodup_cons.mp nd
    have hx := h x List.mem_cons_self
    have : l.length ≤ (S.erase x).length := nodup_le n2 fun y hy => by
      have hy' := h y (List.mem_cons_of_mem _ hy)
      exact (List.mem_erase_of_ne (by rintro rfl; exact n1 hy)).mpr hy'
    rw [List.length_erase_of_mem hx] at this
    have p : 0 < S.length := List.length_pos_of_mem hx
    rw [List.length_cons]
    omega
/-- some rows within S, which the operation closes -/
structure Clo (sz k : Nat) (tab : List Int) (ar : Nat) (rows S : List (List Int)) : Prop where
  few : S.length ≤ 8
  sub : ∀ r ∈ rows, r ∈ S
  shut : ∀ rs : List (List Int), rs.length = k → (∀ r ∈ rs, r ∈ S) → carried sz tab rs ar ∈ S
theorem all_same {rs : List (List Int)} {r : List Int} (h : ∀ q ∈ rs, q = r) : rs = List.replicate rs.length r := by
  induction rs with
  | nil => rfl
  | cons q rs ih =>
    have e : q = r := h q List.mem_cons_self
    subst e
    rw [List.length_cons, List.replicate_succ, ← ih fun p hp => h p (List.mem_cons_of_mem _ hp)]
theorem clo_one {sz k ar : Nat} {tab : List Int} (O : OpOk sz k tab) {r : List Int} (hl : r.length = ar) (hv : ∀ x ∈ r, 0 ≤ x ∧ x < (sz : Int)) : ∃ S, Clo sz k tab ar [r] S := by
  rcases O.own with own | zero
  · refine ⟨[r], by show 1 ≤ 8; omega, fun q hq => hq, fun rs hk hs => ?_⟩
    have e := all_same (rs := rs) (r := r) fun q hq => List.mem_singleton.mp (hs q hq)
    rw [hk] at e
    refine List.mem_singleton.mpr ?_
    rw [e]
    unfold carried
    apply List.ext_getElem
    · rw [List.length_map, List.length_range, hl]
    · intro i h1 h2
      have hi : i < r.length := h2
      rw [List.getElem_map, List.getElem_range, List.map_replicate]
      have g : r.getD i 0 = r[i] := by rw [List.getD_eq_getElem?_getD, List.getElem?_eq_getElem hi]; rfl
      obtain ⟨b1, b2⟩ := hv r[i] (List.getElem_mem hi)
      obtain ⟨v, ev⟩ := Int.eq_ofNat_of_zero_le b1
      rw [g, ev]
      rw [ev] at b2
      exact own v (by omega)
  · refine ⟨[r, List.replicate ar 0], by show 2 ≤ 8; omega, fun q hq => by rw [List.mem_singleton.mp hq]; exact List.mem_cons_self, fun rs _ _ => ?_⟩
    have e : carried sz tab rs ar = List.replicate ar 0 := by
      unfold carried
      apply List.ext_getElem
      · rw [List.length_map, List.length_range, List.length_replicate]
      · intro i h1 h2
        rw [List.getElem_map, List.getElem_replicate, List.getD_eq_getElem?_getD]
        cases h : tab[(idxI sz (rs.map fun r => r.getD ((List.range ar)[i]'(by rw [List.length_map] at h1; exact h1)) 0)).toNat]? with
        | none => rfl
        | some x => exact zero x (List.mem_of_getElem? h)
    rw [e]
    exact List.mem_cons_of_mem _ List.mem_cons_self
/-- the dict whose keys are these rows, each True -/
def kd (rows : List (List Int)) : List (List Key × V) := rows.map fun r => (r.map Sum.inl, V.bl true)
theorem inl_inj {a b : List Int} : (a.map Sum.inl : List Key) = b.map Sum.inl ↔ a = b := by
  constructor
  · intro h
    have e := congrArg (List.map kV) h
    rw [keys_ints, keys_ints] at e
    have e2 := congrArg (List.map unI) e
    rw [unI_ints, unI_ints] at e2
    exact e2
  · intro h
    rw [h]
theorem kd_any (rows : List (List Int)) (r : List Int) : ((kd rows).any fun kv => decide (kv.1 = r.map Sum.inl)) = decide (r ∈ rows) := by
  induction rows with
  | nil => rfl
  | cons q rows ih =>
    show (decide ((q.map Sum.inl : List Key) = r.map Sum.inl) || (kd rows).any fun kv => decide (kv.1 = r.map Sum.inl)) = _
    rw [ih]
    have e : decide ((q.map Sum.inl : List Key) = r.map Sum.inl) = decide (q = r) := decide_eq_decide.mpr inl_inj
    rw [e]
    by_cases h : q = r
    · subst h; simp
    · have h' : ¬ r = q := fun z => h z.symm
      simp [h, h']
theorem kd_has (rows : List (List Int)) (r : List Int) : (valV (kd rows) (r.map Sum.inl)).isSome = decide (r ∈ rows) := by
  rw [← valV_any, kd_any]
theorem kd_old {rows : List (List Int)} {r : List Int} (h : r ∈ rows) : putK (kd rows) (r.map Sum.inl) (V.bl true) = kd rows := by
  unfold putK
  rw [kd_any, if_pos (decide_eq_true h)]
  have : ∀ l : List (List Int), (kd l).map (fun kv => if kv.1 = (r.map Sum.inl : List Key) then (kv.1, V.bl true) else kv) = kd l := fun l => by
    induction l with
    | nil => rfl
    | cons q l ih =>
      show (if (q.map Sum.inl : List Key) = r.map Sum.inl then _ else _) :: (kd l).map _ = _
      rw [ih]
      have e : (if (q.map Sum.inl : List Key) = r.map Sum.inl then ((q.map Sum.inl : List Key), V.bl true) else ((q.map Sum.inl : List Key), V.bl true)) = ((q.map Sum.inl : List Key), V.bl true) := ite_self _
      rw [e]
      rfl
  exact this rows
theorem kd_new {rows : List (List Int)} {r : List Int} (h : r ∉ rows) : putK (kd rows) (r.map Sum.inl) (V.bl true) = kd (rows ++ [r]) := by
  unfold putK
  rw [kd_any, if_neg (by simpa using h)]
  show kd rows ++ [_] = _
  unfold kd
  rw [List.map_append]
  rfl
theorem kd_len (rows : List (List Int)) : (kd rows).length = rows.length := by
  unfold kd
  rw [List.length_map]
end MR

set_option Elab.async false
set_option linter.all false
set_option maxRecDepth 100000
set_option maxHeartbeats 4000000
namespace K35
open PySem PySem.Spec PyProof.Rows L2 TK MR
variable {P : Program} {w : World} {K : PySem.W.Frag} {mg : Str → Option Value} {base : Heap}
/-- tuples stand, so data stand -/
theorem DT.keep {H H1 : Hp} (k : ∀ a xs, H a = some (.tup xs) → H1 a = some (.tup xs)) {v : V} {d : PyData} (h : DT K H v d) : DT K H1 v d := by
  induction h with
  | non => exact .non
  | bl b => exact .bl b
  | int i => exact .int i
  | str x => exact .str x
  | tup h1 h2 _ ih => exact .tup (k _ _ h1) h2 ih
theorem DTs.keep {H H1 : Hp} (k : ∀ a xs, H a = some (.tup xs) → H1 a = some (.tup xs)) {vs : List V} {ds : List PyData} (h : DTs K H vs ds) : DTs K H1 vs ds := ⟨h.1, fun i v d e e' => DT.keep k (h.2 i v d e e')⟩
/-- all but p stands -/
def But (p : Addr) (H H1 : Hp) : Prop := ∀ b, b ≠ p → H1 b = H b
theorem But.tups {p : Addr} {H H1 : Hp} (h : But p H H1) {o : HO} (e : H p = some o) (n : ∀ xs, o ≠ .tup xs) : ∀ a xs, H a = some (.tup xs) → H1 a = some (.tup xs) := fun a xs ea => by
  rw [h a fun z => by
    rw [z, e] at ea
    exact n xs (Option.some.inj ea)]
  exact ea
theorem But.upd {p : Addr} {H H1 : Hp} {o : HO} (h : But p H H1) : But p H (upd H1 p o) := fun b hb => by rw [upd_ne hb, h b hb]
theorem But.refl {p : Addr} {H : Hp} : But p H H := fun _ _ => rfl
theorem grB {H H1 H2 : Hp} {p : Addr} (g : Gr H H1) (n : H p = none) (h : But p H1 H2) : Gr H H2 := grBut g n h
theorem Gx.but {H H1 H2 : Hp} {p : Addr} (g : Gr H H1) (n : H p = none) (h : Gx [p] H1 H2) : Gr H H2 := fun b o hb e => by
  have hbp : b ≠ p := ne_of_none e n
  exact (g b o hb e).trans fun u e' => h b u (fun z => hbp (List.mem_singleton.mp z)) e'
theorem keys_DTs {H : Hp} {keys : List (List Int)} {bs : List Addr} (h : IsKeys H (kd keys) bs) : DTs K H (bs.map V.ref) (keys.map rowD) := by
  unfold IsKeys at h
  induction keys generalizing bs with
  | nil =>
    cases h
    exact .nil
  | cons r keys ih =>
    cases h with
    | cons h t =>
      refine .cons (.row ?_) (ih t)
      have e : (r.map Sum.inl : List Key).map kV = r.map V.int := keys_ints r
      rw [← e]
      exact h
/-- a row of so many values below sz -/
def Good (sz ar : Nat) (r : List Int) : Prop := r.length = ar ∧ ∀ x ∈ r, 0 ≤ x ∧ x < (sz : Int)
theorem Good.bd {sz ar : Nat} {r : List Int} (h : Good sz ar r) (s4 : sz ≤ 4) : r.length = ar ∧ TS.Bd 4 r := ⟨h.1, fun m hm => by have := h.2 m hm; omega⟩
/-- (arity, tuple(sorted(known))) -/
theorem closed_end {D : Ends} {σ : L2.St} {H' : Hp} {d : Addr} {sz ar : Nat} {keys : List (List Int)} (h2 : σ[2]? = some (some (.int ar))) (h4 : σ[4]? = some (some (.ref d))) (hd : H' d = some (.dT (kd keys))) (nd : keys.Nodup) (hl : keys.length ≤ 8) (ok : ∀ r ∈ keys, Good sz ar r)
    (s4 : sz ≤ 4) (a1 : 1 ≤ ar) (a4 : ar ≤ 4) (q : ∀ v rs H2, Gr H' H2 → DT K H2 v (relD ar rs) → RelOk sz ar rs → rs.Perm keys → D.rt v H2) :
    tRet (tTup (tCons (tVar 2) (tCons (tCB (rTupleOf K) (tCons (tCB (rSortedDT ar 4) (tCons (tVar 4) tNil)) tNil)) tNil))) D σ H' := by
  refine ⟨.int ar, h2, .ref d, h4, d, kd keys, rfl, hd, by rw [kd_len]; omega, fun p hp => ?_, fun bs ys p2 hk pm pw np2 => ?_⟩
  · obtain ⟨r, hr, rfl⟩ := List.mem_map.mp hp
    exact ⟨r, rfl, (ok r hr).bd s4⟩
  · obtain ⟨qs, qd, qp, qw⟩ := sorted_rows (B := 4) (d := ar) (keys_DTs (K := K) hk) pm nd (fun r hr => (ok r hr).bd s4) pw
    refine ⟨p2, ys, rfl, .inl ⟨.inl (.inl upd_same), fun l nl => ⟨by show 2 ≤ sizeLine; decide, fun t nt => ?_⟩⟩⟩
    have g2 : Gr H' (upd (upd H' p2 (.lst ys)) l (.tup ys)) := (Gx.new np2).trans (Gx.new nl)
    refine q _ qs _ (g2.trans (Gx.new nt)) (rel_laid (.mk upd_same (qd.gr g2)) nt) ?_ qp
    exact ⟨by omega, by omega, fun z hz => by have := (ok z (qp.mem_iff.mp hz)).1; omega, fun z hz x hx => by have := (ok z (qp.mem_iff.mp hz)).2 x hx; omega, qw, by rw [qp.length_eq]; omega⟩
theorem asc_nodup {l : List (List Int)} (h : l.Pairwise fun r q => HT.lexLt r q = true) : l.Nodup := h.imp fun {a b} h z => by
  rw [z, lex_irr] at h
  cases h
theorem RelOk.good {sz ar : Nat} {rows : List (List Int)} (h : RelOk sz ar rows) : ∀ r ∈ rows, Good sz ar r := fun r hr => ⟨by have := h.len r hr; omega, fun x hx => by have := h.val r hr x hx; omega⟩
theorem any_nil (rows : List (List Int)) : PyData.eqv (.list (rows.map rowD)) (.list []) = decide (rows = []) := by
  cases rows with
  | nil => simp [PyData.eqv, PyData.eqvAll]
  | cons r rows => simp [PyData.eqv, PyData.eqvAll]
/-- known[told] = True -/
theorem put_row {H : Hp} {d b : Addr} {keys : List (List Int)} {r : List Int} (hd : H d = some (.dT (kd keys))) (hb : H b = some (.tup (r.map V.int))) (hl : keys.length ≤ 900) : DPut H d (.ref b) (.bl true) (upd H d (.dT (putK (kd keys) (r.map Sum.inl) (.bl true)))) :=
  DPut.t hd (by rw [keys_ints]; exact hb) (by rw [kd_len]; exact small1000 (by omega))
theorem get_row {H : Hp} {d b : Addr} {keys : List (List Int)} {r : List Int} (hd : H d = some (.dT (kd keys))) (hb : H b = some (.tup (r.map V.int))) : DGet H d (.ref b) (valV (kd keys) (r.map Sum.inl)) :=
  DGet.t hd (by rw [keys_ints]; exact hb)
theorem rows_in {qs : List (List Int)} : ∀ {es : List PyData}, (∀ e ∈ es, e ∈ qs.map rowD) → ∃ rs : List (List Int), es = rs.map rowD ∧ ∀ r ∈ rs, r ∈ qs
  | [], _ => ⟨[], rfl, fun r hr => by simp at hr⟩
  | e :: es, h => by
    obtain ⟨r, hr, e1⟩ := List.mem_map.mp (h e List.mem_cons_self)
    obtain ⟨rs, e2, h2⟩ := rows_in fun e he => h e (List.mem_cons_of_mem _ he)
    exact ⟨r :: rs, by rw [List.map_cons, e1, ← e2], fun q hq => by
      rcases List.mem_cons.mp hq with z | z
      · rw [z]; exact hr
      · exact h2 q z⟩
/-! _law_closed -/
def sp_law_closed (K : PySem.W.Frag) : Sp := fun vs H Q _ => ∃ (sz ar k : Nat) (v u : V) (tab : List Int) (rows : List (List Int)), vs = [.int sz, v, .int ar, u] ∧ (1 ≤ sz ∧ sz ≤ 4) ∧ (1 ≤ ar ∧ ar ≤ 4) ∧ DT K H v (opD k tab) ∧ OpOk sz k tab ∧ DT K H u (.tuple (rows.map rowD)) ∧ rows ≠ [] ∧ rows.length ≤ 8 ∧ RelOk sz ar rows ∧
  (∀ H', Gr H H' → (¬ ∃ S, Clo sz k tab ar rows S) → Q .non H') ∧ ∀ z rs H', Gr H H' → DT K H' z (relD ar rs) → RelOk sz ar rs → rs.length ≤ 8 → rs ≠ [] → Q z H'
theorem ok_law_closed (T : Txt K mg base) : FnOk P w K mg base CX0 3 T.law_closed.f T.law_closed.fd p_law_closed (sp_law_closed K) := by
  refine T.law_closed.F.ok sc_law_closed (fun vs H Q E h => ?_) (fun A outer s H vs Q E hr h => ?_)
  · obtain ⟨_, _, _, _, _, _, _, rfl, _⟩ := h
    rfl
  · obtain ⟨sz, ar, k, v, u, tab, rows, rfl, ⟨s1, s4⟩, ⟨a1, a4⟩, hv, O, hu, hne, hl8, R, qn, q⟩ := h
    have hu65 : (A.deeper (envOfC "_law_closed" (defScope s_law_closed) s.heap.objs.size T.law_closed.f (.ref T.law_closed.c))).units + 65 < cLine := by have := hr.un; omega
    have hu1 : (A.deeper (envOfC "_law_closed" (defScope s_law_closed) s.heap.objs.size T.law_closed.f (.ref T.law_closed.c))).units + 1 < cLine := by omega
    refine ⟨_, pss_cons (ps_par (i := 4) (j := 5) (by rfl) sc_law_closed.nd rfl rfl (by decide) rfl rfl (pa_cons pe_dnewT (pa_cons (pe_callTy call_list_of (by rfl) T.b_list boot_list (pa_cons (pv 3) pa_nil)) pa_nil)) (by rfl))
      (pss_cons (ps_for PassesOwn.never rfl (pi_tup (pv 3)) (pg_name (i := 6) sc_law_closed.nd rfl (.inl rfl)) (pss_one (ps_dput hu1 (pv 4) (pv 6) pe_bl rfl)))
      (pss_cons (ps_for PassesOwn.never rfl (pi_range1 (by rfl) T.b_range (pa_cons pe_int pa_nil)) (pg_name (i := 7) sc_law_closed.nd rfl (.inl rfl))
        (pss_cons (ps_if (pt_cmpR (op_eqD hr.units) (pv 5) (pe_lst pa_nil) (nomark _)) (pss_one ps_break) pss_nil)
        (pss_cons (ps_set (i := 8) sc_law_closed.nd rfl (.inl rfl) (pe_lst pa_nil))
        (pss_cons (ps_for PassesOwn.never rfl (pi_list (pe_call (ok_law_tuples T) (hr.mono (by decide)) (by rfl) T.law_tuples.g T.law_tuples.F.kp T.law_tuples.b .nil pass0 (pa_cons (pe_callB (cr_sortedDT (d := ar) (B := 4) a1 (by rfl)) (by rfl) T.b_sorted boot_sorted (pa_cons (pv 4) pa_nil)) (pa_cons (pe_ix ix_tup (pv 1) pe_int (fun _ _ => rfl)) pa_nil)))) (pg_name (i := 9) sc_law_closed.nd rfl (.inl rfl))
          (pss_cons (ps_set (i := 10) sc_law_closed.nd rfl (.inl rfl) (pe_call (ok_law_carried T) hr (by rfl) T.law_carried.g T.law_carried.F.kp T.law_carried.b .nil pass0 (pa_cons (pv 0) (pa_cons (pv 1) (pa_cons (pv 9) pa_nil)))))
          (pss_one (ps_if (PW.pt (pw_and (pt_cmp (pc_dnotin hu1 (pv 10) (pv 4))) (pw_and1 (pt_cmpR (op_notInDK K hu65) (pv 10) (pv 8) (by rfl))))) (pss_one (ps_expr (pe_bm PySem.F.plainAttrs_list PySem.F.slot_list_append PySem.F.type_list_append mt_append (pv 8) (pa_cons (pv 10) pa_nil)))) pss_nil))))
        (pss_cons (ps_for PassesOwn.never rfl (pi_list (pv 8)) (pg_name (i := 6) sc_law_closed.nd rfl (.inl rfl)) (pss_one (ps_dput hu1 (pv 4) (pv 6) pe_bl rfl)))
        (pss_cons (ps_if (pt_cmpR op_gt (pe_callB call_len_dT (by rfl) T.b_len boot_len (pa_cons (pv 4) pa_nil)) pe_int (nomark _)) (pss_one (ps_ret pe_non)) pss_nil)
        (pss_one (ps_set (i := 5) sc_law_closed.nd rfl (.inl rfl) (pv 8)))))))))
      (pss_one (ps_ret (pe_tup (pa_cons (pv 2) (pa_cons (pe_callTy (call_tuple_ofK K) (by rfl) T.b_tuple boot_tuple (pa_cons (pe_callB (cr_sortedDT (d := ar) (B := 4) a1 (by rfl)) (by rfl) T.b_sorted boot_sorted (pa_cons (pv 4) pa_nil)) pa_nil)) pa_nil))))))), ?_⟩
    have nd := asc_nodup R.asc
    have good := RelOk.good R
    obtain ⟨ub, us, rfl, hub, hus⟩ := hu.tup_invS
    have ul : us.length = rows.length := by rw [hus.1, List.length_map]
    refine fun d nd0 => ⟨.ref ub, rfl, ub, us, rfl, .inr (.inl (.inl (Gx.tupS (Gx.new (S := []) nd0) .nil hub))), fun f nf => ⟨_, _, rfl, ?_⟩⟩
    have g1 : Gr H (upd (upd H d (.dT [])) f (.lst us)) := (Gx.new nd0).trans (Gx.new nf)
    have hf0 : H f = none := Gr.free (Gx.new nd0) nf
    have ndf : d ≠ f := fun z => by
      rw [← z, upd_same] at nf
      cases nf
    have hd1 : (upd (upd H d (.dT [])) f (.lst us)) d = some (.dT (kd [])) := by rw [upd_ne ndf, upd_same]; rfl
    have hf1 : LR K (upd (upd H d (.dT [])) f (.lst us)) f rows := ⟨us, upd_same, hus.gr g1⟩
    generalize upd (upd H d (.dT [])) f (.lst us) = H1 at *
    have hub1 := Gx.tupS g1 .nil hub
    have hus1 := hus.gr g1
    refine ⟨.ref ub, rfl, ub, rfl, ⟨_, .inl (.inl hub1)⟩, ?_⟩
    have nub : ub ≠ d := fun z => by
      rw [z, hd1] at hub1
      cases hub1
    refine for_tup (K := K) (xs := us) (fun i σ H' => ∃ y6, σ = [some (.int sz), some v, some (.int ar), some (.ref ub), some (.ref d), some (.ref f), y6, none, none, none, none] ∧ But d H1 H' ∧ H' d = some (.dT (kd (rows.take i))))
      ⟨none, rfl, But.refl, by rw [List.take_zero]; exact hd1⟩ (fun i σ H' _ hp => by
        obtain ⟨y6, _, b, _⟩ := hp
        exact .inl (.inl (by rw [b ub nub]; exact hub1))) (fun i x σ H' ex hp => ?_) (fun σ H' hp => ?_)
    · obtain ⟨y6, rfl, b, hd'⟩ := hp
      obtain ⟨dx, e1, dv⟩ := hus1.at' ex
      rw [List.getElem?_map] at e1
      obtain ⟨r, er, rfl⟩ := Option.map_eq_some_iff.mp e1
      obtain ⟨t, rfl, ht⟩ := (DT.keep (b.tups hd1 fun _ z => by cases z) dv).row_invS
      have hi : i < rows.length := (List.getElem?_eq_some_iff.mp er).1
      refine ⟨.ref d, rfl, .ref t, rfl, d, _, rfl, put_row hd' ht (by rw [List.length_take]; omega), _, rfl, b.upd, ?_⟩
      rw [upd_same, List.take_add_one, er]
      rw [kd_new]
      · rfl
      · intro z
        obtain ⟨j, hj, e⟩ := List.mem_iff_getElem.mp z
        rw [List.getElem_take] at e
        rw [List.length_take] at hj
        have e2 : rows[i] = r := (List.getElem?_eq_some_iff.mp er).2
        exact List.pairwise_iff_getElem.mp nd j i (by omega) hi (by omega) (e.trans e2.symm)
    · obtain ⟨y6, rfl, b, hd'⟩ := hp
      rw [ul, List.take_length] at hd'
      have g2 : Gr H H' := grB g1 nd0 b
      have hf2 : LR K H' f rows := by
        obtain ⟨vs, a, c⟩ := hf1
        exact ⟨vs, by rw [b f ndf.symm]; exact a, DTs.keep (b.tups hd1 fun _ z => by cases z) c⟩
      refine ⟨10, rfl, by decide, by decide, ?_⟩
      refine for_range (n := (10 : Int).toNat) (fun i σ H' => ∃ f y6 y7 y8 y9 y10 keys fresh, σ = [some (.int sz), some v, some (.int ar), some (.ref ub), some (.ref d), some (.ref f), y6, y7, y8, y9, y10] ∧ Gr H H' ∧ H' d = some (.dT (kd keys)) ∧ LR K H' f fresh ∧ d ≠ f ∧ keys.Nodup ∧ keys.length ≤ 8 ∧ keys ≠ [] ∧ (∀ r ∈ keys, Good sz ar r) ∧ (∀ S, Clo sz k tab ar rows S → ∀ r ∈ keys, r ∈ S))
        ⟨f, y6, none, none, none, none, rows, rows, rfl, g2, hd', hf2, ndf, nd, hl8, hne, good, fun S C => C.sub⟩ (fun i σ H' hi hp => ?_) (fun σ H' hp => ?_)
      · obtain ⟨f, y6, y7, y8, y9, y10, keys, fresh, rfl, g3, hd3, hf3, ndf3, knd, kl, kne, kg, kc⟩ := hp
        obtain ⟨fs, ef, fd⟩ := hf3
        -- if fresh == []
        refine ⟨.ref f, rfl, Nat.zero_le _, fun e ne => ?_⟩
        have ge : Gr H' (upd H' e (.lst [])) := Gx.new ne
        refine ⟨_, .list [], dp_rows (ge.lst ef) (fd.gr ge), .lst (.inl (.inl upd_same)) .nil, rows_shaped fresh, by decide, _, rfl, ?_⟩
        rw [any_nil]
        have hd4 : (upd H' e (.lst [])) d = some (.dT (kd keys)) := by
          rw [upd_ne fun z => by
            rw [z, ne] at hd3
            cases hd3]
          exact hd3
        have g4 := g3.trans ge
        generalize upd H' e (.lst []) = H4 at *
        refine ite2 (fun _ => ?_) (fun _ => ?_)
        · refine closed_end rfl rfl hd4 knd kl kg s4 a1 a4 fun v rs H2 g5 dv ok pm => q v rs H2 (g4.trans g5) dv ok (by rw [pm.length_eq]; exact kl) fun z => ?_
          rw [z] at pm
          exact kne (List.Perm.nil_eq pm).symm
        · -- later = []
          refine ⟨Nat.zero_le _, fun lt nlt => ?_⟩
          have gl : Gr H4 (upd H4 lt (.lst [])) := Gx.new nlt
          have nlH : H lt = none := g4.free nlt
          have ndl : d ≠ lt := fun z => by
            rw [z, nlt] at hd4
            cases hd4
          have hd5 : (upd H4 lt (.lst [])) d = some (.dT (kd keys)) := by rw [upd_ne ndl]; exact hd4
          have hl5 : LR K (upd H4 lt (.lst [])) lt [] := ⟨[], upd_same, .nil⟩
          have g5 := g4.trans gl
          generalize upd H4 lt (.lst []) = H5 at *
          -- sorted(known)
          refine ⟨.ref d, rfl, d, kd keys, rfl, hd5, by rw [kd_len]; omega, fun p hp => ?_, fun bs ys p2 hk pm pw np2 => ?_⟩
          · obtain ⟨r, hr, rfl⟩ := List.mem_map.mp hp
            exact ⟨r, rfl, (kg r hr).bd s4⟩
          obtain ⟨qs, qd, qp, qw⟩ := sorted_rows (B := 4) (d := ar) (keys_DTs (K := K) hk) pm knd (fun r hr => (kg r hr).bd s4) pw
          have gs : Gr H5 (upd H5 p2 (.lst ys)) := Gx.new np2
          obtain ⟨oa, ob, rfl, ho1, ho2⟩ := DT.op_inv (hv.gr (g5.trans gs))
          refine ⟨.ref oa, rfl, oa, _, 0, .int k, rfl, rfl, ho1, atI_nat (j := 0) rfl, ?_⟩
          refine ⟨p2, ys, qs.map rowD, k, rfl, .inl (.inl upd_same), qd.gr gs, by rw [List.length_map, qp.length_eq]; exact kl, O.k3, fun L H6 ws g6 nL hL wl hW => ?_⟩
          have g56 : Gr H5 H6 := gs.trans g6
          have g06 := g5.trans g56
          have hv6 := hv.gr g06
          have hd6 : H6 d = some (.dT (kd keys)) := g56.at (by simp) hd5 fun _ z => by cases z
          have hl6 : LR K H6 lt [] := LR.gr g56 hl5
          have nLl : L ≠ lt := fun z => by
            obtain ⟨xs, e, _⟩ := hl5
            have e2 := gs.lst e
            rw [← z, nL] at e2
            cases e2
          refine ⟨L, rfl, ⟨ws, .inl (.inl hL)⟩, ?_⟩
          refine for_list (K := K) (xs := ws) (fun j σ H' => ∃ y9 y10 later, σ = [some (.int sz), some (.ref oa), some (.int ar), some (.ref ub), some (.ref d), some (.ref f), y6, some (.int (0 + (i : Int))), some (.ref lt), y9, y10] ∧ Gx [lt] H6 H' ∧ LR K H' lt later ∧ later.length ≤ j ∧ later.Nodup ∧ (∀ r ∈ later, Good sz ar r ∧ r ∉ keys) ∧ (∀ S, Clo sz k tab ar rows S → ∀ r ∈ later, r ∈ S))
            ⟨y9, y10, [], rfl, Gx.refl, hl6, Nat.zero_le _, List.nodup_nil, fun r hr => by simp at hr, fun S C r hr => by simp at hr⟩ (fun j σ H' _ hp => ?_) (fun j x σ H' ex hp => ?_) (fun σ H' hp => ?_)
          · obtain ⟨_, _, _, _, g, _⟩ := hp
            exact .inl (.inl (g.at (by simp [nLl]) hL fun _ z => by cases z))
          · obtain ⟨y9, y10, later, rfl, g7, hl7, lj, lnd, lg, lc⟩ := hp
            have wj : j < ws.length := (List.getElem?_eq_some_iff.mp ex).1
            have lsl : LS [lt] H6 := by
              obtain ⟨vs, e, _⟩ := hl6
              exact .one e
            have ndl' : d ∉ [lt] := fun z => ndl (List.mem_singleton.mp z)
            obtain ⟨es, de, el, em⟩ := hW x (List.mem_of_getElem? ex)
            obtain ⟨rs, rfl, hrs⟩ := rows_in em
            rw [List.length_map] at el
            have inkeys : ∀ r ∈ rs, r ∈ keys := fun r hr => qp.mem_iff.mp (hrs r hr)
            refine ⟨.int sz, rfl, .ref oa, rfl, x, rfl, sz, .ref oa, x, rs, tab, k, ar, rfl, s4, hv6.gx g7 lsl, de.gx g7 lsl, ?_, by rw [el]; exact O.k3, fun r hr => kg r (inkeys r hr), a4, by rw [el]; exact O.len, fun z H8 g8 dz => ?_⟩
            · intro z
              rw [z] at el
              have := O.k1
              simp at el
              omega
            have hd8 : H8 d = some (.dT (kd keys)) := g8.at (by simp) (g7.at ndl' hd6 fun _ z => by cases z) fun _ z => by cases z
            have hl8 : LR K H8 lt later := LR.gr g8 hl7
            obtain ⟨t, rfl, ht⟩ := dz.row_invS
            refine ⟨.ref t, rfl, .ref d, rfl, d, _, rfl, get_row hd8 ht, _, rfl, ?_⟩
            rw [kd_has]
            refine ite2 (fun h1 => ?_) (fun h1 => ?_)
            · obtain ⟨vs, ev, dvs⟩ := id hl8
              refine ⟨.ref t, rfl, .ref lt, rfl, _, _, dz.dp, dp_rows ev dvs, row_shaped _, rows_shaped later, _, rfl, ?_⟩
              rw [any_eqv]
              refine ite2 (fun h2 => ?_) (fun h2 => ?_)
              · have nk : carried sz tab rs ar ∉ keys := by simpa using h1
                have nl : carried sz tab rs ar ∉ later := by simpa using h2
                refine ⟨.ref lt, rfl, .inl ⟨rfl, _, .inl (.inl ev)⟩, .ref t, rfl, lt, vs, .ref t, rfl, rfl, ev, ?_, ?_⟩
                · rw [dvs.1, List.length_map]
                  exact small1000 (by omega)
                · refine ⟨_, _, later ++ [carried sz tab rs ar], rfl, (g7.thn g8).wrS (List.mem_singleton.mpr rfl), ⟨_, upd_same, LR.app (dvs.wr ev) (DT.wr ev dz)⟩, by rw [List.length_append]; show later.length + 1 ≤ j + 1; omega, ?_, ?_, ?_⟩
                  · rw [List.nodup_append]
                    exact ⟨lnd, by simp, fun a ha b hb => by
                      rw [List.mem_singleton.mp hb]
                      rintro rfl
                      exact nl ha⟩
                  · intro r hr
                    rcases List.mem_append.mp hr with hr | hr
                    · exact lg r hr
                    · rw [List.mem_singleton.mp hr]
                      exact ⟨⟨carried_len .., carried_ok O.val s1⟩, nk⟩
                  · intro S C r hr
                    rcases List.mem_append.mp hr with hr | hr
                    · exact lc S C r hr
                    · rw [List.mem_singleton.mp hr]
                      exact C.shut rs el fun q hq => kc S C q (inkeys q hq)
              · exact ⟨_, _, later, rfl, g7.thn g8, hl8, by omega, lnd, lg, lc⟩
            · exact iteF ⟨_, _, later, rfl, g7.thn g8, hl8, by omega, lnd, lg, lc⟩
          · obtain ⟨y9, y10, later, rfl, g7, hl7, lj, lnd, lg, lc⟩ := hp
            have ndl' : d ∉ [lt] := fun z => ndl (List.mem_singleton.mp z)
            have hd7 : H' d = some (.dT (kd keys)) := g7.at ndl' hd6 fun _ z => by cases z
            have g07 : Gr H H' := Gx.but g06 nlH g7
            obtain ⟨ls, ev, dvs⟩ := id hl7
            have ll : ls.length = later.length := by rw [dvs.1, List.length_map]
            refine ⟨.ref lt, rfl, lt, rfl, ⟨ls, .inl (.inl ev)⟩, ?_⟩
            refine for_list (K := K) (xs := ls) (fun j σ H2 => ∃ y6, σ = [some (.int sz), some (.ref oa), some (.int ar), some (.ref ub), some (.ref d), some (.ref f), y6, some (.int (0 + (i : Int))), some (.ref lt), y9, y10] ∧ But d H' H2 ∧ H2 d = some (.dT (kd (keys ++ later.take j))))
              ⟨y6, rfl, But.refl, by rw [List.take_zero, List.append_nil]; exact hd7⟩ (fun j σ H2 _ hp => ?_) (fun j x σ H2 ex hp => ?_) (fun σ H2 hp => ?_)
            · obtain ⟨_, _, b, _⟩ := hp
              exact .inl (.inl (by rw [b lt ndl.symm]; exact ev))
            · obtain ⟨y6', rfl, b, hd8⟩ := hp
              obtain ⟨dx, e1, dv⟩ := dvs.at' ex
              rw [List.getElem?_map] at e1
              obtain ⟨r, er, rfl⟩ := Option.map_eq_some_iff.mp e1
              obtain ⟨t, rfl, ht⟩ := (DT.keep (b.tups hd7 fun _ z => by cases z) dv).row_invS
              have hj : j < later.length := (List.getElem?_eq_some_iff.mp er).1
              refine ⟨.ref d, rfl, .ref t, rfl, d, _, rfl, put_row hd8 ht (by rw [List.length_append, List.length_take]; omega), _, rfl, b.upd, ?_⟩
              rw [upd_same, List.take_add_one, er]
              rw [kd_new]
              · rw [List.append_assoc]
                rfl
              · intro z
                rcases List.mem_append.mp z with z | z
                · exact (lg r (List.mem_of_getElem? er)).2 z
                · obtain ⟨j', hj', e⟩ := List.mem_iff_getElem.mp z
                  rw [List.getElem_take] at e
                  rw [List.length_take] at hj'
                  have e2 : later[j] = r := (List.getElem?_eq_some_iff.mp er).2
                  exact List.pairwise_iff_getElem.mp lnd j' j (by omega) hj (by omega) (e.trans e2.symm)
            · obtain ⟨y6', rfl, b, hd8⟩ := hp
              rw [ll, List.take_length] at hd8
              have g08 : Gr H H2 := grB g07 nd0 b
              have nd2 : (keys ++ later).Nodup := by
                rw [List.nodup_append]
                exact ⟨knd, lnd, fun a ha c hc => by
                  rintro rfl
                  exact (lg a hc).2 ha⟩
              have cl2 : ∀ S, Clo sz k tab ar rows S → ∀ r ∈ keys ++ later, r ∈ S := fun S C r hr => (List.mem_append.mp hr).elim (kc S C r) (lc S C r)
              refine ⟨.ref d, rfl, d, _, rfl, hd8, _, _, rfl, rfl, _, rfl, ite2 (fun h9 => ?_) (fun h9 => ?_)⟩
              · rw [kd_len] at h9
                have h9' := of_decide_eq_true h9
                refine qn H2 g08 fun ⟨S, C⟩ => ?_
                have := nodup_le nd2 (cl2 S C)
                have := C.few
                omega
              · rw [kd_len] at h9
                have h9' : ¬ ((keys ++ later).length : Int) > 8 := fun z => h9 (decide_eq_true z)
                have hlt2 : LR K H2 lt later := ⟨ls, by rw [b lt ndl.symm]; exact ev, DTs.keep (b.tups hd7 fun _ z => by cases z) dvs⟩
                refine ⟨.ref lt, rfl, lt, y6', _, _, _, _, keys ++ later, later, rfl, g08, hd8, hlt2, ndl, nd2, by omega, fun z => kne (List.append_eq_nil_iff.mp z).1, fun r hr => (List.mem_append.mp hr).elim (kg r) fun z => (lg r z).1, cl2⟩
      · obtain ⟨f, y6, y7, y8, y9, y10, keys, fresh, rfl, g3, hd3, hf3, ndf3, knd, kl, kne, kg, kc⟩ := hp
        refine closed_end rfl rfl hd3 knd kl kg s4 a1 a4 fun v rs H2 g4 dv ok pm => q v rs H2 (g3.trans g4) dv ok (by rw [pm.length_eq]; exact kl) fun z => ?_
        rw [z] at pm
        exact kne (List.Perm.nil_eq pm).symm

end K35

set_option Elab.async false
set_option linter.all false
set_option maxRecDepth 100000
set_option maxHeartbeats 4000000
namespace K35
open PySem PySem.Spec PyProof.Rows L2 TK MR
variable {P : Program} {w : World} {K : PySem.W.Frag} {mg : Str → Option Value} {base : Heap}
theorem ixr1 {σ : L2.St} {H : Hp} {i : Nat} {v : V} {ar : Int} {rows : List (List Int)} {Q : VK} (hσ : σ[i]? = some (some v)) (h : DT K H v (relD ar rows)) (q : ∀ b xs, H b = some (.tup xs) → DTs K H xs (rows.map rowD) → Q (.ref b) H) : tOp (rIxT K) (tVar i) (tC (.int 1)) σ H Q := by
  obtain ⟨a, xs, rfl, h1, h2⟩ := h.tup_invS
  obtain ⟨v1, r1, rfl, h3, h4⟩ := h2.cons_inv
  obtain ⟨v2, r2, rfl, h5, h6⟩ := h4.cons_inv
  obtain ⟨b, ys, rfl, h7, h8⟩ := h5.tup_invS
  exact ⟨.ref a, hσ, a, _, 1, .ref b, rfl, rfl, .inl (.inl h1), atI_nat (j := 1) rfl, q b ys h7 h8⟩
theorem ixo0 {σ : L2.St} {H : Hp} {i : Nat} {v : V} {k : Int} {tab : List Int} {Q : VK} (hσ : σ[i]? = some (some v)) (h : DT K H v (opD k tab)) (q : Q (.int k) H) : tOp (rIxT K) (tVar i) (tC (.int 0)) σ H Q := by
  obtain ⟨a, b, rfl, h1, h2⟩ := op_invS h
  exact ⟨.ref a, hσ, a, _, 0, .int k, rfl, rfl, .inl (.inl h1), atI_nat (j := 0) rfl, q⟩
theorem find_at {α : Type} {p : α → Bool} : ∀ {l : List α} {i : Nat} {x : α}, l[i]? = some x → p x = true → (∀ (j : Nat) z, j < i → l[j]? = some z → p z = false) → l.find? p = some x
  | [], i, x, h, _, _ => by simp at h
  | a :: l, 0, x, h, e, _ => by
    cases h
    rw [List.find?_cons, e]
  | a :: l, i + 1, x, h, e, k => by
    rw [List.find?_cons, k 0 a (Nat.zero_lt_succ _) rfl]
    exact find_at h e fun j z hj hz => k (j + 1) z (Nat.succ_lt_succ hj) hz
/-! _law_breaks -/
def sp_law_breaks (T : Txt K mg base) : Sp := fun vs H Q _ => ∃ (sz k ar : Nat) (v u : V) (tab : List Int) (rows : List (List Int)), vs = [.int sz, v, u] ∧ (1 ≤ sz ∧ sz ≤ 4) ∧ DT K H v (opD k tab) ∧ (1 ≤ k ∧ k ≤ 3) ∧ tab.length = sz ^ k ∧ DT K H u (relD ar rows) ∧ RelOk sz ar rows ∧ rows.length ≤ 100 ∧
  ∀ z H', Gr H H' → DT K H' z (ansD (breakOf sz tab k ar rows)) → Q z H'
theorem ok_law_breaks (T : Txt K mg base) : FnOk P w K mg base CX0 3 T.law_breaks.f T.law_breaks.fd p_law_breaks (sp_law_breaks T) := by
  refine T.law_breaks.F.ok sc_law_breaks (fun vs H Q E h => ?_) (fun A outer s H vs Q E hr h => ?_)
  · obtain ⟨_, _, _, _, _, _, _, rfl, _⟩ := h
    rfl
  · obtain ⟨sz, k, ar, v, u, tab, rows, rfl, hs, hv, hk, htab, hu, R, r9, q⟩ := h
    have hu1 : (A.deeper (envOfC "_law_breaks" (defScope s_law_breaks) s.heap.objs.size T.law_breaks.f (.ref T.law_breaks.c))).units + 1 < cLine := by have := hr.un; omega
    refine ⟨_, pss_cons (ps_set (i := 3) sc_law_breaks.nd rfl (by first | exact .inl rfl | exact .inr rfl) pe_dnewT)
      (pss_cons (ps_for PassesOwn.never rfl (pi_tupK K (pe_ix (ix_tupK K) (pv 2) pe_int (fun _ _ => rfl))) (pg_name (i := 4) sc_law_breaks.nd rfl (by first | exact .inl rfl | exact .inr rfl)) (pss_one (ps_dput hu1 (pv 3) (pv 4) pe_bl rfl)))
      (pss_cons (ps_for PassesOwn.never rfl (pi_listK K (pe_call (ok_law_tuplesX T) (hr.mono (by decide)) (by rfl) T.law_tuples.g T.law_tuples.F.kp T.law_tuples.b .nil pass0 (pa_cons (pe_callTy call_list_of (by rfl) T.b_list boot_list (pa_cons (pe_ix (ix_tupK K) (pv 2) pe_int (fun _ _ => rfl)) pa_nil)) (pa_cons (pe_ix (ix_tupK K) (pv 1) pe_int (fun _ _ => rfl)) pa_nil)))) (pg_name (i := 5) sc_law_breaks.nd rfl (by first | exact .inl rfl | exact .inr rfl))
        (pss_one (ps_if (pt_cmp (pc_dnotin hu1 (pe_call (ok_law_carried T) hr (by rfl) T.law_carried.g T.law_carried.F.kp T.law_carried.b .nil pass0 (pa_cons (pv 0) (pa_cons (pv 1) (pa_cons (pv 5) pa_nil)))) (pv 3))) (pss_one (ps_ret (pv 5))) pss_nil)))
      (pss_one (ps_ret pe_non)))), ?_⟩
    have good : ∀ r ∈ rows, r.length = ar ∧ ∀ z ∈ r, 0 ≤ z ∧ z < (sz : Int) := RelOk.good R
    have nd := asc_nodup R.asc
    have ar4 : ar ≤ 4 := by have := R.ar4; omega
    refine fun d nd0 => ?_
    have g1 : Gr H (upd H d (.dT [])) := Gx.new nd0
    have hd1 : (upd H d (.dT [])) d = some (.dT (kd [])) := upd_same
    have hv1 := hv.gr g1
    have hu1' := hu.gr g1
    generalize upd H d (.dT []) = H1 at *
    refine ixr1 rfl hu1' fun b1 xs hb1 hx => ⟨b1, rfl, ⟨_, .inl (.inl hb1)⟩, ?_⟩
    have xl : xs.length = rows.length := by rw [hx.1, List.length_map]
    have nb1 : b1 ≠ d := fun z => by
      rw [z, hd1] at hb1
      cases hb1
    refine for_tup (K := K) (xs := xs) (fun i σ H' => ∃ y4, σ = [some (.int sz), some v, some u, some (.ref d), y4, none] ∧ But d H1 H' ∧ H' d = some (.dT (kd (rows.take i)))) ⟨none, rfl, But.refl, hd1⟩ (fun i σ H' _ hp => by
        obtain ⟨_, _, b, _⟩ := hp
        exact .inl (.inl (by rw [b b1 nb1]; exact hb1))) (fun i x σ H' ex hp => ?_) (fun σ H' hp => ?_)
    · obtain ⟨y4, rfl, b, hd'⟩ := hp
      obtain ⟨rr, r, rfl, er, hrr⟩ := LR.at hx ex
      have hi : i < rows.length := (List.getElem?_eq_some_iff.mp er).1
      have nrr : rr ≠ d := fun z => by
        rw [z, hd1] at hrr
        cases hrr
      have hnot : r ∉ rows.take i := fun hm => by
        obtain ⟨j, hj, e⟩ := List.mem_iff_getElem.mp hm
        rw [List.length_take] at hj
        have pw := List.pairwise_iff_getElem.mp nd j i (by omega) hi (by omega)
        rw [List.getElem_take] at e
        rw [List.getElem?_eq_getElem hi] at er
        exact pw (e.trans (Option.some.inj er).symm)
      refine ⟨.ref d, rfl, .ref rr, rfl, d, _, rfl, put_row hd' (by rw [b rr nrr]; exact hrr) (by rw [List.length_take]; omega), some (.ref rr), rfl, b.upd, ?_⟩
      rw [upd_same, kd_new hnot, List.take_add_one, er]
      rfl
    · obtain ⟨y4, rfl, b, hd'⟩ := hp
      rw [xl, List.take_length] at hd'
      have g2 : Gr H H' := grB g1 nd0 b
      have hv2 := hv.gr g2
      have hu2 := hu.gr g2
      refine ixr1 rfl hu2 fun b2 ys hb2 hy => ⟨b2, ys, rfl, .inr (.inl (.inl hb2)), fun p np => ?_⟩
      have g3 : Gr H' (upd H' p (.lst ys)) := Gx.new np
      have hp3 : (upd H' p (.lst ys)) p = some (.lst ys) := upd_same
      have hv3 := hv2.gr g3
      have hy3 := hy.gr g3
      have hd3 : (upd H' p (.lst ys)) d = some (.dT (kd rows)) := Gx.at g3 (by simp) hd' fun _ z => by cases z
      have g03 := g2.trans g3
      generalize upd H' p (.lst ys) = H3 at *
      refine ixo0 rfl hv3 ⟨p, ys, rows, k, rfl, .inl (.inl hp3), hy3, r9, hk.2, fun p4 H4 ws g4 np4 hp4 hws => ⟨p4, rfl, ⟨_, .inl (.inl hp4)⟩, ?_⟩⟩
      have wl : ws.length = (tuplesR rows k).length := by rw [hws.1, List.length_map]
      have hd4 : H4 d = some (.dT (kd rows)) := Gx.at g4 (by simp) hd3 fun _ z => by cases z
      have hv4 := hv3.gr g4
      have g04 := g03.trans g4
      refine for_list (K := K) (xs := ws) (fun i σ H' => ∃ y5, σ = [some (.int sz), some v, some u, some (.ref d), y4, y5] ∧ Gr H4 H' ∧ ∀ (j : Nat) t, j < i → (tuplesR rows k)[j]? = some t → carried sz tab t ar ∈ rows) ⟨none, rfl, Gx.refl, fun j t h => absurd h (Nat.not_lt_zero _)⟩ (fun i σ H' _ hp => by
          obtain ⟨_, _, g, _⟩ := hp
          exact .inl (.inl (g.lst hp4))) (fun i x σ H' ex hp => ?_) (fun σ H' hp => ?_)
      · obtain ⟨y5, rfl, g5, hall⟩ := hp
        obtain ⟨dx, e1, dv⟩ := hws.at' ex
        rw [List.getElem?_map] at e1
        obtain ⟨t, et, rfl⟩ := Option.map_eq_some_iff.mp e1
        have tm := List.mem_of_getElem? et
        rw [tuplesR_eq] at tm
        obtain ⟨tl, tr⟩ := mem_tuples tm
        have tne : t ≠ [] := fun z => by
          rw [z] at tl
          simp at tl
          omega
        refine ⟨.int sz, rfl, v, rfl, x, rfl, sz, v, x, t, tab, k, ar, rfl, hs.2, hv4.gr g5, dv.gr g5, tne, by omega, fun r hr' => good r (tr r hr'), ar4, by rw [htab, tl], fun z H6 g6 dz => ?_⟩
        obtain ⟨zz, rfl, hzz⟩ := dz.row_invS
        have hd6 : H6 d = some (.dT (kd rows)) := Gx.at (g5.trans g6) (by simp) hd4 fun _ z => by cases z
        refine ⟨.ref d, rfl, d, _, rfl, get_row hd6 hzz, _, rfl, ?_⟩
        rw [kd_has]
        by_cases hin : carried sz tab t ar ∈ rows
        · rw [decide_eq_true hin]
          refine iteF ⟨_, rfl, g5.trans g6, fun j t' hj hj' => ?_⟩
          by_cases hji : j = i
          · subst hji
            rw [et] at hj'
            cases hj'
            exact hin
          · exact hall j t' (by omega) hj'
        · rw [decide_eq_false hin]
          refine iteT ⟨x, rfl, q x H6 (g04.trans (g5.trans g6)) ?_⟩
          have e : breakOf sz tab k ar rows = some t := by
            unfold breakOf
            rw [← tuplesR_eq]
            exact find_at et (decide_eq_true hin) fun j z hj hz => decide_eq_false fun h => h (hall j z hj hz)
          rw [e]
          exact dv.gr (g5.trans g6)
      · obtain ⟨y5, rfl, g5, hall⟩ := hp
        refine q .non H' (g04.trans g5) ?_
        have e : breakOf sz tab k ar rows = none := by
          unfold breakOf
          rw [← tuplesR_eq]
          refine List.find?_eq_none.mpr fun t ht h => ?_
          obtain ⟨j, hj, e⟩ := List.mem_iff_getElem.mp ht
          exact (of_decide_eq_true h : carried sz tab t ar ∉ rows) (hall j t (by omega) (by rw [List.getElem?_eq_getElem hj, e]))
        rw [e]
        exact .non

end K35

set_option Elab.async false
set_option linter.all false
namespace MR
/-- what the operation makes of rows is a row -/
def Shut (sz k : Nat) (tab : List Int) (ar : Nat) (rs : List (List Int)) : Prop := ∀ t : List (List Int), t.length = k → (∀ r ∈ t, r ∈ rs) → carried sz tab t ar ∈ rs
def Over (sz k : Nat) (tab : List Int) (ar : Nat) (rows S : List (List Int)) : Prop := (∀ r ∈ rows, r ∈ S) ∧ Shut sz k tab ar S
/-- the closure of rows -/
structure Least (sz k : Nat) (tab : List Int) (ar : Nat) (rows rs : List (List Int)) : Prop where
  sub : ∀ r ∈ rows, r ∈ rs
  shut : Shut sz k tab ar rs
  least : ∀ S, Over sz k tab ar rows S → ∀ r ∈ rs, r ∈ S
theorem Shut.perm {sz k : Nat} {tab : List Int} {ar : Nat} {rs keys : List (List Int)} (p : rs.Perm keys) (h : Shut sz k tab ar keys) : Shut sz k tab ar rs := fun t tl tr => p.mem_iff.mpr (h t tl fun r hr => p.mem_iff.mp (tr r hr))
theorem Least.of {sz k : Nat} {tab : List Int} {ar : Nat} {rows rs keys : List (List Int)} (p : rs.Perm keys) (h : Shut sz k tab ar keys) (s : ∀ r ∈ rows, r ∈ keys) (l : ∀ S, Over sz k tab ar rows S → ∀ r ∈ keys, r ∈ S) : Least sz k tab ar rows rs :=
  ⟨fun r hr => p.mem_iff.mpr (s r hr), h.perm p, fun S o r hr => l S o r (p.mem_iff.mp hr)⟩
theorem tuples_mem {rows : List (List Int)} : ∀ {n : Nat} {t : List (List Int)}, t.length = n → (∀ r ∈ t, r ∈ rows) → t ∈ tuples rows n
  | 0, t, h, _ => by
    rw [List.length_eq_zero_iff.mp h]
    simp [tuples]
  | n + 1, [], h, _ => by simp at h
  | n + 1, r :: t, h, q => by
    simp only [tuples, List.mem_flatMap, List.mem_map]
    exact ⟨r, q r List.mem_cons_self, t, tuples_mem (by simpa using h) (fun x hx => q x (List.mem_cons_of_mem _ hx)), rfl⟩
theorem shut_no_break {sz k ar : Nat} {tab : List Int} {rows : List (List Int)} (h : Shut sz k tab ar rows) : breakOf sz tab k ar rows = none := by
  unfold breakOf
  refine List.find?_eq_none.mpr fun t ht z => ?_
  obtain ⟨tl, tr⟩ := mem_tuples ht
  exact (of_decide_eq_true z) (h t tl tr)
end MR

set_option Elab.async false
set_option linter.all false
set_option maxRecDepth 100000
set_option maxHeartbeats 4000000
namespace K35
open PySem PySem.Spec PyProof.Rows L2 TK MR
variable {P : Program} {w : World} {K : PySem.W.Frag} {mg : Str → Option Value} {base : Heap}
/-- an operation of at most three arguments -/
structure OpB (sz k : Nat) (tab : List Int) : Prop where
  k1 : 1 ≤ k
  k3 : k ≤ 3
  len : tab.length = sz ^ k
  val : ∀ x ∈ tab, 0 ≤ x ∧ x < (sz : Int)
theorem OpB.of {sz k : Nat} {tab : List Int} (h : OpOk sz k tab) : OpB sz k tab := ⟨h.k1, h.k3, h.len, h.val⟩
theorem OpB.four {sz k : Nat} {tab : List Int} (h : OpB sz k tab) : TabOk4 sz k tab := ⟨h.k1, by have := h.k3; omega, h.len, h.val⟩
/-! _law_closed -/
def sp_law_closedS (K : PySem.W.Frag) : Sp := fun vs H Q _ => ∃ (sz ar k : Nat) (v u : V) (tab : List Int) (rows : List (List Int)), vs = [.int sz, v, .int ar, u] ∧ (1 ≤ sz ∧ sz ≤ 4) ∧ (1 ≤ ar ∧ ar ≤ 4) ∧ DT K H v (opD k tab) ∧ OpB sz k tab ∧ DT K H u (.tuple (rows.map rowD)) ∧ rows ≠ [] ∧ rows.length ≤ 8 ∧ RelOk sz ar rows ∧
  (∀ H', Gr H H' → (¬ ∃ S, Clo sz k tab ar rows S) → Q .non H') ∧ ∀ z rs H', Gr H H' → DT K H' z (relD ar rs) → RelOk sz ar rs → rs.length ≤ 8 → rs ≠ [] → Least sz k tab ar rows rs → Q z H'
theorem ok_law_closedS (T : Txt K mg base) : FnOk P w K mg base CX0 3 T.law_closed.f T.law_closed.fd p_law_closed (sp_law_closedS K) := by
  refine T.law_closed.F.ok sc_law_closed (fun vs H Q E h => ?_) (fun A outer s H vs Q E hr h => ?_)
  · obtain ⟨_, _, _, _, _, _, _, rfl, _⟩ := h
    rfl
  · obtain ⟨sz, ar, k, v, u, tab, rows, rfl, ⟨s1, s4⟩, ⟨a1, a4⟩, hv, O, hu, hne, hl8, R, qn, q⟩ := h
    have hu65 : (A.deeper (envOfC "_law_closed" (defScope s_law_closed) s.heap.objs.size T.law_closed.f (.ref T.law_closed.c))).units + 65 < cLine := by have := hr.un; omega
    have hu1 : (A.deeper (envOfC "_law_closed" (defScope s_law_closed) s.heap.objs.size T.law_closed.f (.ref T.law_closed.c))).units + 1 < cLine := by omega
    refine ⟨_, pss_cons (ps_par (i := 4) (j := 5) (by rfl) sc_law_closed.nd rfl rfl (by decide) rfl rfl (pa_cons pe_dnewT (pa_cons (pe_callTy call_list_of (by rfl) T.b_list boot_list (pa_cons (pv 3) pa_nil)) pa_nil)) (by rfl))
      (pss_cons (ps_for PassesOwn.never rfl (pi_tup (pv 3)) (pg_name (i := 6) sc_law_closed.nd rfl (.inl rfl)) (pss_one (ps_dput hu1 (pv 4) (pv 6) pe_bl rfl)))
      (pss_cons (ps_for PassesOwn.never rfl (pi_range1 (by rfl) T.b_range (pa_cons pe_int pa_nil)) (pg_name (i := 7) sc_law_closed.nd rfl (.inl rfl))
        (pss_cons (ps_if (pt_cmpR (op_eqD hr.units) (pv 5) (pe_lst pa_nil) (nomark _)) (pss_one ps_break) pss_nil)
        (pss_cons (ps_set (i := 8) sc_law_closed.nd rfl (.inl rfl) (pe_lst pa_nil))
        (pss_cons (ps_for PassesOwn.never rfl (pi_list (pe_call (ok_law_tuplesX T) (hr.mono (by decide)) (by rfl) T.law_tuples.g T.law_tuples.F.kp T.law_tuples.b .nil pass0 (pa_cons (pe_callB (cr_sortedDT (d := ar) (B := 4) a1 (by rfl)) (by rfl) T.b_sorted boot_sorted (pa_cons (pv 4) pa_nil)) (pa_cons (pe_ix ix_tup (pv 1) pe_int (fun _ _ => rfl)) pa_nil)))) (pg_name (i := 9) sc_law_closed.nd rfl (.inl rfl))
          (pss_cons (ps_set (i := 10) sc_law_closed.nd rfl (.inl rfl) (pe_call (ok_law_carried T) hr (by rfl) T.law_carried.g T.law_carried.F.kp T.law_carried.b .nil pass0 (pa_cons (pv 0) (pa_cons (pv 1) (pa_cons (pv 9) pa_nil)))))
          (pss_one (ps_if (PW.pt (pw_and (pt_cmp (pc_dnotin hu1 (pv 10) (pv 4))) (pw_and1 (pt_cmpR (op_notInDK K hu65) (pv 10) (pv 8) (by rfl))))) (pss_one (ps_expr (pe_bm PySem.F.plainAttrs_list PySem.F.slot_list_append PySem.F.type_list_append mt_append (pv 8) (pa_cons (pv 10) pa_nil)))) pss_nil))))
        (pss_cons (ps_for PassesOwn.never rfl (pi_list (pv 8)) (pg_name (i := 6) sc_law_closed.nd rfl (.inl rfl)) (pss_one (ps_dput hu1 (pv 4) (pv 6) pe_bl rfl)))
        (pss_cons (ps_if (pt_cmpR op_gt (pe_callB call_len_dT (by rfl) T.b_len boot_len (pa_cons (pv 4) pa_nil)) pe_int (nomark _)) (pss_one (ps_ret pe_non)) pss_nil)
        (pss_one (ps_set (i := 5) sc_law_closed.nd rfl (.inl rfl) (pv 8)))))))))
      (pss_one (ps_ret (pe_tup (pa_cons (pv 2) (pa_cons (pe_callTy (call_tuple_ofK K) (by rfl) T.b_tuple boot_tuple (pa_cons (pe_callB (cr_sortedDT (d := ar) (B := 4) a1 (by rfl)) (by rfl) T.b_sorted boot_sorted (pa_cons (pv 4) pa_nil)) pa_nil)) pa_nil))))))), ?_⟩
    have nd := asc_nodup R.asc
    have good := RelOk.good R
    obtain ⟨ub, us, rfl, hub, hus⟩ := hu.tup_invS
    have ul : us.length = rows.length := by rw [hus.1, List.length_map]
    refine fun d nd0 => ⟨.ref ub, rfl, ub, us, rfl, .inr (.inl (.inl (Gx.tupS (Gx.new (S := []) nd0) .nil hub))), fun f nf => ⟨_, _, rfl, ?_⟩⟩
    have g1 : Gr H (upd (upd H d (.dT [])) f (.lst us)) := (Gx.new nd0).trans (Gx.new nf)
    have hf0 : H f = none := Gr.free (Gx.new nd0) nf
    have ndf : d ≠ f := fun z => by
      rw [← z, upd_same] at nf
      cases nf
    have hd1 : (upd (upd H d (.dT [])) f (.lst us)) d = some (.dT (kd [])) := by rw [upd_ne ndf, upd_same]; rfl
    have hf1 : LR K (upd (upd H d (.dT [])) f (.lst us)) f rows := ⟨us, upd_same, hus.gr g1⟩
    generalize upd (upd H d (.dT [])) f (.lst us) = H1 at *
    have hub1 := Gx.tupS g1 .nil hub
    have hus1 := hus.gr g1
    refine ⟨.ref ub, rfl, ub, rfl, ⟨_, .inl (.inl hub1)⟩, ?_⟩
    have nub : ub ≠ d := fun z => by
      rw [z, hd1] at hub1
      cases hub1
    refine for_tup (K := K) (xs := us) (fun i σ H' => ∃ y6, σ = [some (.int sz), some v, some (.int ar), some (.ref ub), some (.ref d), some (.ref f), y6, none, none, none, none] ∧ But d H1 H' ∧ H' d = some (.dT (kd (rows.take i))))
      ⟨none, rfl, But.refl, by rw [List.take_zero]; exact hd1⟩ (fun i σ H' _ hp => by
        obtain ⟨y6, _, b, _⟩ := hp
        exact .inl (.inl (by rw [b ub nub]; exact hub1))) (fun i x σ H' ex hp => ?_) (fun σ H' hp => ?_)
    · obtain ⟨y6, rfl, b, hd'⟩ := hp
      obtain ⟨dx, e1, dv⟩ := hus1.at' ex
      rw [List.getElem?_map] at e1
      obtain ⟨r, er, rfl⟩ := Option.map_eq_some_iff.mp e1
      obtain ⟨t, rfl, ht⟩ := (DT.keep (b.tups hd1 fun _ z => by cases z) dv).row_invS
      have hi : i < rows.length := (List.getElem?_eq_some_iff.mp er).1
      refine ⟨.ref d, rfl, .ref t, rfl, d, _, rfl, put_row hd' ht (by rw [List.length_take]; omega), _, rfl, b.upd, ?_⟩
      rw [upd_same, List.take_add_one, er]
      rw [kd_new]
      · rfl
      · intro z
        obtain ⟨j, hj, e⟩ := List.mem_iff_getElem.mp z
        rw [List.getElem_take] at e
        rw [List.length_take] at hj
        have e2 : rows[i] = r := (List.getElem?_eq_some_iff.mp er).2
        exact List.pairwise_iff_getElem.mp nd j i (by omega) hi (by omega) (e.trans e2.symm)
    · obtain ⟨y6, rfl, b, hd'⟩ := hp
      rw [ul, List.take_length] at hd'
      have g2 : Gr H H' := grB g1 nd0 b
      have hf2 : LR K H' f rows := by
        obtain ⟨vs, a, c⟩ := hf1
        exact ⟨vs, by rw [b f ndf.symm]; exact a, DTs.keep (b.tups hd1 fun _ z => by cases z) c⟩
      refine ⟨10, rfl, by decide, by decide, ?_⟩
      refine for_range (n := (10 : Int).toNat) (fun i σ H' => ∃ f y6 y7 y8 y9 y10 keys fresh, σ = [some (.int sz), some v, some (.int ar), some (.ref ub), some (.ref d), some (.ref f), y6, y7, y8, y9, y10] ∧ Gr H H' ∧ H' d = some (.dT (kd keys)) ∧ LR K H' f fresh ∧ d ≠ f ∧ keys.Nodup ∧ keys.length ≤ 8 ∧ keys ≠ [] ∧ (∀ r ∈ keys, Good sz ar r) ∧ (∀ S, Over sz k tab ar rows S → ∀ r ∈ keys, r ∈ S) ∧ (∀ r ∈ rows, r ∈ keys) ∧ ((fresh = [] ∧ Shut sz k tab ar keys) ∨ (fresh ≠ [] ∧ i + 1 ≤ keys.length)))
        ⟨f, y6, none, none, none, none, rows, rows, rfl, g2, hd', hf2, ndf, nd, hl8, hne, good, fun S C => C.1, fun r hr => hr, .inr ⟨hne, by show 0 + 1 ≤ rows.length; exact List.length_pos_iff.mpr hne⟩⟩ (fun i σ H' hi hp => ?_) (fun σ H' hp => ?_)
      · obtain ⟨f, y6, y7, y8, y9, y10, keys, fresh, rfl, g3, hd3, hf3, ndf3, knd, kl, kne, kg, kc, krow, kst⟩ := hp
        obtain ⟨fs, ef, fd⟩ := hf3
        -- if fresh == []
        refine ⟨.ref f, rfl, Nat.zero_le _, fun e ne => ?_⟩
        have ge : Gr H' (upd H' e (.lst [])) := Gx.new ne
        refine ⟨_, .list [], dp_rows (ge.lst ef) (fd.gr ge), .lst (.inl (.inl upd_same)) .nil, rows_shaped fresh, by decide, _, rfl, ?_⟩
        rw [any_nil]
        have hd4 : (upd H' e (.lst [])) d = some (.dT (kd keys)) := by
          rw [upd_ne fun z => by
            rw [z, ne] at hd3
            cases hd3]
          exact hd3
        have g4 := g3.trans ge
        generalize upd H' e (.lst []) = H4 at *
        refine ite2 (fun hf0 => ?_) (fun hfn => ?_)
        · have sh : Shut sz k tab ar keys := kst.elim (fun z => z.2) fun z => absurd (of_decide_eq_true hf0) z.1
          refine closed_end rfl rfl hd4 knd kl kg s4 a1 a4 fun v rs H2 g5 dv ok pm => q v rs H2 (g4.trans g5) dv ok (by rw [pm.length_eq]; exact kl) (fun z => ?_) (.of pm sh krow kc)
          rw [z] at pm
          exact kne (List.Perm.nil_eq pm).symm
        · -- later = []
          refine ⟨Nat.zero_le _, fun lt nlt => ?_⟩
          have gl : Gr H4 (upd H4 lt (.lst [])) := Gx.new nlt
          have nlH : H lt = none := g4.free nlt
          have ndl : d ≠ lt := fun z => by
            rw [z, nlt] at hd4
            cases hd4
          have hd5 : (upd H4 lt (.lst [])) d = some (.dT (kd keys)) := by rw [upd_ne ndl]; exact hd4
          have hl5 : LR K (upd H4 lt (.lst [])) lt [] := ⟨[], upd_same, .nil⟩
          have g5 := g4.trans gl
          generalize upd H4 lt (.lst []) = H5 at *
          -- sorted(known)
          refine ⟨.ref d, rfl, d, kd keys, rfl, hd5, by rw [kd_len]; omega, fun p hp => ?_, fun bs ys p2 hk pm pw np2 => ?_⟩
          · obtain ⟨r, hr, rfl⟩ := List.mem_map.mp hp
            exact ⟨r, rfl, (kg r hr).bd s4⟩
          obtain ⟨qs, qd, qp, qw⟩ := sorted_rows (B := 4) (d := ar) (keys_DTs (K := K) hk) pm knd (fun r hr => (kg r hr).bd s4) pw
          have gs : Gr H5 (upd H5 p2 (.lst ys)) := Gx.new np2
          obtain ⟨oa, ob, rfl, ho1, ho2⟩ := DT.op_inv (hv.gr (g5.trans gs))
          refine ⟨.ref oa, rfl, oa, _, 0, .int k, rfl, rfl, ho1, atI_nat (j := 0) rfl, ?_⟩
          refine ⟨p2, ys, qs, k, rfl, .inl (.inl upd_same), qd.gr gs, by rw [qp.length_eq]; omega, O.k3, fun L H6 ws g6 nL hL hW => ?_⟩
          have wl : ws.length ≤ 512 := by
            rw [hW.1, List.length_map, tuplesR_len]
            exact Nat.le_trans (Nat.pow_le_pow_left (show qs.length ≤ 8 by rw [qp.length_eq]; exact kl) k) (Nat.le_trans (Nat.pow_le_pow_right (by omega) O.k3) (by decide))
          have wl2 : ws.length = (tuplesR qs k).length := by rw [hW.1, List.length_map]
          have g56 : Gr H5 H6 := gs.trans g6
          have g06 := g5.trans g56
          have hv6 := hv.gr g06
          have hd6 : H6 d = some (.dT (kd keys)) := g56.at (by simp) hd5 fun _ z => by cases z
          have hl6 : LR K H6 lt [] := LR.gr g56 hl5
          have nLl : L ≠ lt := fun z => by
            obtain ⟨xs, e, _⟩ := hl5
            have e2 := gs.lst e
            rw [← z, nL] at e2
            cases e2
          refine ⟨L, rfl, ⟨ws, .inl (.inl hL)⟩, ?_⟩
          refine for_list (K := K) (xs := ws) (fun j σ H' => ∃ y9 y10 later, σ = [some (.int sz), some (.ref oa), some (.int ar), some (.ref ub), some (.ref d), some (.ref f), y6, some (.int (0 + (i : Int))), some (.ref lt), y9, y10] ∧ Gx [lt] H6 H' ∧ LR K H' lt later ∧ later.length ≤ j ∧ later.Nodup ∧ (∀ r ∈ later, Good sz ar r ∧ r ∉ keys) ∧ (∀ S, Over sz k tab ar rows S → ∀ r ∈ later, r ∈ S) ∧ (∀ (j' : Nat) t, j' < j → (tuplesR qs k)[j']? = some t → carried sz tab t ar ∈ keys ∨ carried sz tab t ar ∈ later))
            ⟨y9, y10, [], rfl, Gx.refl, hl6, Nat.zero_le _, List.nodup_nil, fun r hr => by simp at hr, fun S C r hr => by simp at hr, fun j' t h => absurd h (Nat.not_lt_zero _)⟩ (fun j σ H' _ hp => ?_) (fun j x σ H' ex hp => ?_) (fun σ H' hp => ?_)
          · obtain ⟨_, _, _, _, g, _⟩ := hp
            exact .inl (.inl (g.at (by simp [nLl]) hL fun _ z => by cases z))
          · obtain ⟨y9, y10, later, rfl, g7, hl7, lj, lnd, lg, lc, ls⟩ := hp
            have wj : j < ws.length := (List.getElem?_eq_some_iff.mp ex).1
            have lsl : LS [lt] H6 := by
              obtain ⟨vs, e, _⟩ := hl6
              exact .one e
            have ndl' : d ∉ [lt] := fun z => ndl (List.mem_singleton.mp z)
            obtain ⟨dx, e1, de⟩ := hW.at' ex
            rw [List.getElem?_map] at e1
            obtain ⟨rs, et, rfl⟩ := Option.map_eq_some_iff.mp e1
            have tm := List.mem_of_getElem? et
            rw [tuplesR_eq] at tm
            obtain ⟨el, hrs⟩ := mem_tuples tm
            have ls2 : ∀ {later' : List (List Int)}, (∀ r ∈ later, r ∈ later') → (carried sz tab rs ar ∈ keys ∨ carried sz tab rs ar ∈ later') → ∀ (j' : Nat) t, j' < j + 1 → (tuplesR qs k)[j']? = some t → carried sz tab t ar ∈ keys ∨ carried sz tab t ar ∈ later' := fun sub h j' t hj' et' => by
              by_cases hji : j' = j
              · rw [hji, et] at et'
                cases et'
                exact h
              · exact (ls j' t (by omega) et').imp id (sub _)
            have inkeys : ∀ r ∈ rs, r ∈ keys := fun r hr => qp.mem_iff.mp (hrs r hr)
            refine ⟨.int sz, rfl, .ref oa, rfl, x, rfl, sz, .ref oa, x, rs, tab, k, ar, rfl, s4, hv6.gx g7 lsl, de.gx g7 lsl, ?_, by rw [el]; exact O.k3, fun r hr => kg r (inkeys r hr), a4, by rw [el]; exact O.len, fun z H8 g8 dz => ?_⟩
            · intro z
              rw [z] at el
              have := O.k1
              simp at el
              omega
            have hd8 : H8 d = some (.dT (kd keys)) := g8.at (by simp) (g7.at ndl' hd6 fun _ z => by cases z) fun _ z => by cases z
            have hl8 : LR K H8 lt later := LR.gr g8 hl7
            obtain ⟨t, rfl, ht⟩ := dz.row_invS
            refine ⟨.ref t, rfl, .ref d, rfl, d, _, rfl, get_row hd8 ht, _, rfl, ?_⟩
            rw [kd_has]
            refine ite2 (fun h1 => ?_) (fun h1 => ?_)
            · obtain ⟨vs, ev, dvs⟩ := id hl8
              refine ⟨.ref t, rfl, .ref lt, rfl, _, _, dz.dp, dp_rows ev dvs, row_shaped _, rows_shaped later, _, rfl, ?_⟩
              rw [any_eqv]
              refine ite2 (fun h2 => ?_) (fun h2 => ?_)
              · have nk : carried sz tab rs ar ∉ keys := by simpa using h1
                have nl : carried sz tab rs ar ∉ later := by simpa using h2
                refine ⟨.ref lt, rfl, .inl ⟨rfl, _, .inl (.inl ev)⟩, .ref t, rfl, lt, vs, .ref t, rfl, rfl, ev, ?_, ?_⟩
                · rw [dvs.1, List.length_map]
                  exact small1000 (by omega)
                · refine ⟨_, _, later ++ [carried sz tab rs ar], rfl, (g7.thn g8).wrS (List.mem_singleton.mpr rfl), ⟨_, upd_same, LR.app (dvs.wr ev) (DT.wr ev dz)⟩, by rw [List.length_append]; show later.length + 1 ≤ j + 1; omega, ?_, ?_, ?_, ?_⟩
                  · rw [List.nodup_append]
                    exact ⟨lnd, by simp, fun a ha b hb => by
                      rw [List.mem_singleton.mp hb]
                      rintro rfl
                      exact nl ha⟩
                  · intro r hr
                    rcases List.mem_append.mp hr with hr | hr
                    · exact lg r hr
                    · rw [List.mem_singleton.mp hr]
                      exact ⟨⟨carried_len .., carried_ok O.val s1⟩, nk⟩
                  · intro S C r hr
                    rcases List.mem_append.mp hr with hr | hr
                    · exact lc S C r hr
                    · rw [List.mem_singleton.mp hr]
                      exact C.2 rs el fun q hq => kc S C q (inkeys q hq)
                  · exact ls2 (fun r hr => List.mem_append_left _ hr) (.inr (List.mem_append_right _ (List.mem_singleton.mpr rfl)))
              · exact ⟨_, _, later, rfl, g7.thn g8, hl8, by omega, lnd, lg, lc, ls2 (fun r hr => hr) (.inr (by simpa using h2))⟩
            · exact iteF ⟨_, _, later, rfl, g7.thn g8, hl8, by omega, lnd, lg, lc, ls2 (fun r hr => hr) (.inl (by simpa using h1))⟩
          · obtain ⟨y9, y10, later, rfl, g7, hl7, lj, lnd, lg, lc, ls⟩ := hp
            have ndl' : d ∉ [lt] := fun z => ndl (List.mem_singleton.mp z)
            have hd7 : H' d = some (.dT (kd keys)) := g7.at ndl' hd6 fun _ z => by cases z
            have g07 : Gr H H' := Gx.but g06 nlH g7
            obtain ⟨vs, ev, dvs⟩ := id hl7
            have ll : vs.length = later.length := by rw [dvs.1, List.length_map]
            refine ⟨.ref lt, rfl, lt, rfl, ⟨vs, .inl (.inl ev)⟩, ?_⟩
            refine for_list (K := K) (xs := vs) (fun j σ H2 => ∃ y6, σ = [some (.int sz), some (.ref oa), some (.int ar), some (.ref ub), some (.ref d), some (.ref f), y6, some (.int (0 + (i : Int))), some (.ref lt), y9, y10] ∧ But d H' H2 ∧ H2 d = some (.dT (kd (keys ++ later.take j))))
              ⟨y6, rfl, But.refl, by rw [List.take_zero, List.append_nil]; exact hd7⟩ (fun j σ H2 _ hp => ?_) (fun j x σ H2 ex hp => ?_) (fun σ H2 hp => ?_)
            · obtain ⟨_, _, b, _⟩ := hp
              exact .inl (.inl (by rw [b lt ndl.symm]; exact ev))
            · obtain ⟨y6', rfl, b, hd8⟩ := hp
              obtain ⟨dx, e1, dv⟩ := dvs.at' ex
              rw [List.getElem?_map] at e1
              obtain ⟨r, er, rfl⟩ := Option.map_eq_some_iff.mp e1
              obtain ⟨t, rfl, ht⟩ := (DT.keep (b.tups hd7 fun _ z => by cases z) dv).row_invS
              have hj : j < later.length := (List.getElem?_eq_some_iff.mp er).1
              refine ⟨.ref d, rfl, .ref t, rfl, d, _, rfl, put_row hd8 ht (by rw [List.length_append, List.length_take]; omega), _, rfl, b.upd, ?_⟩
              rw [upd_same, List.take_add_one, er]
              rw [kd_new]
              · rw [List.append_assoc]
                rfl
              · intro z
                rcases List.mem_append.mp z with z | z
                · exact (lg r (List.mem_of_getElem? er)).2 z
                · obtain ⟨j', hj', e⟩ := List.mem_iff_getElem.mp z
                  rw [List.getElem_take] at e
                  rw [List.length_take] at hj'
                  have e2 : later[j] = r := (List.getElem?_eq_some_iff.mp er).2
                  exact List.pairwise_iff_getElem.mp lnd j' j (by omega) hj (by omega) (e.trans e2.symm)
            · obtain ⟨y6', rfl, b, hd8⟩ := hp
              rw [ll, List.take_length] at hd8
              have g08 : Gr H H2 := grB g07 nd0 b
              have nd2 : (keys ++ later).Nodup := by
                rw [List.nodup_append]
                exact ⟨knd, lnd, fun a ha c hc => by
                  rintro rfl
                  exact (lg a hc).2 ha⟩
              have cl2 : ∀ S, Over sz k tab ar rows S → ∀ r ∈ keys ++ later, r ∈ S := fun S C r hr => (List.mem_append.mp hr).elim (kc S C r) (lc S C r)
              refine ⟨.ref d, rfl, d, _, rfl, hd8, _, _, rfl, rfl, _, rfl, ite2 (fun h9 => ?_) (fun h9 => ?_)⟩
              · rw [kd_len] at h9
                have h9' := of_decide_eq_true h9
                refine qn H2 g08 fun ⟨S, C⟩ => ?_
                have := nodup_le nd2 (cl2 S ⟨C.sub, C.shut⟩)
                have := C.few
                omega
              · rw [kd_len] at h9
                have h9' : ¬ ((keys ++ later).length : Int) > 8 := fun z => h9 (decide_eq_true z)
                have hlt2 : LR K H2 lt later := ⟨vs, by rw [b lt ndl.symm]; exact ev, DTs.keep (b.tups hd7 fun _ z => by cases z) dvs⟩
                refine ⟨.ref lt, rfl, lt, y6', _, _, _, _, keys ++ later, later, rfl, g08, hd8, hlt2, ndl, nd2, by omega, fun z => kne (List.append_eq_nil_iff.mp z).1, fun r hr => (List.mem_append.mp hr).elim (kg r) fun z => (lg r z).1, cl2, fun r hr => List.mem_append_left _ (krow r hr), ?_⟩
                by_cases hn : later = []
                · subst hn
                  refine .inl ⟨rfl, ?_⟩
                  rw [List.append_nil]
                  intro t tl tr
                  have tm := tuples_mem tl fun r hr => qp.mem_iff.mpr (tr r hr)
                  rw [← tuplesR_eq] at tm
                  obtain ⟨j, hj, e⟩ := List.mem_iff_getElem.mp tm
                  exact (ls j t (by omega) (by rw [List.getElem?_eq_getElem hj, e])).elim id fun z => by simp at z
                · refine .inr ⟨hn, ?_⟩
                  have := List.length_pos_iff.mpr hn
                  rw [List.length_append]
                  rcases kst with ⟨z, _⟩ | ⟨_, z⟩
                  · exact absurd (decide_eq_true z) hfn
                  · omega
      · obtain ⟨f, y6, y7, y8, y9, y10, keys, fresh, rfl, g3, hd3, hf3, ndf3, knd, kl, kne, kg, kc, krow, kst⟩ := hp
        have sh : Shut sz k tab ar keys := kst.elim (fun z => z.2) fun z => by
          have := z.2
          have e10 : (10 : Int).toNat = 10 := rfl
          omega
        refine closed_end rfl rfl hd3 knd kl kg s4 a1 a4 fun v rs H2 g4 dv ok pm => q v rs H2 (g3.trans g4) dv ok (by rw [pm.length_eq]; exact kl) (fun z => ?_) (.of pm sh krow kc)
        rw [z] at pm
        exact kne (List.Perm.nil_eq pm).symm

end K35

set_option Elab.async false
set_option linter.all false
set_option maxRecDepth 100000
set_option maxHeartbeats 4000000
namespace K35
open PySem PySem.Spec PyProof.Rows L2 TK MR
variable {P : Program} {w : World} {K : PySem.W.Frag} {mg : Str → Option Value} {base : Heap}
/-! lists of lists of ints -/
def LL (H : Hp) (a : Addr) (L : List (List Int)) : Prop := ∃ bs : List Addr, H a = some (.lst (bs.map V.ref)) ∧ bs.length = L.length ∧ ∀ (n : Nat) b (row : List Int), bs[n]? = some b → L[n]? = some row → H b = some (.lst (row.map V.int))
def LLL (H : Hp) (s : Addr) (S : List (List (List Int))) : Prop := ∃ as : List Addr, H s = some (.lst (as.map V.ref)) ∧ as.length = S.length ∧ ∀ (l : Nat) a L, as[l]? = some a → S[l]? = some L → LL H a L
theorem LL.keep {H H' : Hp} (k : ∀ b xs, H b = some (.lst xs) → H' b = some (.lst xs)) {a : Addr} {L : List (List Int)} (h : LL H a L) : LL H' a L := by
  obtain ⟨bs, e, l, q⟩ := h
  exact ⟨bs, k _ _ e, l, fun n b row e1 e2 => k _ _ (q n b row e1 e2)⟩
theorem LLL.keep {H H' : Hp} (k : ∀ b xs, H b = some (.lst xs) → H' b = some (.lst xs)) {s : Addr} {S : List (List (List Int))} (h : LLL H s S) : LLL H' s S := by
  obtain ⟨as, e, l, q⟩ := h
  exact ⟨as, k _ _ e, l, fun n a L e1 e2 => (q n a L e1 e2).keep k⟩
theorem LL.gr {H H' : Hp} (g : Gr H H') {a : Addr} {L : List (List Int)} (h : LL H a L) : LL H' a L := h.keep fun _ _ e => g.lst e
/-- .. its lists new since H0 -/
def LLf (H0 H : Hp) (a : Addr) (L : List (List Int)) : Prop := ∃ bs : List Addr, H a = some (.lst (bs.map V.ref)) ∧ bs.length = L.length ∧ (∀ b ∈ bs, H0 b = none) ∧ ∀ (n : Nat) b (row : List Int), bs[n]? = some b → L[n]? = some row → H b = some (.lst (row.map V.int))
theorem lc_LL {g : TG} {tt : L2.TT} {te : TE} {vs : List Nat} {σ : L2.St} {H1 : Hp} {D p : Addr} {as : List Addr} {PP : List (List (List Int))} {Qd : Hp → Prop} (f : List (List Int) → List Int) (hD : H1 D = none) (hp : H1 p = some (.lst (as.map V.ref))) (al : as.length = PP.length) (hl : PP.length ≤ 500)
    (hs : ∀ (i : Nat) (a : Addr) (P' : List (List Int)) (H' : Hp) (Pn : V → Hp → Prop) (El : Hp → Prop), as[i]? = some a → PP[i]? = some P' → Gr H1 H' → (∀ b H2, Gr H' H2 → H' b = none → H2 b = some (.lst ((f P').map V.int)) → Pn (.ref b) H2) →
      g (.ref a) (wipe σ vs) H' fun σ2 H2 => wipe σ2 vs = wipe σ vs ∧ tt σ2 H2 fun bb H3 => if bb = true then te σ2 H3 Pn else El H3)
    (hd : ∀ H2, Gr H1 H2 → LLf H1 H2 D (PP.map f) → Qd H2) :
    ∃ W : Nat → Nat → Hp → Prop, (∃ m, W 0 m (upd H1 D (.lst []))) ∧ ∀ i m H, W i m H →
      ((Itl K p).stop i H ∧ Qd H) ∨ ((Itl K p).go i H ∧ ∃ Nx : Hp → Prop, (∀ H', Nx H' → ∃ m', m' < m ∧ W (i + 1) m' H') ∧ ∀ x H', (Itl K p).yld i H x H' → g x (wipe σ vs) H' fun σ2 H2 => wipe σ2 vs = wipe σ vs ∧ tt σ2 H2 fun b H3 =>
        if b = true then te σ2 H3 fun y H4 => ∃ acc, H4 D = some (.lst acc) ∧ acc.length < sizeLine ∧ Nx (upd H4 D (.lst (acc ++ [y]))) else Nx H3) := by
  refine lc_list (K := K) (a := p) (xs := as.map V.ref) (fun i H' => Gr H1 H' ∧ ∃ bs : List Addr, H' D = some (.lst (bs.map V.ref)) ∧ bs.length = i ∧ (∀ b ∈ bs, b ≠ D ∧ H1 b = none) ∧ ∀ (n : Nat) b P', bs[n]? = some b → PP[n]? = some P' → H' b = some (.lst ((f P').map V.int)))
    ⟨Gx.new hD, [], upd_same, rfl, fun b hb => by simp at hb, fun n b P' e => by simp at e⟩ (fun i H' _ q => .inl (.inl (q.1.lst hp))) (fun i x H' ex q => ?_) (fun H' q => ?_)
  · obtain ⟨g1, bs, hDl, bl, bne, bq⟩ := q
    rw [List.getElem?_map] at ex
    obtain ⟨a, ea, rfl⟩ := Option.map_eq_some_iff.mp ex
    have hi : i < PP.length := by rw [← al]; exact (List.getElem?_eq_some_iff.mp ea).1
    refine hs i a PP[i] H' _ (fun H3 => _) ea (List.getElem?_eq_getElem hi) g1 fun b H2 g2 nb hb => ?_
    have hD2 := g2.lst hDl
    have nbD : b ≠ D := fun z => by
      rw [z, hDl] at nb
      cases nb
    refine ⟨_, hD2, by rw [List.length_map]; exact small1000 (by omega), (g1.trans g2).wr hD, bs ++ [b], by rw [upd_same, List.map_append]; rfl, by rw [List.length_append, bl]; rfl, fun c hc => ?_, fun n c P' e1 e2 => ?_⟩
    · rcases List.mem_append.mp hc with hc | hc
      · exact bne c hc
      · rw [List.mem_singleton.mp hc]
        exact ⟨nbD, Gr.free g1 nb⟩
    · by_cases hn : n < bs.length
      · rw [List.getElem?_append_left hn] at e1
        rw [upd_ne (bne c (List.mem_of_getElem? e1)).1]
        exact g2.lst (bq n c P' e1 e2)
      · rw [List.getElem?_append_right (by omega)] at e1
        have h0 : n - bs.length = 0 := by
          have := (List.getElem?_eq_some_iff.mp e1).1
          simp at this
          omega
        rw [h0] at e1
        cases e1
        have en : n = i := by omega
        subst en
        rw [List.getElem?_eq_getElem hi] at e2
        cases e2
        rw [upd_ne nbD]
        exact hb
  · obtain ⟨g1, bs, hDl, bl, bne, bq⟩ := q
    refine hd H' g1 ⟨bs, hDl, by rw [bl, List.length_map, List.length_map, al], fun b hb => (bne b hb).2, fun n b row e1 e2 => ?_⟩
    rw [List.getElem?_map] at e2
    obtain ⟨P', e3, rfl⟩ := Option.map_eq_some_iff.mp e2
    exact bq n b P' e1 e3
theorem keys_kn {H : Hp} : ∀ {keys : List (List Int)} {i : Nat} {bs : List Addr}, IsKeys H (kn i keys) bs → DTs K H (bs.map V.ref) (keys.map rowD)
  | [], _, _, .nil => .nil
  | r :: keys, i, _, .cons h t => by
    refine .cons (.row ?_) (keys_kn (i := i + 1) t)
    have e : (r.map Sum.inl : List Key).map kV = r.map V.int := keys_ints r
    rw [← e]
    exact h

end K35

set_option Elab.async false
set_option linter.all false
set_option maxRecDepth 100000
set_option maxHeartbeats 4000000
namespace K35
open PySem PySem.Spec PyProof.Rows L2 TK MR
variable {P : Program} {w : World} {K : PySem.W.Frag} {mg : Str → Option Value} {base : Heap}
theorem LLL.gr {H H' : Hp} (g : Gr H H') {s : Addr} {S : List (List (List Int))} (h : LLL H s S) : LLL H' s S := h.keep fun _ _ e => g.lst e
/-- the list of steps while it grows at q -/
def SIn (H : Hp) (q : Addr) (S : List (List (List Int))) : Prop := ∃ as : List Addr, H q = some (.lst (as.map V.ref)) ∧ as.length = S.length ∧ ∀ (l : Nat) a L, as[l]? = some a → S[l]? = some L →
  ∃ bs : List Addr, H a = some (.lst (bs.map V.ref)) ∧ bs.length = L.length ∧ a ≠ q ∧ (∀ b ∈ bs, b ≠ q) ∧ ∀ (n : Nat) b (row : List Int), bs[n]? = some b → L[n]? = some row → H b = some (.lst (row.map V.int))
theorem SIn.gr {H H' : Hp} (g : Gr H H') {q : Addr} {S : List (List (List Int))} (h : SIn H q S) : SIn H' q S := by
  obtain ⟨as, e, l, k⟩ := h
  refine ⟨as, g.lst e, l, fun i a L e1 e2 => ?_⟩
  obtain ⟨bs, h1, h2, h3, h4, h5⟩ := k i a L e1 e2
  exact ⟨bs, g.lst h1, h2, h3, h4, fun n b row e3 e4 => g.lst (h5 n b row e3 e4)⟩
theorem SIn.snoc {H0 H : Hp} {q D : Addr} {S : List (List (List Int))} {L : List (List Int)} (h : SIn H q S) (hq0 : ∃ o, H0 q = some o) (hD0 : D ≠ q) (hL : LLf H0 H D L) : ∃ xs, H q = some (.lst xs) ∧ xs.length = S.length ∧ SIn (upd H q (.lst (xs ++ [.ref D]))) q (S ++ [L]) := by
  obtain ⟨as, e, l, k⟩ := h
  refine ⟨_, e, by rw [List.length_map, l], as ++ [D], by rw [upd_same, List.map_append]; rfl, by rw [List.length_append, List.length_append, l]; rfl, fun i a L' e1 e2 => ?_⟩
  by_cases h : i < as.length
  · rw [List.getElem?_append_left h] at e1
    rw [List.getElem?_append_left (by omega)] at e2
    obtain ⟨bs, h1, h2, h3, h4, h5⟩ := k i a L' e1 e2
    refine ⟨bs, by rw [upd_ne h3]; exact h1, h2, h3, h4, fun n b row e3 e4 => ?_⟩
    rw [upd_ne (h4 b (List.mem_of_getElem? e3))]
    exact h5 n b row e3 e4
  · rw [List.getElem?_append_right (by omega)] at e1
    rw [List.getElem?_append_right (by omega), ← l] at e2
    have h0 : i - as.length = 0 := by
      have := (List.getElem?_eq_some_iff.mp e1).1
      simp at this
      omega
    rw [h0] at e1 e2
    cases e1
    cases e2
    obtain ⟨bs, h1, h2, h3, h5⟩ := hL
    obtain ⟨o, ho⟩ := hq0
    have nb : ∀ b ∈ bs, b ≠ q := fun b hb z => by
      have := h3 b hb
      rw [z, ho] at this
      cases this
    refine ⟨bs, by rw [upd_ne hD0]; exact h1, h2, hD0, nb, fun n b row e3 e4 => ?_⟩
    rw [upd_ne (nb b (List.mem_of_getElem? e3))]
    exact h5 n b row e3 e4
theorem SIn.lll {H : Hp} {q : Addr} {S : List (List (List Int))} (h : SIn H q S) : LLL H q S := by
  obtain ⟨as, e, l, k⟩ := h
  refine ⟨as, e, l, fun i a L e1 e2 => ?_⟩
  obtain ⟨bs, h1, h2, _, _, h5⟩ := k i a L e1 e2
  exact ⟨bs, h1, h2, h5⟩
theorem flat_len {sz : Nat} {R : List (List Int)} : ((R.map (partsOf sz)).flatten).length = R.length * sz := by
  induction R with
  | nil => simp
  | cons r R ih =>
    rw [List.map_cons, List.flatten_cons, List.length_append, ih, partsOf_len, List.length_cons, Nat.add_mul, Nat.one_mul]
    omega
/-! argument_steps -/
def sp_argument_steps (K : PySem.W.Frag) : Sp := fun vs H Q _ => ∃ (sz k : Nat) (v : V) (tab : List Int), vs = [.int sz, v] ∧ 1 ≤ sz ∧ sz ≤ 4 ∧ DT K H v (opD k tab) ∧ TabOk4 sz k tab ∧ ∀ s H', Gr H H' → H s = none → LLL H' s (stepsFrom sz k [tab]) → Q (.ref s) H'
theorem ok_argument_steps (T : Txt K mg base) : FnOk P w K mg base CX0 2 T.argument_steps.f T.argument_steps.fd p_argument_steps (sp_argument_steps K) := by
  refine T.argument_steps.F.ok sc_argument_steps (fun vs H Q E h => ?_) (fun A outer s H vs Q E hr h => ?_)
  · obtain ⟨_, _, _, _, rfl, _⟩ := h
    rfl
  · obtain ⟨sz, k, v, tab, rfl, s1, s4, hv, O, q⟩ := h
    have hu1 : (A.deeper (envOfC "argument_steps" (defScope s_argument_steps) s.heap.objs.size T.argument_steps.f (.ref T.argument_steps.c))).units + 1 < cLine := by have := hr.un; omega
    refine ⟨_, pss_cons (ps_asg (pv 1) (pg_tup (by rfl) (pgs_cons (pg_name (i := 2) sc_argument_steps.nd rfl (by first | exact .inl rfl | exact .inr rfl)) (pgs_cons (pg_name (i := 3) sc_argument_steps.nd rfl (by first | exact .inl rfl | exact .inr rfl)) pgs_nil))))
      (pss_cons (ps_set (i := 4) sc_argument_steps.nd rfl (by first | exact .inl rfl | exact .inr rfl) (pe_lst (pa_cons (pv 3) pa_nil)))
      (pss_cons (ps_set (i := 5) sc_argument_steps.nd rfl (by first | exact .inl rfl | exact .inr rfl) (pe_lst pa_nil))
      (pss_cons (ps_for PassesOwn.never rfl (pi_revR (by rfl) T.b_reversed (prg_1 (by rfl) T.b_range (pv 2))) (pg_name (i := 6) sc_argument_steps.nd rfl (by first | exact .inl rfl | exact .inr rfl))
        (pss_cons (ps_setLc (i := 7) (own := [("rest", 8)]) (g := gName 8) (tt := tYes) rfl sc_argument_steps.nd rfl rfl (sw_true rfl rfl rfl (by decide +kernel)) (pi_listK K (pv 4)) (blkOk_by (N := n_argument_steps) (sc := defScope s_argument_steps) (by decide +kernel)) (fun _ _ _ _ _ => pg_name (i := 8) sc_argument_steps.nd rfl (by first | exact .inl rfl | exact .inr rfl)) (fun _ _ _ _ _ => pts_nil)
            (fun _ _ _ _ _ => (pe_call (ok_parts T) hr (by rfl) T.parts.g T.parts.F.kp T.parts.b .nil pass0 (pa_cons (pv 0) (pa_cons (pv 8) pa_nil)))))
        (pss_one (ps_if (pt_cmpR op_eq (pv 6) pe_int (nomark _))
          (pss_one (ps_expr (pe_bm PySem.F.plainAttrs_list PySem.F.slot_list_append PySem.F.type_list_append mt_append (pv 5) (pa_cons
            (pe_lc (own := [("row", 9)]) (g := gName 9) (tt := tYes) rfl sc_argument_steps.nd (pi_listK K (pv 7)) (blkOk_by (N := n_argument_steps) (sc := defScope s_argument_steps) (by decide +kernel)) (fun _ _ _ _ _ => pg_name (i := 9) sc_argument_steps.nd rfl (by first | exact .inl rfl | exact .inr rfl)) (fun _ _ _ _ _ => pts_nil)
              (fun _ _ _ _ _ => pe_lc (own := [("part", 10)]) (g := gName 10) (tt := tYes) rfl sc_argument_steps.nd (pi_listK K (pv 9)) (blkOk_by (by kernel_rfl)) (fun _ _ _ _ _ => pg_name (i := 10) sc_argument_steps.nd rfl (by first | exact .inl rfl | exact .inr rfl)) (fun _ _ _ _ _ => pts_nil)
                (fun _ _ _ _ _ => pe_ix (ix_tupK K) (pv 10) pe_int (fun _ _ => rfl)))) pa_nil))))
          (pss_cons (ps_set (i := 11) sc_argument_steps.nd rfl (by first | exact .inl rfl | exact .inr rfl) (pe_call (ok_numbered T) hr (by rfl) T.numbered.g T.numbered.F.kp T.numbered.b .nil pass0 (pa_cons (pv 7) pa_nil)))
          (pss_cons (ps_expr (pe_bm PySem.F.plainAttrs_list PySem.F.slot_list_append PySem.F.type_list_append mt_append (pv 5) (pa_cons
            (pe_lc (own := [("row", 9)]) (g := gName 9) (tt := tYes) rfl sc_argument_steps.nd (pi_listK K (pv 7)) (blkOk_by (N := n_argument_steps) (sc := defScope s_argument_steps) (by decide +kernel)) (fun _ _ _ _ _ => pg_name (i := 9) sc_argument_steps.nd rfl (by first | exact .inl rfl | exact .inr rfl)) (fun _ _ _ _ _ => pts_nil)
              (fun _ _ _ _ _ => pe_lc (own := [("part", 10)]) (g := gName 10) (tt := tYes) rfl sc_argument_steps.nd (pi_listK K (pv 9)) (blkOk_by (by kernel_rfl)) (fun _ _ _ _ _ => pg_name (i := 10) sc_argument_steps.nd rfl (by first | exact .inl rfl | exact .inr rfl)) (fun _ _ _ _ _ => pts_nil)
                (fun _ _ _ _ _ => pe_dget hu1 (pv 11) (pv 10) (fun _ _ => rfl)))) pa_nil)))
          (pss_one (ps_set (i := 4) sc_argument_steps.nd rfl (by first | exact .inl rfl | exact .inr rfl) (pe_callTy (call_list_dT rfl) (by rfl) T.b_list boot_list (pa_cons (pv 11) pa_nil)))))))))) 
      (pss_one (ps_ret (pv 5)))))), ?_⟩
    obtain ⟨va, b, rfl, h1, h2⟩ := op_invS hv
    refine ⟨.ref va, rfl, va, _, rfl, .inl (.inl h1), rfl, .int k, [.ref b], rfl, .ref b, [], rfl, rfl, ?_⟩
    refine ⟨.ref b, rfl, by show 1 ≤ sizeLine; decide, fun p np => ⟨Nat.zero_le _, fun st nst => ?_⟩⟩
    have g1 : Gr H (upd H p (.lst [.ref b])) := Gx.new np
    have g2 : Gr (upd H p (.lst [.ref b])) (upd (upd H p (.lst [.ref b])) st (.lst [])) := Gx.new nst
    have hp2 : LR K (upd (upd H p (.lst [.ref b])) st (.lst [])) p [tab] := ⟨_, g2.lst upd_same, .one (.row (Gx.tupS (g1.trans g2) .nil h2))⟩
    have hs2 : SIn (upd (upd H p (.lst [.ref b])) st (.lst [])) st [] := ⟨[], upd_same, rfl, fun l a L e => by simp at e⟩
    have nst0 : H st = none := Gr.free g1 nst
    have hpst : p ≠ st := ne_of_none upd_same nst
    have g12 := g1.trans g2
    generalize upd (upd H p (.lst [.ref b])) st (.lst []) = H2 at *
    have hk4 := O.k4
    have hk1 := O.k1
    have pw : ∀ j, j ≤ k → sz ^ j ≤ 256 := fun j hj => pow256 s4 (by omega)
    refine ⟨.int k, rfl, k, rfl, by decide, by decide, by omega, by omega, ?_⟩
    refine for_it walk_rangeC (fun i σ H' => ∃ (R : List (List Int)) (acc : List (List (List Int))) (p : Addr) (y6 y7 y11 : Option V), σ = [some (.int sz), some (.ref va), some (.int k), some (.ref b), some (.ref p), some (.ref st), y6, y7, none, none, none, y11] ∧ Gr H H' ∧ LR K H' p R ∧ SIn H' st acc ∧ acc.length = i ∧
      p ≠ st ∧ (i < k → ∀ r ∈ R, r.length = sz ^ (k - i)) ∧ (i < k → R.length ≤ sz ^ i) ∧ acc ++ stepsFrom sz (k - i) R = stepsFrom sz k [tab]) ⟨[tab], [], p, none, none, none, rfl, g12, hp2, hs2, rfl, hpst, fun _ r hr => by rw [List.mem_singleton.mp hr, O.len]; rfl, fun _ => by simp, rfl⟩ (fun _ _ _ _ _ => trivial) (fun i x σ Hx H' hi hp hy => ?_) (fun σ H' hp => ?_)
    · obtain ⟨rfl, rfl⟩ := hy
      have hik : i < k := by omega
      obtain ⟨R, acc, p, y6, y7, y11, rfl, g3, ⟨ws, hpw, hds⟩, hS, al, hpst', hR, hRl, eq⟩ := hp
      have hR := hR hik
      have hRl := hRl hik
      have wl : ws.length = R.length := by rw [hds.1, List.length_map]
      have hi256 := pw i (by omega)
      have exl : (0 + ((((k : Int) - 0).toNat : Nat) : Int) - 1 + (i : Int) * (-1)) = ((k - 1 - i : Nat) : Int) := by omega
      rw [show (fun (i : Nat) => V.int (0 + ((((k : Int) - 0).toNat : Nat) : Int) - 1 + (i : Nat) * (-1))) i = V.int ((k - 1 - i : Nat) : Int) from congrArg V.int exl]
      obtain ⟨m, em⟩ : ∃ m, k - i = m + 1 := ⟨k - 1 - i, by omega⟩
      have eml : k - 1 - i = m := by omega
      rw [eml]
      rw [em] at hR eq
      -- parts
      refine ⟨.ref p, rfl, p, rfl, ⟨_, .inl (.inl hpw)⟩, fun D nD => ?_⟩
      refine lc_list (K := K) (a := p) (xs := ws) (fun j H2 => Gr H' H2 ∧ ∃ as2 : List Addr, H2 D = some (.lst (as2.map V.ref)) ∧ as2.length = j ∧ (∀ a ∈ as2, a ≠ D) ∧ ∀ (n : Nat) a P', as2[n]? = some a → (R.map (partsOf sz))[n]? = some P' → LR K H2 a P')
        ⟨Gx.new nD, [], upd_same, rfl, fun a ha => by simp at ha, fun n a P' e => by simp at e⟩ (fun j H2 _ q => .inl (.inl (q.1.lst hpw))) (fun j x H2 ex q => ?_) (fun H2 q => ?_)
      · obtain ⟨g4, as2, hD2, al2, ane, aq⟩ := q
        obtain ⟨bb, r, rfl, er, hb⟩ := LR.at hds ex
        have hjl : j < R.length := (List.getElem?_eq_some_iff.mp er).1
        have rl : r.length ≤ 256 := by
          rw [hR r (List.mem_of_getElem? er)]
          exact pw _ (by omega)
        refine ⟨rfl, yesT ⟨.int sz, rfl, .ref bb, rfl, sz, bb, r, rfl, s1, s4, Gx.tupS g4 .nil hb, rl, fun p2 H3 g5 np2 hlr => ?_⟩⟩
        have hD3 := g5.lst hD2
        have np2D : p2 ≠ D := fun z => by
          rw [z, hD2] at np2
          cases np2
        refine ⟨_, hD3, by rw [List.length_map]; exact small1000 (by omega), (g4.trans g5).wr nD, as2 ++ [p2], by rw [upd_same, List.map_append]; rfl, by rw [List.length_append, al2]; rfl, fun c hc => ?_, fun n c P' e1 e2 => ?_⟩
        · rcases List.mem_append.mp hc with hc | hc
          · exact ane c hc
          · rw [List.mem_singleton.mp hc]
            exact np2D
        · by_cases hn : n < as2.length
          · rw [List.getElem?_append_left hn] at e1
            exact ((aq n c P' e1 e2).gr g5).wr hD3 (ane c (List.mem_of_getElem? e1))
          · rw [List.getElem?_append_right (by omega)] at e1
            have h0 : n - as2.length = 0 := by
              have := (List.getElem?_eq_some_iff.mp e1).1
              simp at this
              omega
            rw [h0] at e1
            cases e1
            have en : n = j := by omega
            subst en
            rw [List.getElem?_map, er] at e2
            cases e2
            exact hlr.wr hD3 np2D
      obtain ⟨g4, as2, hD2, al2, _, aq⟩ := q
      have al3 : as2.length = (R.map (partsOf sz)).length := by rw [al2, wl, List.length_map]
      have hPP : PPs K H2 D (R.map (partsOf sz)) := ⟨as2, hD2, al3, aq⟩
      have hS2 := hS.gr g4
      have g34 := g3.trans g4
      have hst2 : ∃ o, H2 st = some o := let ⟨_, e, _⟩ := hS2; ⟨_, e⟩
      refine ⟨.int m, rfl, rfl, _, rfl, ite2 (fun hm => ?_) (fun hm => ?_)⟩
      · -- the last argument
        have hm0 : m = 0 := by
          have h := of_decide_eq_true hm
          have h := V.int.inj h
          omega
        subst hm0
        obtain ⟨sas, hsas, _⟩ := id hS2
        refine ⟨.ref st, rfl, .inl ⟨rfl, _, .inl (.inl hsas)⟩, .ref D, rfl, D, rfl, ⟨_, .inl (.inl hD2)⟩, fun D3 nD3 => ?_⟩
        refine lc_LL (f := fun P' => P'.map fun p => p.getD 0 0) nD3 hD2 al3 (by rw [List.length_map]; omega) (fun i' a P' H5 Pn El ea eP g5 cont => ⟨rfl, yesT ?_⟩) (fun H5 g5 hL => ?_)
        · obtain ⟨w5, hw5, hd5⟩ := (aq i' a P' ea eP).gr g5
          have w5l : w5.length = P'.length := by rw [hd5.1, List.length_map]
          have P'm := List.mem_of_getElem? eP
          obtain ⟨r0, hr0, rfl⟩ := List.mem_map.mp P'm
          refine ⟨.ref a, rfl, a, rfl, ⟨_, .inl (.inl hw5)⟩, fun D4 nD4 => ?_⟩
          refine lc_list (K := K) (a := a) (xs := w5) (fun j H6 => Gr H5 H6 ∧ H6 D4 = some (.lst ((((partsOf sz r0).take j).map fun p => p.getD 0 0).map V.int))) ⟨Gx.new nD4, upd_same⟩ (fun j H6 _ q => .inl (.inl (q.1.lst hw5))) (fun j x H6 ex q => ?_) (fun H6 q => ?_)
          · obtain ⟨g6, hD4⟩ := q
            obtain ⟨bb, r, rfl, er, hb⟩ := LR.at hd5 ex
            have rm := List.mem_of_getElem? er
            obtain ⟨vv, hvv, erp⟩ := mem_partsOf.mp rm
            have rl : r.length = sz ^ 0 := by
              rw [erp]
              exact partAt_len s1 (hR r0 hr0) hvv
            have jl : j < (partsOf sz r0).length := (List.getElem?_eq_some_iff.mp er).1
            rw [partsOf_len] at jl
            refine ⟨rfl, yesT ⟨.ref bb, rfl, ?_⟩⟩
            dsimp only [tC]
            refine row_ix (a := 0) (DT.row (Gx.tupS g6 .nil hb)) rfl (by rw [rl]; simp) ⟨_, hD4, ?_, g6.wr nD4, ?_⟩
            · rw [List.length_map, List.length_map, List.length_take]
              exact small1000 (by omega)
            · rw [upd_same, List.take_add_one, er, List.map_append, List.map_append]
              rfl
          · obtain ⟨g6, hD4⟩ := q
            rw [w5l, List.take_length] at hD4
            exact cont D4 H6 g6 nD4 hD4
        · have hS5 := hS2.gr g5
          have nD3st : D3 ≠ st := fun z => by
            obtain ⟨o, ho⟩ := hst2
            rw [← z, nD3] at ho
            cases ho
          obtain ⟨xs, exs, xl, hS6⟩ := hS5.snoc (L := lastL sz R) hst2 nD3st (by
            have e : lastL sz R = (R.map (partsOf sz)).map fun P' => P'.map fun p => p.getD 0 0 := by
              rw [List.map_map]
              rfl
            rw [e]
            exact hL)
          refine ⟨st, xs, .ref D3, rfl, rfl, exs, by rw [xl]; exact small1000 (by omega), ?_⟩
          have hpl : LR K H5 p R := LR.gr (g4.trans g5) ⟨ws, hpw, hds⟩
          refine ⟨R, acc ++ [lastL sz R], p, some (.int ((0 : Nat) : Int)), some (.ref D), y11, rfl, (g34.trans g5).wr nst0, hpl.wr exs hpst', hS6, by rw [List.length_append, al]; rfl, hpst', fun h => by omega, fun h => by omega, ?_⟩
          have e1 : k - (i + 1) = 0 := by omega
          rw [e1, ← eq]
          exact List.append_nil _
      · -- a step further
        have hm0 : m ≠ 0 := fun z => hm (by rw [z]; exact decide_eq_true rfl)
        obtain ⟨m', rfl⟩ : ∃ m', m = m' + 1 := ⟨m - 1, by omega⟩
        have hfl : ((R.map (partsOf sz)).flatten).length ≤ 256 := by
          rw [flat_len]
          have h1 := pw (i + 1) hik
          rw [Nat.pow_succ] at h1
          exact Nat.le_trans (Nat.mul_le_mul_right _ hRl) h1
        refine ⟨.ref D, rfl, D, R.map (partsOf sz), rfl, hPP, by omega, fun d H5 g5 nd hd5 => ?_⟩
        obtain ⟨sas, hsas, _⟩ := id (hS2.gr g5)
        have hD5 := g5.lst hD2
        refine ⟨.ref st, rfl, .inl ⟨rfl, _, .inl (.inl hsas)⟩, .ref D, rfl, D, rfl, ⟨_, .inl (.inl hD5)⟩, fun D3 nD3 => ?_⟩
        refine lc_LL (f := fun P' => P'.map fun p => idxIn (keysOf (R.map (partsOf sz))) p) nD3 hD5 al3 (by rw [List.length_map]; omega) (fun i' a P' H6 Pn El ea eP g6 cont => ⟨rfl, yesT ?_⟩) (fun H6 g6 hL => ?_)
        · obtain ⟨w5, hw5, hd6⟩ := (aq i' a P' ea eP).gr (g5.trans g6)
          have w5l : w5.length = P'.length := by rw [hd6.1, List.length_map]
          have P'm := List.mem_of_getElem? eP
          have hdT : H6 d = some (.dT (kn 0 (keysOf (R.map (partsOf sz))))) := Gx.at g6 (by simp) hd5 fun _ z => by cases z
          have P'l : P'.length ≤ 4 := by
            obtain ⟨r0, _, rfl⟩ := List.mem_map.mp P'm
            rw [partsOf_len]
            exact s4
          refine ⟨.ref a, rfl, a, rfl, ⟨_, .inl (.inl hw5)⟩, fun D4 nD4 => ?_⟩
          refine lc_list (K := K) (a := a) (xs := w5) (fun j H7 => Gr H6 H7 ∧ H7 D4 = some (.lst (((P'.take j).map fun p => idxIn (keysOf (R.map (partsOf sz))) p).map V.int))) ⟨Gx.new nD4, upd_same⟩ (fun j H7 _ q => .inl (.inl (q.1.lst hw5))) (fun j x H7 ex q => ?_) (fun H7 q => ?_)
          · obtain ⟨g7, hD4⟩ := q
            obtain ⟨bb, r, rfl, er, hb⟩ := LR.at hd6 ex
            have rm : r ∈ keysOf (R.map (partsOf sz)) := mem_keysOf.mpr ⟨P', P'm, List.mem_of_getElem? er⟩
            have jl : j < P'.length := (List.getElem?_eq_some_iff.mp er).1
            have hg : DGet H7 d (.ref bb) (some (.int (idxIn (keysOf (R.map (partsOf sz))) r))) := by
              have h := DGet.t (k := r.map Sum.inl) (Gx.at g7 (by simp) hdT fun _ z => by cases z) (by rw [keys_ints]; exact Gx.tupS g7 .nil hb)
              rw [kn_get, if_pos rm] at h
              have e0 : ((0 : Nat) : Int) + idxIn (keysOf (R.map (partsOf sz))) r = idxIn (keysOf (R.map (partsOf sz))) r := by omega
              rw [e0] at h
              exact h
            refine ⟨rfl, yesT ⟨.ref d, rfl, .ref bb, rfl, d, _, rfl, hg, _, hD4, ?_, g7.wr nD4, ?_⟩⟩
            · rw [List.length_map, List.length_map, List.length_take]
              exact small1000 (by omega)
            · rw [upd_same, List.take_add_one, er, List.map_append, List.map_append]
              rfl
          · obtain ⟨g7, hD4⟩ := q
            rw [w5l, List.take_length] at hD4
            exact cont D4 H7 g7 nD4 hD4
        · have hS6 := hS2.gr (g5.trans g6)
          have nD3st : D3 ≠ st := fun z => by
            rw [z, hsas] at nD3
            cases nD3
          have hst5 : ∃ o, H5 st = some o := ⟨_, hsas⟩
          obtain ⟨xs, exs, xl, hS7⟩ := hS6.snoc (L := stepL sz R) hst5 nD3st (by
            have e : stepL sz R = (R.map (partsOf sz)).map fun P' => P'.map fun p => idxIn (keysOf (R.map (partsOf sz))) p := by
              rw [List.map_map]
              rfl
            rw [e]
            exact hL)
          refine ⟨st, xs, .ref D3, rfl, rfl, exs, by rw [xl]; exact small1000 (by omega), ?_⟩
          have ndst : d ≠ st := fun z => by
            obtain ⟨o, ho⟩ := hst2
            rw [z, ho] at nd
            cases nd
          have hdT : (upd H6 st (.lst (xs ++ [.ref D3]))) d = some (.dT (kn 0 (keysOf (R.map (partsOf sz))))) := by
            rw [upd_ne ndst]
            exact Gx.at g6 (by simp) hd5 fun _ z => by cases z
          have g7 : Gr H (upd H6 st (.lst (xs ++ [.ref D3]))) := ((g34.trans g5).trans g6).wr nst0
          have hst7 : (upd H6 st (.lst (xs ++ [.ref D3]))) st = some (.lst (xs ++ [.ref D3])) := upd_same
          generalize upd H6 st (.lst (xs ++ [.ref D3])) = H7 at *
          refine ⟨.ref d, rfl, d, _, rfl, .inl hdT, fun p2 bs np2 hk => ?_⟩
          have g8 : Gr H7 (upd H7 p2 (.lst (bs.map V.ref))) := Gx.new np2
          have p2st : p2 ≠ st := fun z => by
            rw [z, hst7] at np2
            cases np2
          refine ⟨keysOf (R.map (partsOf sz)), acc ++ [stepL sz R], p2, some (.int ((m' + 1 : Nat) : Int)), some (.ref D), some (.ref d), rfl, g7.trans g8, ⟨_, upd_same, (keys_kn (i := 0) hk).gr g8⟩, hS7.gr g8, by rw [List.length_append, al]; rfl, p2st, fun _ => ?_, fun _ => ?_, ?_⟩
          · have e1 : k - (i + 1) = m' + 1 := by omega
            rw [e1]
            exact keys_len s1 hR
          · refine Nat.le_trans keysOf_len ?_
            rw [Nat.pow_succ]
            exact Nat.mul_le_mul_right _ hRl
          · have e1 : k - (i + 1) = m' + 1 := by omega
            rw [e1, List.append_assoc, ← eq]
            rfl
    · obtain ⟨R, acc, p, y6, y7, y11, rfl, g3, _, hS, al, _, _, _, eq⟩ := hp
      have e : k - ((k : Int) - 0).toNat = 0 := by omega
      rw [e] at eq
      have e2 : acc = stepsFrom sz k [tab] := by
        rw [← eq]
        exact (List.append_nil _).symm
      rw [e2] at hS
      exact ⟨.ref st, rfl, q st H' g3 nst0 hS.lll⟩

end K35

set_option Elab.async false
set_option linter.all false
set_option maxRecDepth 100000
set_option maxHeartbeats 4000000
namespace K35
open PySem PySem.Spec PyProof.Rows L2 TK MR
variable {P : Program} {w : World} {K : PySem.W.Frag} {mg : Str → Option Value} {base : Heap}
theorem cut_first {x : V} {xs : List V} : cutV (x :: xs) none (some 1) = [x] := by
  unfold cutV
  rw [show HT.sIx (x :: xs).length (x :: xs).length (some 1) = min 1 (x :: xs).length from HT.sIx_nat (x :: xs).length _ 1, HT.sIx_none]
  rw [show min 1 (x :: xs).length = 1 by rw [List.length_cons]; omega]
  rfl
theorem not_whole {n : Nat} (h : 2 ≤ n) : ¬ (HT.sIx n 0 none = 0 ∧ HT.sIx n n (some 1) = n) := by
  rw [show HT.sIx n n (some 1) = min 1 n from HT.sIx_nat n n 1]
  omega
theorem DT.op_gx {S : List Addr} {H H' : Hp} (g : Gx S H H') (hS : LS S H) {v : V} {k : Int} {tab : List Int} (h : DT K H v (opD k tab)) : DT K H' v (opD k tab) := h.gx g hS
/-! _law_kept -/
def sp_law_kept (K : PySem.W.Frag) : Sp := fun vs H Q _ => ∃ (r c : Addr) (sz ar k : Nat) (v : V) (tab : List Int), vs = [.ref r, .int sz, v, .int ar] ∧ RowSt K H r c ∧ Lv K H c ∧ (1 ≤ sz ∧ sz ≤ 4) ∧ (1 ≤ ar ∧ ar ≤ 4) ∧ DT K H v (opD k tab) ∧ OpOk sz k tab ∧
  ∀ z (rs : List (List Int)) H', Gx [r] H H' → RowSt K H' r c → DT K H' z (relD ar rs) → rs ≠ [] → rs.length ≤ 9 → RelOk sz ar rs → Q z H'
theorem ok_law_kept (T : Txt K mg base) : FnOk P w K mg base CX0 4 T.law_kept.f T.law_kept.fd p_law_kept (sp_law_kept K) := by
  refine T.law_kept.F.ok sc_law_kept (fun vs H Q E h => ?_) (fun A outer s H vs Q E hr h => ?_)
  · obtain ⟨_, _, _, _, _, _, _, rfl, _⟩ := h
    rfl
  · obtain ⟨r, c, sz, ar, k, v, tab, rfl, hR, hc, ⟨s1, s4⟩, ⟨a1, a4⟩, hv, O, q⟩ := h
    refine ⟨_, pss_cons (ps_set (i := 4) sc_law_kept.nd rfl (.inl rfl) (pe_call (ok_law_some_rows T) hr (by rfl) T.law_some_rows.g T.law_some_rows.F.kp T.law_some_rows.b .nil pass0 (pa_cons (pv 0) (pa_cons (pv 1) (pa_cons (pv 3) (pa_cons pe_int pa_nil))))))
      (pss_cons (ps_set (i := 5) sc_law_kept.nd rfl (.inl rfl) (pe_call (ok_law_closed T) hr (by rfl) T.law_closed.g T.law_closed.F.kp T.law_closed.b .nil pass0 (pa_cons (pv 1) (pa_cons (pv 2) (pa_cons (pv 3) (pa_cons (pv 4) pa_nil))))))
      (pss_one (ps_ret (pe_ifExp (pt_cmpR op_notN (pv 5) pe_non (nomark _)) (pv 5) (pe_call (ok_law_closed T) hr (by rfl) T.law_closed.g T.law_closed.F.kp T.law_closed.b .nil pass0 (pa_cons (pv 1) (pa_cons (pv 2) (pa_cons (pv 3) (pa_cons (pe_slice sl_tup (pv 4) po_none (po_some pe_int)) pa_nil))))))))), ?_⟩
    refine ⟨.ref r, rfl, .int sz, rfl, .int ar, rfl, r, c, sz, ar, 3, rfl, hR, hc, ⟨s1, s4⟩, ⟨a1, a4⟩, ⟨by omega, by omega⟩, fun u rows H1 g1 hR1 hu hne hl R => ?_⟩
    have hv1 : DT K H1 v (opD k tab) := hv.gx g1 hR.ls
    refine ⟨.int sz, rfl, v, rfl, .int ar, rfl, u, rfl, sz, ar, k, v, u, tab, rows, rfl, ⟨s1, s4⟩, ⟨a1, a4⟩, hv1, O, hu, hne, by omega, R, fun H2 g2 no => ?_, fun z rs H2 g2 dz Rz lz nz => ?_⟩
    · refine ⟨.non, rfl, rfl, _, rfl, ?_⟩
      rw [show (!decide (V.non = V.non)) = false by simp]
      refine iteF ?_
      obtain ⟨a, us, rfl, ha, hus⟩ := (hu.gr g2).tup_invS
      have ul : us.length = rows.length := by rw [hus.1, List.length_map]
      have good := RelOk.good R
      have two : 2 ≤ rows.length := by
        match rows, hne with
        | [x], _ => exact absurd (clo_one O (good x List.mem_cons_self).1 (good x List.mem_cons_self).2) no
        | _ :: _ :: _, _ => simp
      match rows, us, hne with
      | x :: rows', y :: us', _ =>
        obtain ⟨hy, _⟩ : DT K H2 y (rowD x) ∧ True := by
          obtain ⟨w1, ws1, e, h1, _⟩ := hus.cons_inv
          cases e
          exact ⟨h1, trivial⟩
        refine ⟨.int sz, rfl, v, rfl, .int ar, rfl, .ref a, rfl, 1, rfl, a, y :: us', rfl, .inl (.inl ha), not_whole (by omega), fun p np => ?_⟩
        have gp : Gr H2 (upd H2 p (.tup (cutV (y :: us') none (some 1)))) := Gx.new np
        refine ⟨sz, ar, k, v, .ref p, tab, [x], rfl, ⟨s1, s4⟩, ⟨a1, a4⟩, hv1.gr (g2.trans gp), O, ?_, by simp, by simp, ?_, fun H3 g3 no => ?_, fun z rs H3 g3 dz Rz lz nz => ?_⟩
        · rw [cut_first] at gp ⊢
          exact .mk upd_same (.one (hy.gr gp))
        · exact ⟨R.ar1, R.ar4, fun q hq => R.len q (by rw [List.mem_singleton.mp hq]; exact List.mem_cons_self), fun q hq => R.val q (by rw [List.mem_singleton.mp hq]; exact List.mem_cons_self), by simp, by simp⟩
        · exact absurd (clo_one O (good x List.mem_cons_self).1 (good x List.mem_cons_self).2) no
        · have g4 := (g2.trans gp).trans g3
          exact q z rs H3 (g1.thn g4) (hR1.gr g4) dz nz (by omega) Rz
    · refine ⟨z, rfl, rfl, _, rfl, ?_⟩
      obtain ⟨a, xs, rfl, _⟩ := dz.tup_inv
      rw [show (!decide (V.ref a = V.non)) = true by simp]
      exact iteT ⟨.ref a, rfl, q _ rs H2 (g1.thn g2) (hR1.gr g2) dz nz (by omega) Rz⟩

end K35

set_option Elab.async false
set_option linter.all false
set_option maxRecDepth 100000
set_option maxHeartbeats 4000000
namespace K35
open PySem PySem.Spec PyProof.Rows L2 TK MR
variable {P : Program} {w : World} {K : PySem.W.Frag} {mg : Str → Option Value} {base : Heap}
/-! _law_relation -/
def sp_law_relation (K : PySem.W.Frag) : Sp := fun vs H Q _ => ∃ (r c : Addr) (sz ar most : Nat), vs = [.ref r, .int sz, .int ar, .int most] ∧ RowSt K H r c ∧ Lv K H c ∧ (1 ≤ sz ∧ sz ≤ 4) ∧ (1 ≤ ar ∧ ar ≤ 4) ∧ (1 ≤ most ∧ most ≤ 9) ∧
  ∀ z (rs : List (List Int)) H', Gx [r] H H' → RowSt K H' r c → DT K H' z (relD ar rs) → rs ≠ [] → rs.length ≤ 9 → RelOk sz ar rs → Q z H'
end K35

set_option Elab.async false
set_option linter.all false
set_option maxRecDepth 100000
set_option maxHeartbeats 4000000
namespace K35
open PySem PySem.Spec PyProof.Rows L2 TK MR
variable {P : Program} {w : World} {K : PySem.W.Frag} {mg : Str → Option Value} {base : Heap}
/-- ints, and tuples of such, so deep -/
def IT : Nat → PyData → Prop
  | _ + 1, .int _ => True
  | n + 1, .tuple ds => ds.length ≤ 1000 ∧ ∀ e ∈ ds, IT n e
  | _, _ => False
theorem IT.cases {n : Nat} {d : PyData} (h : IT (n + 1) d) : (∃ i, d = .int i) ∨ ∃ ds, d = .tuple ds ∧ ds.length ≤ 1000 ∧ ∀ e ∈ ds, IT n e := by
  cases d with
  | int i => exact .inl ⟨i, rfl⟩
  | tuple ds => exact .inr ⟨ds, rfl, h⟩
  | _ => exact h.elim
theorem IT.none {d : PyData} (h : IT 0 d) : False := by cases d <;> exact h
theorem isiTL {H : Hp} {t : Addr} {x : V} {T : Value} {b : Bool} {Q : VK} (hx : TyX K H x T) (ht : H t = some (.tup [.ty "tuple", .ty "list"])) (hk : PySem.W.kitAny K T [.type "tuple", .type "list"] = some b) (q : Q (.bl b) H) : rIsiT K [x, .ref t] H Q :=
  ⟨x, t, _, T, _, b, rfl, ht, .cons (.ty _) (.cons (.ty _) .nil), hx, hk, q⟩
theorem anyT : PySem.W.kitAny K (.type "tuple") [.type "tuple", .type "list"] = some true := kitAny_cons (b := true) (kit_ty (by decide +kernel)) (fun z => by cases z) fun _ => rfl
theorem anyI : PySem.W.kitAny K (.type "int") [.type "tuple", .type "list"] = some false := kitAny_cons (b := false) (kit_ty (by decide +kernel)) (fun _ => kitAny_cons (b := false) (kit_ty (by decide +kernel)) (fun _ => kitAny_nil) fun z => by cases z) fun z => by cases z
theorem tyI {H : Hp} (n : Int) : TyX K H (.int n) (.type "int") := .base (.int n)
/-! _law_alike -/
def sp_law_alike (K : PySem.W.Frag) (n : Nat) : Sp := fun vs H Q _ => ∃ (v u : V) (d : PyData), vs = [v, u] ∧ DT K H v d ∧ DT K H u d ∧ IT n d ∧ ∀ H', Gr H H' → Q (.bl true) H'
theorem ok_law_alike (T : Txt K mg base) : ∀ n, FnOk P w K mg base CX0 (n + 1) T.law_alike.f T.law_alike.fd p_law_alike (sp_law_alike K n)
  | 0 => T.law_alike.F.ok sc_law_alike (fun vs H Q E h => by obtain ⟨_, _, _, _, _, _, h, _⟩ := h; exact h.none.elim) (fun A outer s H vs Q E hr h => by obtain ⟨_, _, _, _, _, _, h, _⟩ := h; exact h.none.elim)
  | n + 1 => by
    refine T.law_alike.F.ok sc_law_alike (fun vs H Q E h => ?_) (fun A outer s H vs Q E hr h => ?_)
    · obtain ⟨_, _, _, rfl, _⟩ := h
      rfl
    · obtain ⟨v, u, d, rfl, hv, hu, hd, q⟩ := h
      refine ⟨_, pss_cons (ps_if (pt_val (pe_callB call_isiT (by rfl) T.b_isinstance boot_isinstance (pa_cons (pv 1) (pa_cons (pe_tup (pa_cons (pe_bltn (v := .ty "tuple") (by rfl) T.b_tuple boot_tuple rfl) (pa_cons (pe_bltn (v := .ty "list") (by rfl) T.b_list boot_list rfl) pa_nil))) pa_nil))))
          (pss_cons (ps_if (PW.pt (pw_or (pt_not (pt_val (pe_callB call_isiT (by rfl) T.b_isinstance boot_isinstance (pa_cons (pv 0) (pa_cons (pe_tup (pa_cons (pe_bltn (v := .ty "tuple") (by rfl) T.b_tuple boot_tuple rfl) (pa_cons (pe_bltn (v := .ty "list") (by rfl) T.b_list boot_list rfl) pa_nil))) pa_nil)))))
            (pw_or1 (pt_cmpR op_ne (pe_callB call_isi (by rfl) T.b_isinstance boot_isinstance (pa_cons (pv 0) (pa_cons (pe_bltn (v := .ty "list") (by rfl) T.b_list boot_list rfl) pa_nil))) (pe_callB call_isi (by rfl) T.b_isinstance boot_isinstance (pa_cons (pv 1) (pa_cons (pe_bltn (v := .ty "list") (by rfl) T.b_list boot_list rfl) pa_nil))) (nomark _))))) (pss_one ps_never) pss_nil)
          (pss_cons (ps_if (pt_cmpR op_ne (pe_callB call_len_seq (by rfl) T.b_len PySem.boot_len (pa_cons (pv 0) pa_nil)) (pe_callB call_len_seq (by rfl) T.b_len PySem.boot_len (pa_cons (pv 1) pa_nil)) (nomark _)) (pss_one ps_never) pss_nil)
          (pss_one (ps_ret (pe_cmpR (op_eqD hr.units)
            (pe_lc (own := [("k", 2)]) (g := gName 2) rfl sc_law_alike.nd (pi_range1 (by rfl) T.b_range (pa_cons (pe_callB call_len_seq (by rfl) T.b_len PySem.boot_len (pa_cons (pv 1) pa_nil)) pa_nil))
              (blkOk_by (N := n_law_alike) (sc := defScope s_law_alike) (by decide +kernel)) (fun _ _ _ _ _ => pg_name (i := 2) sc_law_alike.nd rfl (Or.inl rfl))
              (fun _ _ _ _ _ => pts_one (pt_not (pt_val (pe_call (ok_law_alike T n) hr (by rfl) T.law_alike.g T.law_alike.F.kp T.law_alike.b .nil pass0 (pa_cons (pe_ix (ix_tupK K) (pv 0) (pv 2) (fun _ _ => rfl)) (pa_cons (pe_ix (ix_tupK K) (pv 1) (pv 2) (fun _ _ => rfl)) pa_nil))))))
              (fun _ _ _ _ _ => pv 2))
            (pe_lst pa_nil) (nomark _)))))) pss_nil)
        (pss_cons (ps_if (PW.pt (pw_or (pt_cmpR op_isN (pv 1) pe_non (nomark _)) (pw_or1 (pt_val (pe_callB call_isi (by rfl) T.b_isinstance boot_isinstance (pa_cons (pv 1) (pa_cons (pe_bltn (v := .ty "str") (by rfl) T.b_str boot_str rfl) pa_nil))))))) (pss_one ps_never) pss_nil)
        (pss_one (ps_ret (pe_and (pe_callB call_isi (by rfl) T.b_isinstance boot_isinstance (pa_cons (pv 0) (pa_cons (pe_bltn (v := .ty "int") (by rfl) T.b_int boot_int rfl) pa_nil)))
          (pe_and (pe_cmpR op_eq (pe_callB call_isi (by rfl) T.b_isinstance boot_isinstance (pa_cons (pv 0) (pa_cons (pe_bltn (v := .ty "bool") (by rfl) T.b_bool boot_bool rfl) pa_nil))) (pe_callB call_isi (by rfl) T.b_isinstance boot_isinstance (pa_cons (pv 1) (pa_cons (pe_bltn (v := .ty "bool") (by rfl) T.b_bool boot_bool rfl) pa_nil))) (nomark _))
            (pe_one (pe_cmpR op_eq (pv 0) (pv 1) (nomark _)))))))), ?_⟩
      rcases hd.cases with ⟨i, rfl⟩ | ⟨ds, rfl, hdl, hds⟩
      · -- an int
        cases hv.int_inv
        cases hu.int_inv
        refine ⟨.int i, rfl, by show 2 ≤ sizeLine; decide, fun t nt => ?_⟩
        have g1 : Gr H (upd H t (.tup [.ty "tuple", .ty "list"])) := Gx.new nt
        refine ⟨.int i, t, _, .type "int", _, false, rfl, upd_same, .cons (.ty _) (.cons (.ty _) .nil), tyI i, anyI, false, rfl, iteF ?_⟩
        refine ⟨.int i, rfl, rfl, _, rfl, ?_⟩
        rw [show decide (V.int i = V.non) = false by simp]
        refine iteF ⟨.int i, rfl, .int i, .ty "str", _, _, false, rfl, .ty _, tyI i, kit_ty (by decide +kernel), false, rfl, iteF ?_⟩
        refine ⟨.int i, rfl, .int i, .ty "int", _, _, true, rfl, .ty _, tyI i, kit_ty (by decide +kernel), true, rfl, iteT ?_⟩
        refine ⟨.int i, rfl, .int i, .ty "bool", _, _, false, rfl, .ty _, tyI i, kit_ty (by decide +kernel), .int i, rfl, .int i, .ty "bool", _, _, false, rfl, .ty _, tyI i, kit_ty (by decide +kernel), rfl, _, rfl, ?_⟩
        rw [decide_eq_true rfl]
        refine iteT ⟨.int i, rfl, .int i, rfl, rfl, ?_⟩
        rw [decide_eq_true rfl]
        exact q _ g1
      · -- a tuple
        obtain ⟨a, xs, rfl, hS, hD⟩ := hv.tup_inv
        obtain ⟨b, ys, rfl, hS2, hD2⟩ := hu.tup_inv
        refine ⟨.ref b, rfl, by show 2 ≤ sizeLine; decide, fun t nt => ?_⟩
        have g1 : Gr H (upd H t (.tup [.ty "tuple", .ty "list"])) := Gx.new nt
        refine ⟨.ref b, t, _, .type "tuple", _, true, rfl, upd_same, .cons (.ty _) (.cons (.ty _) .nil), tyT (g1.seqT hS2), anyT, true, rfl, iteT ?_⟩
        generalize upd H t (.tup [.ty "tuple", .ty "list"]) = H1 at *
        refine ⟨.ref a, rfl, by show 2 ≤ sizeLine; decide, fun t2 nt2 => ?_⟩
        have g2 : Gr H1 (upd H1 t2 (.tup [.ty "tuple", .ty "list"])) := Gx.new nt2
        refine ⟨.ref a, t2, _, .type "tuple", _, true, rfl, upd_same, .cons (.ty _) (.cons (.ty _) .nil), tyT ((g1.trans g2).seqT hS), anyT, true, rfl, ?_⟩
        have g02 := g1.trans g2
        generalize upd H1 t2 (.tup [.ty "tuple", .ty "list"]) = H2 at *
        refine iteF ?_
        have k1 := g02.seqT hS
        have k2 := g02.seqT hS2
        refine ⟨.ref a, rfl, .ref a, .ty "list", _, _, false, rfl, .ty _, tyT k1, kit_ty (by decide +kernel), .ref b, rfl, .ref b, .ty "list", _, _, false, rfl, .ty _, tyT k2, kit_ty (by decide +kernel), rfl, _, rfl, ?_⟩
        rw [decide_eq_true rfl]
        refine iteF ?_
        have lx : xs.length = ds.length := hD.1
        have ly : ys.length = ds.length := hD2.1
        refine ⟨.ref a, rfl, a, xs, rfl, .inr k1, .ref b, rfl, b, ys, rfl, .inr k2, rfl, _, rfl, ?_⟩
        rw [decide_eq_true (by rw [lx, ly])]
        refine iteF ?_
        -- each place
        refine ⟨.ref b, rfl, b, ys, rfl, .inr k2, ys.length, rfl, by omega, ?_, fun D nD => ?_⟩
        · omega
        refine lc_range (n := ((ys.length : Nat) : Int).toNat) (fun i H' => Gr H2 H' ∧ H' D = some (.lst [])) ⟨Gx.new nD, upd_same⟩ (fun i H' hi p => ?_) (fun H' p => ?_)
        · obtain ⟨g3, hD3⟩ := p
          have iy : i < ys.length := by omega
          have ix : i < xs.length := by omega
          have idd : i < ds.length := by omega
          have g03 := g02.trans g3
          have ezi : (0 : Int) + (i : Int) = (i : Int) := Int.zero_add _
          refine ⟨rfl, .ref a, rfl, .int (0 + (i : Int)), rfl, a, xs, _, xs[i], rfl, rfl, g03.seqT hS, by rw [ezi]; exact atI_nat (List.getElem?_eq_getElem ix), ?_⟩
          refine ⟨.ref b, rfl, .int (0 + (i : Int)), rfl, b, ys, _, ys[i], rfl, rfl, g03.seqT hS2, by rw [ezi]; exact atI_nat (List.getElem?_eq_getElem iy), ?_⟩
          refine ⟨xs[i], ys[i], ds[i], rfl, (hD.2 i _ _ (List.getElem?_eq_getElem ix) (List.getElem?_eq_getElem idd)).gr g03, (hD2.2 i _ _ (List.getElem?_eq_getElem iy) (List.getElem?_eq_getElem idd)).gr g03, hds _ (List.getElem_mem idd), fun H4 g4 => ⟨true, rfl, iteF ⟨g3.trans g4, g4.lst hD3⟩⟩⟩
        · obtain ⟨g3, hD3⟩ := p
          refine ⟨Nat.zero_le _, fun l nl => ?_⟩
          have gl : Gr H' (upd H' l (.lst [])) := Gx.new nl
          refine ⟨.list [], .list [], .lst (.inl (.inl (gl.lst hD3))) .nil, .lst (.inl (.inl upd_same)) .nil, by decide, by decide, ?_⟩
          exact q _ ((g02.trans g3).trans gl)
theorem it_row {r : List Int} (h : r.length ≤ 1000) : IT 2 (rowD r) := ⟨by rw [List.length_map]; exact h, fun e he => by
  obtain ⟨i, _, rfl⟩ := List.mem_map.mp he
  exact trivial⟩
theorem it_rel {ar : Int} {rows : List (List Int)} (h : rows.length ≤ 1000) (hl : ∀ r ∈ rows, r.length ≤ 1000) : IT 4 (relD ar rows) := ⟨by show 2 ≤ 1000; omega, fun e he => by
  rcases List.mem_cons.mp he with rfl | he
  · exact trivial
  · rw [List.mem_singleton.mp he]
    exact ⟨by rw [List.length_map]; exact h, fun e he => by
      obtain ⟨r, hr, rfl⟩ := List.mem_map.mp he
      exact it_row (hl r hr)⟩⟩

end K35

set_option Elab.async false
set_option linter.all false
namespace MR
theorem carried_getD {sz ar a : Nat} {tab : List Int} {t : List (List Int)} (h : a < ar) : (carried sz tab t ar).getD a 0 = tab.getD (idxI sz (t.map fun r => r.getD a 0)).toNat 0 := by
  unfold carried
  rw [List.getD_eq_getElem?_getD, List.getElem?_map, List.getElem?_range h]
  rfl
theorem shut_both {sz k ar : Nat} {tab : List Int} {r1 r2 : List (List Int)} (h1 : Shut sz k tab ar r1) (h2 : Shut sz k tab ar r2) : Shut sz k tab ar (r1.filter fun r => decide (r ∈ r2)) := fun t tl tr => by
  refine List.mem_filter.mpr ⟨h1 t tl fun r hr => (List.mem_filter.mp (tr r hr)).1, ?_⟩
  exact decide_eq_true (h2 t tl fun r hr => of_decide_eq_true (List.mem_filter.mp (tr r hr)).2)
theorem shut_glue {sz k ar a b : Nat} {tab : List Int} {rows : List (List Int)} (h : Shut sz k tab ar rows) (ha : a < ar) (hb : b < ar) : Shut sz k tab ar (glue rows a b) := fun t tl tr => by
  refine List.mem_filter.mpr ⟨h t tl fun r hr => (List.mem_filter.mp (tr r hr)).1, decide_eq_true ?_⟩
  rw [carried_getD ha, carried_getD hb]
  have e : (t.map fun r => r.getD a 0) = t.map fun r => r.getD b 0 := List.map_congr_left fun r hr => of_decide_eq_true (List.mem_filter.mp (tr r hr)).2
  rw [e]
theorem choose_all {α β : Type} {f : α → β} {rows : List α} : ∀ {t : List β}, (∀ x ∈ t, x ∈ rows.map f) → ∃ t' : List α, t = t'.map f ∧ ∀ r ∈ t', r ∈ rows
  | [], _ => ⟨[], rfl, fun r hr => by simp at hr⟩
  | x :: t, h => by
    obtain ⟨r, hr, e⟩ := List.mem_map.mp (h x List.mem_cons_self)
    obtain ⟨t', e', h'⟩ := choose_all fun y hy => h y (List.mem_cons_of_mem _ hy)
    exact ⟨r :: t', by rw [List.map_cons, e, ← e'], fun q hq => (List.mem_cons.mp hq).elim (fun z => z ▸ hr) (h' q)⟩
theorem shut_pick {sz k ar : Nat} {tab : List Int} {rows qs : List (List Int)} {ps : List Nat} (h : Shut sz k tab ar rows) (hp : ∀ p ∈ ps, p < ar) (hq : ∀ x, x ∈ qs ↔ x ∈ rows.map fun r => ps.map fun p => r.getD p 0) : Shut sz k tab ps.length qs := fun t tl tr => by
  obtain ⟨t', rfl, h'⟩ := choose_all fun x hx => (hq x).mp (tr x hx)
  rw [List.length_map] at tl
  refine (hq _).mpr (List.mem_map.mpr ⟨carried sz tab t' ar, h t' tl h', ?_⟩)
  have e2 : carried sz tab (t'.map fun r => ps.map fun p => r.getD p 0) ps.length = (List.range ps.length).map fun i => tab.getD (idxI sz (t'.map fun r => r.getD (ps.getD i 0) 0)).toNat 0 := by
    unfold carried
    refine List.map_congr_left fun i hi => ?_
    have hi := List.mem_range.mp hi
    rw [List.map_map]
    have e : ((fun r : List Int => r.getD i 0) ∘ fun r : List Int => ps.map fun p => r.getD p 0) = fun r : List Int => r.getD (ps.getD i 0) 0 := by
      funext r
      show (ps.map fun p => r.getD p 0).getD i 0 = _
      rw [List.getD_eq_getElem?_getD, List.getElem?_map, List.getElem?_eq_getElem hi, List.getD_eq_getElem?_getD (l := ps), List.getElem?_eq_getElem hi]
      rfl
    rw [e]
  rw [e2]
  refine List.ext_getElem (by rw [List.length_map, List.length_map, List.length_range]) fun i h1 h2 => ?_
  rw [List.length_map] at h1
  rw [List.getElem_map, List.getElem_map, List.getElem_range, carried_getD (hp _ (List.getElem_mem h1)), List.getD_eq_getElem?_getD (l := ps), List.getElem?_eq_getElem h1]
  rfl
theorem shut_prod {sz k ar br : Nat} {tab : List Int} {r1 r2 : List (List Int)} (h1 : Shut sz k tab ar r1) (h2 : Shut sz k tab br r2) (l1 : ∀ r ∈ r1, r.length = ar) (l2 : ∀ r ∈ r2, r.length = br) : Shut sz k tab (ar + br) (prod r1 r2) := fun t tl tr => by
  have parts : ∀ r ∈ t, r.take ar ∈ r1 ∧ r.drop ar ∈ r2 := fun r hr => by
    obtain ⟨a, ha, z⟩ := List.mem_flatMap.mp (tr r hr)
    obtain ⟨b, hb, rfl⟩ := List.mem_map.mp z
    rw [← l1 a ha, List.take_left, List.drop_left]
    exact ⟨ha, hb⟩
  have c1 := h1 (t.map fun r => r.take ar) (by rw [List.length_map]; exact tl) fun r hr => by
    obtain ⟨q, hq, rfl⟩ := List.mem_map.mp hr
    exact (parts q hq).1
  have c2 := h2 (t.map fun r => r.drop ar) (by rw [List.length_map]; exact tl) fun r hr => by
    obtain ⟨q, hq, rfl⟩ := List.mem_map.mp hr
    exact (parts q hq).2
  refine List.mem_flatMap.mpr ⟨_, c1, List.mem_map.mpr ⟨_, c2, ?_⟩⟩
  unfold carried
  rw [List.range_add, List.map_append]
  congr 1
  · refine List.map_congr_left fun a ha => ?_
    rw [List.map_map]
    have e : ((fun r : List Int => r.getD a 0) ∘ fun r : List Int => r.take ar) = fun r : List Int => r.getD a 0 := by
      funext r
      show (r.take ar).getD a 0 = _
      rw [List.getD_eq_getElem?_getD, List.getElem?_take, if_pos (List.mem_range.mp ha), List.getD_eq_getElem?_getD]
    rw [e]
  · rw [List.map_map]
    refine List.map_congr_left fun a ha => ?_
    rw [List.map_map]
    have e : ((fun r : List Int => r.getD a 0) ∘ fun r : List Int => r.drop ar) = fun r : List Int => r.getD (ar + a) 0 := by
      funext r
      show (r.drop ar).getD a 0 = _
      rw [List.getD_eq_getElem?_getD, List.getElem?_drop, List.getD_eq_getElem?_getD]
    rw [e]
    rfl
theorem shut_full {sz k ar : Nat} {tab : List Int} (hs : 1 ≤ sz) (hv : ∀ x ∈ tab, 0 ≤ x ∧ x < (sz : Int)) : Shut sz k tab ar (allRows sz ar) := fun t _ _ => mem_allRows (carried_len sz tab t ar) (carried_ok hv hs)
end MR

set_option Elab.async false
set_option linter.all false
namespace MR
open PySem PySem.Spec PyProof.Rows L2
abbrev Asc (l : List (List Int)) : Prop := l.Pairwise fun r q => HT.lexLt r q = true
theorem lex_same (x y : List Int) : ∀ r : List Int, HT.lexLt (r ++ x) (r ++ y) = HT.lexLt x y
  | [] => rfl
  | a :: r => by rw [List.cons_append, List.cons_append, HT.lexLt_cons, if_pos rfl, lex_same x y r]
theorem lex_app (x y : List Int) : ∀ {r q : List Int}, r.length = q.length → HT.lexLt r q = true → HT.lexLt (r ++ x) (q ++ y) = true
  | [], [], _, h => by
    rw [lex_irr] at h
    cases h
  | [], _ :: _, h, _ => by simp at h
  | _ :: _, [], h, _ => by simp at h
  | a :: r, b :: q, hl, h => by
    rw [HT.lexLt_cons] at h
    rw [List.cons_append, List.cons_append, HT.lexLt_cons]
    by_cases e : a = b
    · rw [if_pos e] at h ⊢
      exact lex_app x y (by simpa using hl) h
    · rw [if_neg e] at h ⊢
      exact h
theorem asc_flat {l : List (List Int)} {n : Nat} {f : List Int → List (List Int)} (hl : ∀ r ∈ l, r.length = n) (h : Asc l) (hf : ∀ r ∈ l, Asc (f r)) (hs : ∀ r ∈ l, ∀ x ∈ f r, ∃ y, x = r ++ y) : Asc (l.flatMap f) := by
  refine List.pairwise_flatMap.mpr ⟨hf, ?_⟩
  refine List.Pairwise.imp_of_mem (fun {a b} ha hb hab x hx y hy => ?_) h
  obtain ⟨x', rfl⟩ := hs a ha x hx
  obtain ⟨y', rfl⟩ := hs b hb y hy
  exact lex_app x' y' ((hl a ha).trans (hl b hb).symm) hab
theorem prod_asc {r1 r2 : List (List Int)} {n : Nat} (hl : ∀ r ∈ r1, r.length = n) (h1 : Asc r1) (h2 : Asc r2) : Asc (prod r1 r2) :=
  asc_flat hl h1 (fun r _ => List.pairwise_map.mpr (h2.imp fun {a b} h => by rw [lex_same]; exact h)) fun r _ x hx => by
    obtain ⟨y, _, rfl⟩ := List.mem_map.mp hx
    exact ⟨y, rfl⟩
theorem allRows_asc (sz : Nat) : ∀ n, Asc (allRows sz n)
  | 0 => List.pairwise_singleton _ _
  | n + 1 => asc_flat (n := n) (fun r hr => (allRows_ok hr).1) (allRows_asc sz n) (fun r _ => by
      refine List.pairwise_map.mpr ((List.pairwise_lt_range (n := sz)).imp fun {a b} h => ?_)
      rw [lex_same, HT.lexLt_cons, if_neg (by omega)]
      exact decide_eq_true (by omega)) fun r _ x hx => by
    obtain ⟨y, _, rfl⟩ := List.mem_map.mp hx
    exact ⟨_, rfl⟩
end MR

set_option Elab.async false
set_option linter.all false
namespace MR
theorem idx_at {sz k : Nat} (hs : 0 < sz) {as : List Int} (h : as.length = k) (hv : ∀ x ∈ as, 0 ≤ x ∧ x < (sz : Int)) : (idxI sz as).toNat < sz ^ k ∧ (allRows sz k)[(idxI sz as).toNat]? = some as := by
  obtain ⟨i, hi, e⟩ := List.mem_iff_getElem.mp (mem_allRows h hv)
  have e1 : (allRows sz k)[i]? = some as := by rw [List.getElem?_eq_getElem hi, e]
  have e2 := idx_row hs e1
  rw [e2, Int.toNat_natCast]
  rw [allRows_len] at hi
  exact ⟨hi, e1⟩
/-- a projection's table -/
def projT (sz k p : Nat) : List Int := (allRows sz k).map fun r => r.getD p 0
theorem projT_at {sz k p : Nat} (hs : 0 < sz) {as : List Int} (h : as.length = k) (hv : ∀ x ∈ as, 0 ≤ x ∧ x < (sz : Int)) : (projT sz k p).getD (idxI sz as).toNat 0 = as.getD p 0 := by
  unfold projT
  rw [List.getD_eq_getElem?_getD, List.getElem?_map, (idx_at hs h hv).2]
  rfl
theorem projT_len (sz k p : Nat) : (projT sz k p).length = sz ^ k := by
  unfold projT
  rw [List.length_map, allRows_len]
theorem projT_val {sz k p : Nat} (hs : 0 < sz) : ∀ x ∈ projT sz k p, 0 ≤ x ∧ x < (sz : Int) := fun x hx => by
  obtain ⟨r, hr, rfl⟩ := List.mem_map.mp hx
  exact getD_ok (fun y hy => (allRows_ok hr).2 y hy) (by omega) p
theorem ext_getD {l m : List Int} (hl : l.length = m.length) (h : ∀ a, a < m.length → l.getD a 0 = m.getD a 0) : l = m := List.ext_getElem hl fun i h1 h2 => by
  have e := h i h2
  rw [List.getD_eq_getElem?_getD, List.getElem?_eq_getElem h1, List.getD_eq_getElem?_getD, List.getElem?_eq_getElem h2] at e
  exact e
theorem shut_proj {sz k p ar : Nat} {rows : List (List Int)} (hs : 0 < sz) (hp : p < k) (hr : ∀ r ∈ rows, r.length = ar ∧ ∀ x ∈ r, 0 ≤ x ∧ x < (sz : Int)) : Shut sz k (projT sz k p) ar rows := fun t tl tr => by
  have ep : p < t.length := by omega
  have e : carried sz (projT sz k p) t ar = t[p] := by
    have hl := (hr _ (tr _ (List.getElem_mem ep))).1
    refine ext_getD (by rw [carried_len, hl]) fun a h2 => ?_
    rw [carried_getD (by omega), projT_at hs (by rw [List.length_map]; exact tl) fun x hx => ?_]
    · rw [List.getD_eq_getElem?_getD, List.getElem?_map, List.getElem?_eq_getElem ep]
      rfl
    · obtain ⟨r, hr', rfl⟩ := List.mem_map.mp hx
      exact getD_ok (hr r (tr r hr')).2 (by omega) a
  rw [e]
  exact tr _ (List.getElem_mem ep)
theorem shut_comp {sz k m ar : Nat} {tab : List Int} {ts : List (List Int)} {rows : List (List Int)} (hs : 0 < sz) (hr : ∀ r ∈ rows, r.length = ar ∧ ∀ x ∈ r, 0 ≤ x ∧ x < (sz : Int)) (h : Shut sz k tab ar rows) (hl : ts.length = k) (hts : ∀ t ∈ ts, Shut sz m t ar rows) : Shut sz m (carried sz tab ts (sz ^ m)) ar rows := fun q ql qr => by
  have h2 := h (ts.map fun t => carried sz t q ar) (by rw [List.length_map]; exact hl) fun r hr' => by
    obtain ⟨t, ht, rfl⟩ := List.mem_map.mp hr'
    exact hts t ht q ql qr
  have e : carried sz (carried sz tab ts (sz ^ m)) q ar = carried sz tab (ts.map fun t => carried sz t q ar) ar := by
    unfold carried
    refine List.map_congr_left fun a ha => ?_
    have ha := List.mem_range.mp ha
    have hv : ∀ x ∈ q.map (fun r => r.getD a 0), 0 ≤ x ∧ x < (sz : Int) := fun x hx => by
      obtain ⟨r, hr', rfl⟩ := List.mem_map.mp hx
      exact getD_ok (hr r (qr r hr')).2 (by omega) a
    have hi := (idx_at hs (k := m) (as := q.map fun r => r.getD a 0) (by rw [List.length_map]; exact ql) hv).1
    have e1 := carried_getD (sz := sz) (tab := tab) (t := ts) hi
    unfold carried at e1
    rw [e1, List.map_map]
    have e2 : (ts.map fun t => t.getD (idxI sz (q.map fun r => r.getD a 0)).toNat 0) = ts.map ((fun r : List Int => r.getD a 0) ∘ fun t => (List.range ar).map fun a => t.getD (idxI sz (q.map fun r => r.getD a 0)).toNat 0) :=
      List.map_congr_left fun t _ => (carried_getD (sz := sz) (tab := t) (t := q) ha).symm
    rw [e2]
  rw [e]
  exact h2
theorem shut_of_none {sz k ar : Nat} {tab : List Int} {rows : List (List Int)} (h : breakOf sz tab k ar rows = none) : Shut sz k tab ar rows := fun t tl tr => by
  unfold breakOf at h
  have := List.find?_eq_none.mp h t (tuples_mem tl tr)
  exact Decidable.byContradiction fun z => this (decide_eq_true z)
end MR

set_option Elab.async false
set_option linter.all false
namespace MR
theorem zipW_range {f : Int → Int → Int} {a b : List Int} {n : Nat} (ha : a.length = n) (hb : b.length = n) : List.zipWith f a b = (List.range n).map fun i => f (a.getD i 0) (b.getD i 0) := by
  refine List.ext_getElem? fun i => ?_
  rw [List.getElem?_zipWith, List.getElem?_map]
  by_cases hi : i < n
  · have h1 : i < a.length := by omega
    have h2 : i < b.length := by omega
    have e1 : a.getD i 0 = a[i] := by
      rw [List.getD_eq_getElem?_getD, List.getElem?_eq_getElem h1]
      rfl
    have e2 : b.getD i 0 = b[i] := by
      rw [List.getD_eq_getElem?_getD, List.getElem?_eq_getElem h2]
      rfl
    rw [List.getElem?_range hi, List.getElem?_eq_getElem h1, List.getElem?_eq_getElem h2]
    show some (f a[i] b[i]) = some (f (a.getD i 0) (b.getD i 0))
    rw [e1, e2]
  · rw [List.getElem?_eq_none (l := a) (by omega), List.getElem?_eq_none (l := List.range n) (by rw [List.length_range]; omega)]
    rfl
theorem findSome_none {α β : Type} {f : α → Option β} {l : List α} (h : ∀ (j : Nat) x, l[j]? = some x → f x = none) : l.findSome? f = none :=
  List.findSome?_eq_none_iff.mpr fun x hx => by
    obtain ⟨j, hj, e⟩ := List.mem_iff_getElem.mp hx
    exact h j x (by rw [List.getElem?_eq_getElem hj, e])
theorem findSome_at {α β : Type} {f : α → Option β} : ∀ {l : List α} {i : Nat} {x : α} {y : β}, l[i]? = some x → f x = some y → (∀ (j : Nat) z, j < i → l[j]? = some z → f z = none) → l.findSome? f = some y
  | [], i, x, y, h, _, _ => by simp at h
  | a :: l, 0, x, y, h, e, _ => by
    cases h
    rw [List.findSome?_cons, e]
  | a :: l, i + 1, x, y, h, e, k => by
    rw [List.findSome?_cons, k 0 a (Nat.zero_lt_succ _) rfl]
    exact findSome_at h e fun j z hj hz => k (j + 1) z (Nat.succ_lt_succ hj) hz
end MR

set_option Elab.async false
set_option linter.all false
namespace MR
def z0 (ar : Nat) : List Int := (List.range ar).map fun _ => 0
theorem z0_len (ar : Nat) : (z0 ar).length = ar := by unfold z0; rw [List.length_map, List.length_range]
theorem finalSt_nil (S : List (List (List Int))) (st : List Int) : finalSt S st [] = st := by cases S <;> rfl
theorem finalSt_snoc {r : List Int} : ∀ {S : List (List (List Int))} {st : List Int} {t : List (List Int)}, t.length < S.length → finalSt S st (t ++ [r]) = stepSt (S.getD t.length []) (finalSt S st t) r
  | [], _, t, h => by simp at h
  | L :: S, st, [], _ => by
    show finalSt S (stepSt L st r) [] = _
    rw [finalSt_nil]
    rfl
  | L :: S, st, q :: t, h => by
    show finalSt S (stepSt L st q) (t ++ [r]) = _
    rw [finalSt_snoc (by simpa using h)]
    rfl
theorem final_carried {sz k ar : Nat} {tab : List Int} {t : List (List Int)} (hs : 1 ≤ sz) (hk : 1 ≤ k) (ht : tab.length = sz ^ k) (h1 : t.length = k) (hr : ∀ r ∈ t, r.length = ar ∧ ∀ x ∈ r, 0 ≤ x ∧ x < (sz : Int)) : finalSt (stepsFrom sz k [tab]) (z0 ar) t = carried sz tab t ar := by
  obtain ⟨m, rfl⟩ : ∃ m, k = m + 1 := ⟨k - 1, by omega⟩
  unfold z0
  rw [finalSt_range (fun r q => (hr r q).1) (by rw [h1, stepsFrom_len])]
  unfold carried
  refine List.map_congr_left fun a ha => ?_
  have ha := List.mem_range.mp ha
  rw [walk_steps hs (fun r q => by rw [List.mem_singleton.mp q, ht]) (by simp) (by rw [List.length_map, h1]) fun x hx => ?_]
  · rfl
  · obtain ⟨r, hr', rfl⟩ := List.mem_map.mp hx
    obtain ⟨e1, e2⟩ := hr r hr'
    rw [List.getD_eq_getElem?_getD, List.getElem?_eq_getElem (show a < r.length by omega)]
    exact e2 _ (List.getElem_mem _)
theorem okS_row {sz : Nat} : ∀ {S : List (List (List Int))} {wd l : Nat}, okS sz S wd → l < S.length → ∀ row ∈ S.getD l [], row.length = sz
  | [], _, _, _, h => by simp at h
  | L :: S, wd, 0, h, _ => h.2.1
  | L :: S, wd, l + 1, h, hl => by
    obtain ⟨_, _, w', _, h'⟩ := h
    exact okS_row (S := S) (l := l) h' (by simpa using hl)
/-- a state that is reached stands within the step that comes -/
theorem fin_ok {sz ar : Nat} : ∀ {S : List (List (List Int))} {st : List Int} {t : List (List Int)} {wd : Nat}, okS sz S wd → (∀ n ∈ st, S ≠ [] → 0 ≤ n ∧ n < (wd : Int)) → st.length = ar → (∀ r ∈ t, r.length = ar ∧ ∀ x ∈ r, 0 ≤ x ∧ x < (sz : Int)) → t.length < S.length →
    (finalSt S st t).length = ar ∧ ∀ n ∈ finalSt S st t, 0 ≤ n ∧ n < ((S.getD t.length []).length : Int)
  | [], _, t, _, _, _, _, _, h => by simp at h
  | L :: S, st, [], wd, h, hst, hl, _, _ => by
    refine ⟨hl, fun n hn => ?_⟩
    have := hst n hn (by simp)
    show 0 ≤ n ∧ n < (L.length : Int)
    rw [h.1]
    exact this
  | L :: S, st, r :: t, wd, h, hst, hl, hr, hlt => by
    obtain ⟨hw, hrow, w', hb, h'⟩ := h
    obtain ⟨rl, rv⟩ := hr r List.mem_cons_self
    have e : stepSt L st r = (List.range ar).map fun c => at3 L (st.getD c 0) (r.getD c 0) := zipW_range hl rl
    refine fin_ok (S := S) (t := t) h' (fun n hn hne => ?_) (by rw [e, List.length_map, List.length_range]) (fun q hq => hr q (List.mem_cons_of_mem _ hq)) (by simpa using hlt)
    rw [e] at hn
    obtain ⟨c, hc, rfl⟩ := List.mem_map.mp hn
    have hc := List.mem_range.mp hc
    have hcs : c < st.length := by omega
    have hcr : c < r.length := by omega
    have e1 : st.getD c 0 = st[c] := by
      rw [List.getD_eq_getElem?_getD, List.getElem?_eq_getElem hcs]
      rfl
    have e2 : r.getD c 0 = r[c] := by
      rw [List.getD_eq_getElem?_getD, List.getElem?_eq_getElem hcr]
      rfl
    obtain ⟨hn0, hn1⟩ := hst st[c] (List.getElem_mem hcs) (by simp)
    obtain ⟨hz0, hz1⟩ := rv r[c] (List.getElem_mem hcr)
    rw [e1, e2]
    have hnL : st[c].toNat < L.length := by omega
    have hm : L.getD st[c].toNat [] ∈ L := by
      rw [List.getD_eq_getElem?_getD, List.getElem?_eq_getElem hnL]
      exact List.getElem_mem hnL
    have hl2 := hrow _ hm
    have hzl : r[c].toNat < (L.getD st[c].toNat []).length := by omega
    refine hb _ hm _ ?_ hne
    unfold at3
    rw [List.getD_eq_getElem?_getD (l := L.getD st[c].toNat []), List.getElem?_eq_getElem hzl]
    exact List.getElem_mem hzl
/-! what a closing holds: rows, and states level by level -/
structure Cf where
  R : List (List Int)
  Ss : List (List (List Int))
def tgt (k l : Nat) (c : Cf) : List (List Int) := if l + 1 = k then c.R else c.Ss.getD (l + 1) []
def putC (k l : Nat) (z : List Int) (c : Cf) : Cf := if l + 1 = k then ⟨addK c.R z, c.Ss⟩ else ⟨c.R, c.Ss.set (l + 1) (addK (c.Ss.getD (l + 1) []) z)⟩
def Ext (c c' : Cf) : Prop := c.R <+: c'.R ∧ c'.Ss.length = c.Ss.length ∧ ∀ j, c.Ss.getD j [] <+: c'.Ss.getD j []
theorem Ext.refl (c : Cf) : Ext c c := ⟨List.prefix_refl _, rfl, fun _ => List.prefix_refl _⟩
theorem Ext.trans {a b c : Cf} (h : Ext a b) (q : Ext b c) : Ext a c := ⟨h.1.trans q.1, q.2.1.trans h.2.1, fun j => (h.2.2 j).trans (q.2.2 j)⟩
theorem pre_addK (ks : List (List Int)) (z : List Int) : ks <+: addK ks z := by
  unfold addK
  split
  · exact List.prefix_refl _
  · exact List.prefix_append _ _
theorem getD_set {α : Type} {l : List α} {i j : Nat} {x d : α} (h : i < l.length) : (l.set i x).getD j d = if i = j then x else l.getD j d := by
  rw [List.getD_eq_getElem?_getD, List.getD_eq_getElem?_getD, List.getElem?_set]
  by_cases e : i = j
  · rw [if_pos e, if_pos e, if_pos (by omega)]
    rfl
  · rw [if_neg e, if_neg e]
theorem ext_put {k l : Nat} {z : List Int} {c : Cf} (hl : l < k) (hc : c.Ss.length = k) : Ext c (putC k l z c) := by
  unfold putC
  split
  · exact ⟨pre_addK _ _, rfl, fun _ => List.prefix_refl _⟩
  · rename_i h
    refine ⟨List.prefix_refl _, by rw [List.length_set], fun j => ?_⟩
    show _ <+: (c.Ss.set (l + 1) _).getD j []
    rw [getD_set (by omega)]
    by_cases e : l + 1 = j
    · rw [if_pos e, ← e]
      exact pre_addK _ _
    · rw [if_neg e]
      exact List.prefix_refl _
theorem mem_put {k l : Nat} {z : List Int} {c : Cf} (hl : l < k) (hc : c.Ss.length = k) : z ∈ tgt k l (putC k l z c) := by
  unfold putC tgt
  by_cases h : l + 1 = k
  · rw [if_pos h, if_pos h]
    exact mem_addK.mpr (.inr rfl)
  · rw [if_neg h, if_neg h]
    show z ∈ (c.Ss.set (l + 1) _).getD (l + 1) []
    rw [getD_set (by omega), if_pos rfl]
    exact mem_addK.mpr (.inr rfl)
theorem same_put {k l j : Nat} {z : List Int} {c : Cf} (hl : l < k) (hc : c.Ss.length = k) (h : j ≠ l + 1) : (putC k l z c).Ss.getD j [] = c.Ss.getD j [] := by
  unfold putC
  by_cases e : l + 1 = k
  · rw [if_pos e]
  · rw [if_neg e]
    show (c.Ss.set (l + 1) _).getD j [] = _
    rw [getD_set (by omega), if_neg (Ne.symm h)]
theorem Ext.tgt {k l : Nat} {c c' : Cf} (h : Ext c c') {z : List Int} (hz : z ∈ tgt k l c) : z ∈ tgt k l c' := by
  unfold MR.tgt at hz ⊢
  split at hz
  · rename_i e
    rw [if_pos e]
    exact h.1.subset hz
  · rename_i e
    rw [if_neg e]
    exact (h.2.2 _).subset hz
structure Snd (sz k ar : Nat) (tab : List Int) (rows : List (List Int)) (c : Cf) : Prop where
  len : c.Ss.length = k
  st : ∀ l, l < k → ∀ s ∈ c.Ss.getD l [], ∃ t : List (List Int), t.length = l ∧ (∀ r ∈ t, r ∈ c.R) ∧ s = finalSt (stepsFrom sz k [tab]) (z0 ar) t
  nd : ∀ l, (c.Ss.getD l []).Nodup
  ndR : c.R.Nodup
  ok : ∀ r ∈ c.R, (r.length = ar ∧ ∀ x ∈ r, 0 ≤ x ∧ x < (sz : Int)) ∧ ∀ X, Over sz k tab ar rows X → r ∈ X
theorem steps_len {sz k : Nat} {R : List (List Int)} (hk : 1 ≤ k) : (stepsFrom sz k R).length = k := by
  obtain ⟨m, rfl⟩ : ∃ m, k = m + 1 := ⟨k - 1, by omega⟩
  exact stepsFrom_len
theorem Snd.put {sz k ar l : Nat} {tab : List Int} {rows : List (List Int)} {c : Cf} (h : Snd sz k ar tab rows c) (hs : 1 ≤ sz) (hk : 1 ≤ k) (ht : tab.length = sz ^ k) (hv : ∀ x ∈ tab, 0 ≤ x ∧ x < (sz : Int)) (hl : l < k) {s r : List Int} (hss : s ∈ c.Ss.getD l []) (hr : r ∈ c.R) :
    Snd sz k ar tab rows (putC k l (stepSt ((stepsFrom sz k [tab]).getD l []) s r) c) := by
  obtain ⟨t, tl, tr, es⟩ := h.st l hl s hss
  have ez : stepSt ((stepsFrom sz k [tab]).getD l []) s r = finalSt (stepsFrom sz k [tab]) (z0 ar) (t ++ [r]) := by
    rw [finalSt_snoc (by rw [steps_len hk]; omega), tl, es]
  have tr' : ∀ q ∈ t ++ [r], q ∈ c.R := fun q hq => (List.mem_append.mp hq).elim (tr q) fun z => by rw [List.mem_singleton.mp z]; exact hr
  generalize stepSt ((stepsFrom sz k [tab]).getD l []) s r = z at ez
  unfold putC
  by_cases e : l + 1 = k
  · rw [if_pos e]
    have hlen : (t ++ [r]).length = k := by rw [List.length_append, tl]; exact e
    have ec : z = carried sz tab (t ++ [r]) ar := by rw [ez, final_carried hs hk ht hlen fun q hq => (h.ok q (tr' q hq)).1]
    refine ⟨h.len, fun j hj s' hs' => ?_, h.nd, nodup_addK h.ndR, fun q hq => ?_⟩
    · obtain ⟨t', a, b, d⟩ := h.st j hj s' hs'
      exact ⟨t', a, fun q hq => mem_addK.mpr (.inl (b q hq)), d⟩
    · rcases mem_addK.mp hq with hq | rfl
      · exact h.ok q hq
      · rw [ec]
        exact ⟨⟨carried_len .., carried_ok hv hs⟩, fun X o => o.2 _ hlen fun q hq => (h.ok q (tr' q hq)).2 X o⟩
  · rw [if_neg e]
    have g : ∀ j, (c.Ss.set (l + 1) (addK (c.Ss.getD (l + 1) []) z)).getD j [] = if l + 1 = j then addK (c.Ss.getD (l + 1) []) z else c.Ss.getD j [] := fun j => getD_set (by rw [h.len]; omega)
    refine ⟨by rw [List.length_set]; exact h.len, fun j hj s' hs' => ?_, fun j => ?_, h.ndR, h.ok⟩
    · replace hs' : s' ∈ (c.Ss.set (l + 1) (addK (c.Ss.getD (l + 1) []) z)).getD j [] := hs'
      rw [g j] at hs'
      by_cases ej : l + 1 = j
      · rw [if_pos ej] at hs'
        rcases mem_addK.mp hs' with hs' | rfl
        · rw [ej] at hs'
          exact h.st j hj s' hs'
        · exact ⟨t ++ [r], by rw [List.length_append, tl]; exact ej, tr', ez⟩
      · rw [if_neg ej] at hs'
        exact h.st j hj s' hs'
    · show ((c.Ss.set (l + 1) (addK (c.Ss.getD (l + 1) []) z)).getD j []).Nodup
      rw [g j]
      split
      · exact nodup_addK (h.nd _)
      · exact h.nd _
theorem Snd.wide {sz k ar l : Nat} {tab : List Int} {rows : List (List Int)} {c : Cf} (h : Snd sz k ar tab rows c) (hk : 1 ≤ k) (hl : l < k) {s : List Int} (hss : s ∈ c.Ss.getD l []) :
    s.length = ar ∧ ∀ n ∈ s, 0 ≤ n ∧ n < (((stepsFrom sz k [tab]).getD l []).length : Int) := by
  obtain ⟨t, tl, tr, es⟩ := h.st l hl s hss
  obtain ⟨m, rfl⟩ : ∃ m, k = m + 1 := ⟨k - 1, by omega⟩
  have := fin_ok (sz := sz) (ar := ar) (t := t) (okS_steps (m := m) [tab]) (st := z0 ar) (fun n hn _ => by
    obtain ⟨_, _, rfl⟩ := List.mem_map.mp hn
    simp) (z0_len ar) (fun r hr => (h.ok r (tr r hr)).1) (by rw [tl, stepsFrom_len]; exact hl)
  rw [tl, ← es] at this
  exact this
theorem Snd.few {sz k ar : Nat} {tab : List Int} {rows : List (List Int)} {c : Cf} (h : Snd sz k ar tab rows c) : c.R.length ≤ sz ^ ar := by
  have := len_le_of_sub h.ndR fun r hr => mem_allRows (h.ok r hr).1.1 (h.ok r hr).1.2
  rwa [allRows_len] at this
theorem Snd.fewS {sz k ar l : Nat} {tab : List Int} {rows : List (List Int)} {c : Cf} (h : Snd sz k ar tab rows c) (hl : l < k) : (c.Ss.getD l []).length ≤ c.R.length ^ l := by
  have := len_le_of_sub (h.nd l) (m := (tuples c.R l).map fun t => finalSt (stepsFrom sz k [tab]) (z0 ar) t) fun s hs => by
    obtain ⟨t, tl, tr, es⟩ := h.st l hl s hs
    exact List.mem_map.mpr ⟨t, tuples_mem tl tr, es.symm⟩
  rwa [List.length_map, tuples_len] at this
/-- every state with each of the first n rows has its step -/
def Done (S : List (List (List Int))) (k l : Nat) (s : List Int) (n : Nat) (c : Cf) : Prop := ∀ (i : Nat) r, i < n → c.R[i]? = some r → stepSt (S.getD l []) s r ∈ tgt k l c
theorem Done.ext {S : List (List (List Int))} {k l : Nat} {s : List Int} {n : Nat} {c c' : Cf} (h : Done S k l s n c) (e : Ext c c') (hn : n ≤ c.R.length) : Done S k l s n c' := fun i r hi hr => by
  refine e.tgt (h i r hi ?_)
  have hil : i < c.R.length := by omega
  obtain ⟨u, hu⟩ := e.1
  rw [← hu, List.getElem?_append_left hil] at hr
  exact hr
theorem shut_done {sz k ar : Nat} {tab : List Int} {rows : List (List Int)} {c : Cf} (h : Snd sz k ar tab rows c) (hs : 1 ≤ sz) (hk : 1 ≤ k) (ht : tab.length = sz ^ k) (hz : z0 ar ∈ c.Ss.getD 0 [])
    (hd : ∀ l, l < k → ∀ s ∈ c.Ss.getD l [], Done (stepsFrom sz k [tab]) k l s c.R.length c) : Shut sz k tab ar c.R := fun t tl tr => by
  rw [← final_carried hs hk ht tl fun r hr => (h.ok r (tr r hr)).1]
  have key : ∀ j, j ≤ k → finalSt (stepsFrom sz k [tab]) (z0 ar) (t.take j) ∈ if j = k then c.R else c.Ss.getD j [] := by
    intro j
    induction j with
    | zero =>
      intro _
      rw [if_neg (by omega), List.take_zero, finalSt_nil]
      exact hz
    | succ j ih =>
      intro hj
      have hj' : j < k := by omega
      have i := ih (by omega)
      rw [if_neg (by omega)] at i
      have hjt : j < t.length := by omega
      have et : t[j]? = some t[j] := List.getElem?_eq_getElem hjt
      rw [List.take_add_one, et]
      show finalSt _ _ (t.take j ++ [t[j]]) ∈ _
      have tlj : (t.take j).length = j := by rw [List.length_take]; omega
      rw [finalSt_snoc (by rw [tlj, steps_len hk]; exact hj'), tlj]
      obtain ⟨n, hn, e⟩ := List.mem_iff_getElem.mp (tr _ (List.getElem_mem hjt))
      have := hd j hj' _ i n t[j] hn (by rw [List.getElem?_eq_getElem hn, e])
      unfold MR.tgt at this
      exact this
  have := key k (Nat.le_refl _)
  rw [if_pos rfl, List.take_of_length_le (by omega)] at this
  exact this
theorem shut_most {sz k ar : Nat} {tab : List Int} {rows : List (List Int)} {c : Cf} (h : Snd sz k ar tab rows c) (hs : 1 ≤ sz) (hv : ∀ x ∈ tab, 0 ≤ x ∧ x < (sz : Int)) (hl : sz ^ ar ≤ c.R.length) : Shut sz k tab ar c.R := fun t _ _ =>
  all_of_len h.ndR (fun r hr => mem_allRows (h.ok r hr).1.1 (h.ok r hr).1.2) (by rw [allRows_len]; exact hl) _ (mem_allRows (carried_len sz tab t ar) (carried_ok hv hs))
end MR

set_option Elab.async false
set_option linter.all false
set_option maxRecDepth 100000
set_option maxHeartbeats 4000000
/-! {k: v for x in walk}, the keys tuples: the walk of the library's rule for other keys, the store any -/
namespace SD
open PySem PySem.W PySem.Calls PyProof.Rows PyProof.V PySem.Spec L2
/-- how a new dict stands, and what a store into it asks -/
structure DStore (X : Cx) (O : HO) (st : Addr → V → V → Hp → (Hp → Prop) → Prop) : Prop where
  new : ∀ (H : Hp) (h : Heap), sysModules < h.objs.size → ObjOk X.prog X.w H (h.push { cls := .type "dict", data := .dict #[] }) h.objs.size O
  set : ∀ (X' : Cx) (pins : List (Addr × Obj)) (σ : L2.St) (H : Hp) (s : Shared) (E : Value → Shared → Prop) (D : Addr) (y z : V) (u r : Value) (R : Hp → Prop), X'.prog = X.prog → X'.w = X.w → X'.A = X.A → Inv X' pins σ H s → RelV y u → RelV z r → st D y z H R →
    wpAny (model X.prog X.w) X.A (dictSet D u r) (fun _ s' => ∃ H', Inv X' pins σ H' s' ∧ R H') E s
section
variable {X : Cx}
def tDg (O : HO) (st : Addr → V → V → Hp → (Hp → Prop) → Prop) (wi : TI) (g : TG) (tt : L2.TT) (tk tv : TE) (vs : List Nat) : TE := fun σ H Q => wi σ H fun J H1 => ∀ D, H1 D = none → ∃ W : Nat → Nat → Hp → Prop, (∃ m, W 0 m (upd H1 D O)) ∧ ∀ i m H, W i m H →
  (J.stop i H ∧ Q (.ref D) H) ∨ (J.go i H ∧ ∃ N : Hp → Prop, (∀ H', N H' → ∃ m', m' < m ∧ W (i + 1) m' H') ∧ ∀ x H', J.yld i H x H' → g x (wipe σ vs) H' fun σ2 H2 => wipe σ2 vs = wipe σ vs ∧ tt σ2 H2 fun b H3 =>
    if b = true then tk σ2 H3 fun y H4 => tv σ2 H4 fun z H5 => st D y z H5 N else N H3)
abbrev blkEnv (scope : Scope) (b : Addr) (e : Env) : Env := compEnvC scope (cellsFrom (b + 1) scope.names (cloFrom e.cells scope.names [])) b e
theorem dg_core {O : HO} {st : Addr → V → V → Hp → (Hp → Prop) → Prop} (dO : DStore X O st) {pins : List (Addr × Obj)} {s : Shared} {σ : L2.St} {H : Hp} {Q : VK} {kx vx tg iter : Expr} {ifs : List Expr} {scope : Scope} {own : List (Str × Nat)} {pos pos' : Pos} {wi : TI} {g : TG} {tt : L2.TT} {tk tv : TE} {use : Option (Value → Sem Unit)} {Qf : Value → Shared → Prop}
    (hc : X.calm = true) (hN : X.N.Nodup) (I : Inv X pins σ H s) (hi : PI X tg iter wi) (ok : BlkOk X.N X.env.scope scope own)
    (hg : ∀ s H b fp, PG (X.blk s H scope (blkEnv scope b X.env) fp) tg g) (ht : ∀ s H b fp, PTs (X.blk s H scope (blkEnv scope b X.env) fp) ifs tt) (hk : ∀ s H b fp, PE (X.blk s H scope (blkEnv scope b X.env) fp) kx tk) (he : ∀ s H b fp, PE (X.blk s H scope (blkEnv scope b X.env) fp) vx tv)
    (hs : ∀ x, foldedSetIterable iter X.env x = pure x) (h : tDg O st wi g tt tk tv (own.map (·.2)) σ H Q)
    (hR : ∀ D C s' m H', Inv X pins σ H' s' → Q (.ref D) H' → s'.heap.Ns C m → FpOk X pins H' C → compPost (model X.prog X.w) X.A X.xe use Qf (.ref D) C (.ok .next) s') :
    wpAny (model X.prog X.w) X.A (comprehension (.DictComp kx vx [⟨tg, iter, ifs, 0⟩] scope pos) scope X.env pos' newDict false (eval iter X.env) use) Qf X.xe s := by
  have free : ∀ y ∈ scope.names, y.2 = .free → ∃ c, X.env.cells.lookup y.1 = some c := fun y hy e => (ok.free y hy e).elim (fun k => I.ok.has _ (.inl k)) fun k => I.ok.has _ (.inr k)
  refine wpAny_comprehension_free (use := use) rfl hs (closure_ok free) ok.kind (fun y hy e => by rw [ok.uniq y hy, e]) (thn (hi.run pins s σ H _ I h) fun xv s1 hx => thn hx fun itv s2 h2 => ?_)
  obtain ⟨it, fp, tn, J, H2, rfl, I2, T, st2, f2, q⟩ := h2
  refine wpAny_newObj_type (newEnv_comp ?_)
  have hDn : H2 s2.heap.objs.size = none := I2.hok.fresh (Nat.le_refl _)
  obtain ⟨W, ⟨m0, w0⟩, turn⟩ := q _ hDn
  have lt2 : ∀ b ∈ fp, b < s2.heap.objs.size := fun b hb => let ⟨_, e, _⟩ := T.obj _ _ st2 b hb; Heap.lt_size e
  have up : ∀ b o, s2.heap.get? b = some o → (s2.heap.push ({ cls := .type "dict", data := .dict #[] } : Obj)).get? b = some o := fun b o e => Heap.get?_push_of_some _ e
  have I3 : Inv X pins σ (upd H2 s2.heap.objs.size O) { s2 with heap := s2.heap.push { cls := .type "dict", data := .dict #[] } } := I2.laid (t' := s2.toks) up (Nat.le_refl _) (dO.new _ s2.heap I2.big)
  have f3 : ∀ b ∈ fp, FpOk X pins (upd H2 s2.heap.objs.size O) b ∧ b < (s2.heap.push ({ cls := .type "dict", data := .dict #[] } : Obj)).objs.size := fun b hb =>
    ⟨⟨by rw [upd_ne (Nat.ne_of_lt (lt2 b hb))]; exact (f2 b hb).1, (f2 b hb).2⟩, by rw [Heap.size_push]; exact Nat.lt_succ_of_lt (lt2 b hb)⟩
  have st3 := T.keep _ _ _ st2 fun b _ o e => up b o e
  generalize eD : s2.heap.objs.size = D at *
  generalize e3 : ({ s2 with heap := s2.heap.push { cls := .type "dict", data := .dict #[] } } : Shared) = s3 at *
  have h3 : s2.heap.push { cls := .type "dict", data := .dict #[] } = s3.heap := by rw [← e3]
  rw [h3] at f3 st3
  generalize eH : upd H2 D O = H3 at *
  have I4 := block_start I3 ok hN f3
  have pg := hg s3 H3 s3.heap.objs.size fp
  have pt := ht s3 H3 s3.heap.objs.size fp
  have pk := hk s3 H3 s3.heap.objs.size fp
  have pe := he s3 H3 s3.heap.objs.size fp
  have nfp : ∀ b ∈ fp, H3 b = none := fun b hb => (f3 b hb).1.1
  show codeAny _ _ (.compStart (.DictComp kx vx [⟨tg, iter, ifs, 0⟩] scope pos) 0 (.ref it) (.ref D) (blkEnv scope s3.heap.objs.size X.env)) (compPost (model X.prog X.w) X.A X.xe use Qf (.ref D) s3.heap.objs.size) { s3 with heap := pushCells (s3.heap.push { cls := .type "dict", data := .dict #[] }) scope.names }
  have cL : (blkEnv scope s3.heap.objs.size X.env).locals = s3.heap.objs.size := rfl
  change Inv (X.blk s3 H3 scope (blkEnv scope s3.heap.objs.size X.env) fp) _ _ _ _ at I4
  generalize blkEnv scope s3.heap.objs.size X.env = ce at *
  have st4 := T.keep 0 _ (pushCells (s3.heap.push { cls := .type "dict", data := .dict #[] }) scope.names) st3 fun b _ o e => pushCells_keeps _ _ _ _ (Heap.get?_push_of_some _ e)
  generalize e4 : ({ s3 with heap := pushCells (s3.heap.push { cls := .type "dict", data := .dict #[] }) scope.names } : Shared) = s4 at *
  have h4 : pushCells (s3.heap.push { cls := .type "dict", data := .dict #[] }) scope.names = s4.heap := by rw [← e4]
  rw [h4] at st4
  have stat : ∀ {σ' : L2.St} {H' : Hp} {s' : Shared}, Inv (X.blk s3 H3 scope ce fp) [] σ' H' s' → (∀ b ∈ fp, H' b = none) → ∀ b ∈ fp, FpOk (X.blk s3 H3 scope ce fp) [] H' b := fun {σ' H' s'} J hn b hb =>
    ⟨hn b hb, (J.ok.exf b hb).1, J.ok.exfs b hb, .inl hb, fun x c e => (J.ok.exf b hb).2 x c e, fun p hp => absurd (show p ∈ ([] : List (Addr × Obj)) ++ [] from hp) (by simp)⟩
  suffices loop : codeAny (model X.prog X.w) X.A (.compLoop (.DictComp kx vx [⟨tg, iter, ifs, 0⟩] scope pos) 0 (.ref it) (.ref D) ce) (compPost (model X.prog X.w) X.A X.xe use Qf (.ref D) s3.heap.objs.size) s4 from codeAny_compStart_dict loop (T.self X.A 0 _ _ _ st4 loop)
  · refine compLoop_anyD (fun n s' => ∃ i H', Inv (X.blk s3 H3 scope ce fp) [] (wipe σ (own.map (·.2))) H' s' ∧ tn i s'.heap ∧ (∀ b ∈ fp, H' b = none) ∧ W i n H') ?_ m0 ⟨0, H3, I4, st4, nfp, w0⟩
    rintro n s5 ⟨i, H5, I5, st5, n5, w5⟩
    rcases turn i n H5 w5 with ⟨stop, qq⟩ | ⟨go, N, hNx, step⟩
    · refine thnF (T.done (X.blk s3 H3 scope ce fp) rfl rfl rfl hc i [] s5 _ H5 (fun _ _ => False) I5 (stat I5 n5) st5 stop) fun r s6 ⟨hr, I6⟩ => ?_
      subst hr
      have I7 : Inv X pins σ H5 s6 := I3.call' (ch := fp) I6.os I6.base I6.hok I6.bare fun b hb => ⟨(f3 b hb).1.2.2.2.1, (f3 b hb).1.2.1, (f3 b hb).1.2.2.2.2.1, (f3 b hb).1.2.2.2.2.2⟩
      have nC : H5 ce.locals = none := I6.free
      obtain ⟨m, hn, _⟩ := I6.loc
      have hn : s6.heap.Ns ce.locals m := hn
      rw [cL] at hn nC
      exact hR D s3.heap.objs.size s6 m H5 I7 qq hn (I3.fpOk (Nat.le_refl _) nC)
    · refine thnF (T.item (X.blk s3 H3 scope ce fp) rfl rfl rfl hc i [] s5 _ H5 (fun _ _ => False) I5 (stat I5 n5) st5 go) fun r s6 ⟨u, hr, h6⟩ => ?_
      subst hr
      refine thnF h6 fun _ s7 ⟨x, H7, I7, r7, y7, st7, n7⟩ => ?_
      have I7' := I7.pinned (stat I7 n7) (T.obj _ _ st7)
      refine thnF (pg.run _ s7 _ H7 x u _ I7' r7 (step x H7 y7)) fun _ s8 ⟨σ8, H8, I8, hw8, q8⟩ => thnF (pt.run _ s8 σ8 H8 _ I8 q8) fun b s9 ⟨H9, I9, q9⟩ => ?_
      have fin : ∀ {s' : Shared} {H' : Hp}, Inv (X.blk s3 H3 scope ce fp) ([] ++ pinsAt fp s7.heap) σ8 H' s' → N H' → ∃ m, m < n ∧ ∃ i H', Inv (X.blk s3 H3 scope ce fp) [] (wipe σ (own.map (·.2))) H' s' ∧ tn i s'.heap ∧ (∀ b ∈ fp, H' b = none) ∧ W i m H' := fun {s' H'} J nx => by
        obtain ⟨m', hm, w'⟩ := hNx H' nx
        have pin' : ∀ b ∈ fp, ∀ o, s7.heap.get? b = some o → s'.heap.get? b = some o ∧ H' b = none := fun b hb o e =>
          let z := J.pin (b, o) (List.mem_append_right _ (List.mem_append_right _ (mem_pinsAt hb e)))
          ⟨z.1, z.2.1⟩
        have hl : (wipe σ (own.map (·.2))).length = σ8.length := by rw [← hw8, wipe_length]
        refine ⟨m', hm, i + 1, H', (J.unpinned (pins := [])).weak hl (fun j v e => ?_), T.keep _ _ _ st7 fun b hb o e => (pin' b hb o e).1, fun b hb => ?_, w'⟩
        · rw [← hw8] at e
          exact (wipe_some e).1
        · obtain ⟨o, e, _⟩ := T.obj _ _ st7 b hb
          exact (pin' b hb o e).2
      cases b with
      | false =>
        simp only [Bool.false_eq_true, if_false] at q9 ⊢
        exact fin I9 q9
      | true =>
        simp only [if_true] at q9 ⊢
        refine thnF (pk.run _ s9 σ8 H9 _ I9 q9) fun z s10 ⟨yk, H10, I10, r10, q10⟩ => thnF (pe.run _ s10 σ8 H10 _ I10 q10) fun z2 s11 ⟨yv, H11, I11, r11, q11⟩ => ?_
        exact thnF (dO.set (X.blk s3 H3 scope ce fp) _ σ8 H11 s11 (fun _ _ => False) D yk yv z z2 N rfl rfl rfl I11 r10 r11 q11) fun _ s12 ⟨H12, I12, nx⟩ => fin I12 nx
theorem pe_dg {O : HO} {st : Addr → V → V → Hp → (Hp → Prop) → Prop} (dO : DStore X O st) {kx vx tg iter : Expr} {ifs : List Expr} {scope : Scope} {own : List (Str × Nat)} {pos : Pos} {wi : TI} {g : TG} {tt : L2.TT} {tk tv : TE} (hc : X.calm = true) (hN : X.N.Nodup) (hi : PI X tg iter wi) (ok : BlkOk X.N X.env.scope scope own)
    (hg : ∀ s H b fp, PG (X.blk s H scope (blkEnv scope b X.env) fp) tg g) (ht : ∀ s H b fp, PTs (X.blk s H scope (blkEnv scope b X.env) fp) ifs tt) (hk : ∀ s H b fp, PE (X.blk s H scope (blkEnv scope b X.env) fp) kx tk) (he : ∀ s H b fp, PE (X.blk s H scope (blkEnv scope b X.env) fp) vx tv)
    (hs : ∀ x, foldedSetIterable iter X.env x = pure x := by intro _; rfl) : PE X (.DictComp kx vx [⟨tg, iter, ifs, 0⟩] scope pos) (tDg O st wi g tt tk tv (own.map (·.2))) := by
  refine ⟨fun pins s σ H Q I h => ?_⟩
  rw [arm_eval_DictComp]
  refine dg_core dO hc hN I hi ok hg ht hk he hs h fun D C s' m H' J q hn f => ⟨m, hn, fun h'' sb => ?_⟩
  exact ⟨.ref D, H', J.turned (t' := s'.toks) (fun b o hb e => (sb.2 b hb).trans e) f.1 f.2.1 f.2.2.2.1 f.2.2.2.2.1 f.2.2.2.2.2, rfl, q⟩
/-- keys that are tuples -/
def stT : Addr → V → V → Hp → (Hp → Prop) → Prop := fun D y z H R => ∃ (kvs : List (List L2.Key × V)) (k : List L2.Key) (b : Addr), y = .ref b ∧ H b = some (.tup (k.map kV)) ∧ H D = some (.dT kvs) ∧ kvs.length < sizeLine ∧ R (upd H D (.dT (putK kvs k z)))
theorem dstoreT (hu : X.A.units < cLine) : DStore X (.dT []) stT where
  new := fun H h hb => dt_empty h hb
  set := by
    intro X' pins σ H s E D y z u r R hp hw hA I ry rz h
    obtain ⟨kvs, k, b, rfl, hb, hD, hl, hR⟩ := h
    rw [← hp, ← hw]
    rw [← hA] at hu
    rw [← hA]
    cases ry
    obtain ⟨z0, hd, xs, rel, dd⟩ := dt_of I.hok hD
    have hz : xs.length ≤ sizeLine := by rw [← Paired.length rel]; exact z0
    have hl2 : (putK kvs k z).length ≤ sizeLine := by have := length_putK kvs k z; omega
    refine wpAny_dictSet_heap (hsz := hz) (knd := tupleKind (mixKind X'.prog X'.w)) hu (key_of I.hok hb) dd fun h' dd' hs => ⟨_, ?_, hR⟩
    obtain ⟨q, es, ep, hq, h2, h3, h4, _, h5⟩ := dd'
    refine d_write I (by rw [hD]; exact True.intro) hs ⟨q, hq⟩ ⟨hl2, hd, _, (rel.put k hb rz).keeps fun c ys ec => ?_, q, es, ep, hq, h2, h3, h4, h5⟩
    rw [upd_ne (ne_of ec hD (fun z => nomatch z))]
    exact ec
/-- the comprehension over a tuple that stays -/
theorem dg_tup {K : PySem.W.Frag} {O : HO} {st : Addr → V → V → Hp → (Hp → Prop) → Prop} {a : Addr} {xs : List V} {g : TG} {tt : L2.TT} {tk tv : TE} {vs : List Nat} {σ : L2.St} {H1 : Hp} {D : Addr} {Qd : Hp → Prop} (Pv : Nat → Hp → Prop) (h0 : Pv 0 (upd H1 D O)) (hl : ∀ i H, i ≤ xs.length → Pv i H → SqT K H a xs)
    (hs : ∀ i x H, xs[i]? = some x → Pv i H → g x (wipe σ vs) H fun σ2 H2 => wipe σ2 vs = wipe σ vs ∧ tt σ2 H2 fun b H3 => if b = true then tk σ2 H3 fun y H4 => tv σ2 H4 fun z H5 => st D y z H5 (Pv (i + 1)) else Pv (i + 1) H3) (hd : ∀ H, Pv xs.length H → Qd H) :
    ∃ W : Nat → Nat → Hp → Prop, (∃ m, W 0 m (upd H1 D O)) ∧ ∀ i m H, W i m H →
      ((Itt K a).stop i H ∧ Qd H) ∨ ((Itt K a).go i H ∧ ∃ N : Hp → Prop, (∀ H', N H' → ∃ m', m' < m ∧ W (i + 1) m' H') ∧ ∀ x H', (Itt K a).yld i H x H' → g x (wipe σ vs) H' fun σ2 H2 => wipe σ2 vs = wipe σ vs ∧ tt σ2 H2 fun b H3 =>
        if b = true then tk σ2 H3 fun y H4 => tv σ2 H4 fun z H5 => st D y z H5 N else N H3) := by
  refine ⟨fun i m H => m = xs.length - i ∧ i ≤ xs.length ∧ Pv i H, ⟨xs.length, by simp, Nat.zero_le _, h0⟩, ?_⟩
  rintro i m H ⟨rfl, hi, p⟩
  have q := hl i H hi p
  by_cases h : i < xs.length
  · refine .inr ⟨⟨xs, xs[i], q, by simp [h]⟩, Pv (i + 1), fun H' p' => ⟨xs.length - (i + 1), by omega, rfl, h, p'⟩, fun x H' y => ?_⟩
    obtain ⟨rfl, y⟩ := y
    exact hs i x _ (y xs q) p
  · have e : i = xs.length := by omega
    subst e
    exact .inl ⟨⟨xs, q, Nat.le_refl _⟩, hd H p⟩
end
end SD

set_option Elab.async false
set_option linter.all false
set_option maxRecDepth 100000
set_option maxHeartbeats 4000000
namespace K35
open PySem PySem.Spec PyProof.Rows L2 TK MR
variable {P : Program} {w : World} {K : PySem.W.Frag} {mg : Str → Option Value} {base : Heap}
theorem at_last {xs : List V} {v : V} {n : Nat} (hn : xs.length = n + 1) (h : xs[n]? = some v) : atI xs (-1) = some v := by
  unfold atI ixN
  rw [hn, if_neg (by decide), if_pos (by omega)]
  have e : ((-1 : Int) + ((n + 1 : Nat) : Int)).toNat = n := by omega
  rw [e]
  exact h
theorem two_ne {H : Hp} {b d e : Addr} {o1 o2 : HO} (h1 : b ≠ e) (h2 : b ≠ d) : (upd (upd H d o1) e o2) b = H b := by rw [upd_ne h1, upd_ne h2]
/-- a closing as it stands between two calls; Hb: the heap ahead of it -/
structure CSt (K : PySem.W.Frag) (C : Addr) (Hb H : Hp) (x s ro kn ss : Addr) (kds sds : List Addr) (S : List (List (List Int))) (c : Cf) : Prop where
  hob : ∃ dx fs, H x = some (.ins C dx fs) ∧ fs.lookup ("steps" : Str) = some (.ref s) ∧ fs.lookup ("rows" : Str) = some (.ref ro) ∧ fs.lookup ("known" : Str) = some (.ref kn) ∧ fs.lookup ("states" : Str) = some (.ref ss) ∧
    fs.lookup ("keep" : Str) = none ∧ fs.lookup ("close" : Str) = none ∧ fs.lookup ("_use" : Str) = none ∧ fs.lookup ("_extend" : Str) = none
  hst : LLL Hb s S
  gb : Gr Hb H
  fr : ∀ b ∈ ro :: (kds ++ sds), Hb b = none
  hrw : LR K H ro c.R
  hkn : H kn = some (.lst (kds.map V.ref))
  hss : H ss = some (.lst (sds.map V.ref))
  nkn : kn ∉ ro :: sds
  nss : ss ∉ ro :: sds
  nrw : ro ∉ sds
  kl : kds.length = S.length + 1
  sl : sds.length = S.length
  knd : kds.Nodup
  snd : sds.Nodup
  hk : ∀ d ∈ kds, ∃ kvs, H d = some (.dT kvs)
  hkr : ∀ d, kds[S.length]? = some d → H d = some (.dT (kd c.R))
  hkd : ∀ (l : Nat) d, 1 ≤ l → l < S.length → kds[l]? = some d → H d = some (.dT (kd (c.Ss.getD l [])))
  hsd : ∀ (l : Nat) d, sds[l]? = some d → LR K H d (c.Ss.getD l [])
section
variable {C : Addr} {Hb H H' : Hp} {x s ro kn ss : Addr} {kds sds : List Addr} {S : List (List (List Int))} {c c' : Cf}
theorem CSt.lsts (h : CSt K C Hb H x s ro kn ss kds sds S c) {e : Addr} (he : e ∈ ro :: sds) : ∃ ws, H e = some (.lst ws) := by
  rcases List.mem_cons.mp he with rfl | he
  · obtain ⟨ws, a, _⟩ := h.hrw
    exact ⟨ws, a⟩
  · obtain ⟨l, hl, e2⟩ := List.mem_iff_getElem.mp he
    obtain ⟨ws, a, _⟩ := h.hsd l e (by rw [List.getElem?_eq_getElem hl, e2])
    exact ⟨ws, a⟩
/-- what is no dict and no list of it stands -/
theorem CSt.off (h : CSt K C Hb H x s ro kn ss kds sds S c) {b : Addr} {o : HO} (e : H b = some o) (h1 : ∀ kvs, o ≠ .dT kvs) (h2 : ∀ ws, o ≠ .lst ws) : b ∉ ro :: (kds ++ sds) := fun hb => by
  rcases List.mem_cons.mp hb with rfl | hb
  · obtain ⟨ws, a⟩ := h.lsts List.mem_cons_self
    rw [e] at a
    exact h2 _ (Option.some.inj a)
  · rcases List.mem_append.mp hb with hb | hb
    · obtain ⟨kvs, a⟩ := h.hk b hb
      rw [e] at a
      exact h1 _ (Option.some.inj a)
    · obtain ⟨ws, a⟩ := h.lsts (List.mem_cons_of_mem _ hb)
      rw [e] at a
      exact h2 _ (Option.some.inj a)
theorem CSt.dt (h : CSt K C Hb H x s ro kn ss kds sds S c) (g : Gx (ro :: (kds ++ sds)) H H') {v : V} {d : PyData} (hv : DT K H v d) : DT K H' v d :=
  DT.keep (fun a xs e => g.at (h.off e (fun _ z => by cases z) fun _ z => by cases z) e fun _ z => by cases z) hv
theorem CSt.gr (h : CSt K C Hb H x s ro kn ss kds sds S c) (g : Gr H H') : CSt K C Hb H' x s ro kn ss kds sds S c :=
  { h with
    hob := let ⟨dx, fs, a, q⟩ := h.hob; ⟨dx, fs, Gx.at g (by simp) a (fun _ z => by cases z), q⟩
    gb := h.gb.trans g
    hrw := LR.gr g h.hrw
    hkn := g.lst h.hkn
    hss := g.lst h.hss
    hk := fun d hd => let ⟨kvs, a⟩ := h.hk d hd; ⟨kvs, Gx.at g (by simp) a (fun _ z => by cases z)⟩
    hkr := fun d e => Gx.at g (by simp) (h.hkr d e) (fun _ z => by cases z)
    hkd := fun l d a b e => Gx.at g (by simp) (h.hkd l d a b e) (fun _ z => by cases z)
    hsd := fun l d e => LR.gr g (h.hsd l d e) }
/-- one dict and one list are written -/
theorem CSt.two (h : CSt K C Hb H x s ro kn ss kds sds S c) {d e : Addr} {kvs' : List (List Key × V)} {ws' : List V} (hd : d ∈ kds) (he : e ∈ ro :: sds)
    (a1 : LR K (upd (upd H d (.dT kvs')) e (.lst ws')) ro c'.R) (a2 : ∀ d', kds[S.length]? = some d' → (upd (upd H d (.dT kvs')) e (.lst ws')) d' = some (.dT (kd c'.R)))
    (a3 : ∀ (l : Nat) d', 1 ≤ l → l < S.length → kds[l]? = some d' → (upd (upd H d (.dT kvs')) e (.lst ws')) d' = some (.dT (kd (c'.Ss.getD l []))))
    (a4 : ∀ (l : Nat) d', sds[l]? = some d' → LR K (upd (upd H d (.dT kvs')) e (.lst ws')) d' (c'.Ss.getD l [])) :
    CSt K C Hb (upd (upd H d (.dT kvs')) e (.lst ws')) x s ro kn ss kds sds S c' ∧ Gx (ro :: (kds ++ sds)) H (upd (upd H d (.dT kvs')) e (.lst ws')) := by
  have dm : d ∈ ro :: (kds ++ sds) := List.mem_cons_of_mem _ (List.mem_append_left _ hd)
  have em : e ∈ ro :: (kds ++ sds) := by
    rcases List.mem_cons.mp he with z | z
    · exact List.mem_cons.mpr (.inl z)
    · exact List.mem_cons_of_mem _ (List.mem_append_right _ z)
  have g : Gx (ro :: (kds ++ sds)) H (upd (upd H d (.dT kvs')) e (.lst ws')) := (Gx.refl.wrS dm).wrS em
  obtain ⟨k0, hd0⟩ := h.hk d hd
  obtain ⟨w0, he0⟩ := h.lsts he
  have lne : ∀ b xs, H b = some (.lst xs) → b ∉ ro :: sds → (upd (upd H d (.dT kvs')) e (.lst ws')) b = some (.lst xs) := fun b xs eb hb => by
    refine (two_ne (fun z => ?_) (fun z => ?_)).trans eb
    · rw [z] at hb
      exact hb he
    · rw [z, hd0] at eb
      cases eb
  refine ⟨{ h with hob := ?_, gb := ?_, hrw := a1, hkn := lne _ _ h.hkn h.nkn, hss := lne _ _ h.hss h.nss, hk := fun d' hd' => ?_, hkr := a2, hkd := a3, hsd := a4 }, g⟩
  · obtain ⟨dx, fs, a, r⟩ := h.hob
    exact ⟨dx, fs, g.at (h.off a (fun _ z => by cases z) fun _ z => by cases z) a (fun _ z => by cases z), r⟩
  · exact fun b o hb eb => (h.gb b o hb eb).trans fun u e' => g b u (fun hm => by rw [h.fr b hm] at eb; cases eb) e'
  · obtain ⟨kvs, a⟩ := h.hk d' hd'
    have ne : d' ≠ e := fun z => by rw [z, he0] at a; cases a
    rw [upd_ne ne]
    by_cases z : d' = d
    · exact ⟨kvs', by rw [z, upd_same]⟩
    · exact ⟨kvs, by rw [upd_ne z]; exact a⟩
theorem CSt.tups (h : CSt K C Hb H x s ro kn ss kds sds S c) {d e : Addr} {kvs' : List (List Key × V)} {ws' : List V} (hd : d ∈ kds) (he : e ∈ ro :: sds) : ∀ a xs, H a = some (.tup xs) → (upd (upd H d (.dT kvs')) e (.lst ws')) a = some (.tup xs) := fun a xs ea => by
  obtain ⟨k0, hd0⟩ := h.hk d hd
  obtain ⟨w0, he0⟩ := h.lsts he
  refine (two_ne (fun z => ?_) (fun z => ?_)).trans ea
  · rw [z, he0] at ea
    cases ea
  · rw [z, hd0] at ea
    cases ea
theorem nodup_at {l : List Addr} (h : l.Nodup) {i j : Nat} {a : Addr} (hi : l[i]? = some a) (hj : l[j]? = some a) : i = j := by
  obtain ⟨i1, i2⟩ := List.getElem?_eq_some_iff.mp hi
  obtain ⟨j1, j2⟩ := List.getElem?_eq_some_iff.mp hj
  exact (List.getElem_inj h).mp (i2.trans j2.symm)
theorem CSt.addR (h : CSt K C Hb H x s ro kn ss kds sds S c) {d : Addr} {ws : List V} {v : V} {r : List Int} (hd : kds[S.length]? = some d) (hw : H ro = some (.lst ws)) (hws : DTs K H ws (c.R.map rowD)) (hv : DT K H v (rowD r)) :
    CSt K C Hb (upd (upd H d (.dT (kd (c.R ++ [r])))) ro (.lst (ws ++ [v]))) x s ro kn ss kds sds S ⟨c.R ++ [r], c.Ss⟩ ∧ Gx (ro :: (kds ++ sds)) H (upd (upd H d (.dT (kd (c.R ++ [r])))) ro (.lst (ws ++ [v]))) := by
  have dm := List.mem_of_getElem? hd
  have em : ro ∈ ro :: sds := List.mem_cons_self
  have tk := h.tups (kvs' := kd (c.R ++ [r])) (ws' := ws ++ [v]) dm em
  obtain ⟨k0, hd0⟩ := h.hk d dm
  have dne : d ≠ ro := fun z => by rw [z, hw] at hd0; cases hd0
  refine h.two dm em ⟨_, upd_same, LR.app (DTs.keep tk hws) (DT.keep tk hv)⟩ (fun d' e => ?_) (fun l d' h1 h2 e => ?_) (fun l d' e => ?_)
  · rw [hd] at e
    cases e
    rw [upd_ne dne, upd_same]
  · have a := h.hkd l d' h1 h2 e
    refine (two_ne (fun z => ?_) (fun z => ?_)).trans a
    · rw [z, hw] at a
      cases a
    · rw [z] at e
      have := nodup_at h.knd e hd
      omega
  · obtain ⟨us, a, b⟩ := h.hsd l d' e
    refine ⟨us, ?_, DTs.keep tk b⟩
    refine (two_ne (fun z => ?_) (fun z => ?_)).trans a
    · rw [z] at e
      exact h.nrw (List.mem_of_getElem? e)
    · rw [z, hd0] at a
      cases a
theorem CSt.addS (h : CSt K C Hb H x s ro kn ss kds sds S c) {m : Nat} {d e : Addr} {ws : List V} {v : V} {z : List Int} (h1 : 1 ≤ m) (hm : m < S.length) (hc : c.Ss.length = S.length) (hd : kds[m]? = some d) (he : sds[m]? = some e) (hw : H e = some (.lst ws)) (hws : DTs K H ws ((c.Ss.getD m []).map rowD)) (hv : DT K H v (rowD z)) :
    CSt K C Hb (upd (upd H d (.dT (kd (c.Ss.getD m [] ++ [z])))) e (.lst (ws ++ [v]))) x s ro kn ss kds sds S ⟨c.R, c.Ss.set m (c.Ss.getD m [] ++ [z])⟩ ∧ Gx (ro :: (kds ++ sds)) H (upd (upd H d (.dT (kd (c.Ss.getD m [] ++ [z])))) e (.lst (ws ++ [v]))) := by
  have dm := List.mem_of_getElem? hd
  have em : e ∈ ro :: sds := List.mem_cons_of_mem _ (List.mem_of_getElem? he)
  have tk := h.tups (kvs' := kd (c.Ss.getD m [] ++ [z])) (ws' := ws ++ [v]) dm em
  obtain ⟨k0, hd0⟩ := h.hk d dm
  have dne : d ≠ e := fun z => by rw [z, hw] at hd0; cases hd0
  have gs : ∀ l, (c.Ss.set m (c.Ss.getD m [] ++ [z])).getD l [] = if m = l then c.Ss.getD m [] ++ [z] else c.Ss.getD l [] := fun l => getD_set (by omega)
  refine h.two dm em ?_ (fun d' q => ?_) (fun l d' h1 h2 q => ?_) (fun l d' q => ?_)
  · obtain ⟨us, a, b⟩ := h.hrw
    refine ⟨us, ?_, DTs.keep tk b⟩
    refine (two_ne (fun z => ?_) (fun z => ?_)).trans a
    · rw [← z] at he
      exact h.nrw (List.mem_of_getElem? he)
    · rw [z, hd0] at a
      cases a
  · have a := h.hkr d' q
    refine (two_ne (fun z => ?_) (fun z => ?_)).trans a
    · rw [z, hw] at a
      cases a
    · rw [z] at q
      have := nodup_at h.knd q hd
      omega
  · show _ = some (HO.dT (kd ((c.Ss.set m (c.Ss.getD m [] ++ [z])).getD l [])))
    rw [gs l]
    by_cases ml : m = l
    · rw [if_pos ml]
      subst ml
      rw [hd] at q
      cases q
      rw [upd_ne dne, upd_same]
    · rw [if_neg ml]
      have a := h.hkd l d' h1 h2 q
      refine (two_ne (fun z => ?_) (fun z => ?_)).trans a
      · rw [z, hw] at a
        cases a
      · rw [z] at q
        exact ml (nodup_at h.knd hd q)
  · show LR K _ d' ((c.Ss.set m (c.Ss.getD m [] ++ [z])).getD l [])
    rw [gs l]
    by_cases ml : m = l
    · rw [if_pos ml]
      subst ml
      rw [he] at q
      cases q
      exact ⟨_, upd_same, LR.app (DTs.keep tk hws) (DT.keep tk hv)⟩
    · rw [if_neg ml]
      obtain ⟨us, a, b⟩ := h.hsd l d' q
      refine ⟨us, ?_, DTs.keep tk b⟩
      refine (two_ne (fun z => ?_) (fun z => ?_)).trans a
      · rw [z] at q
        exact ml (nodup_at h.snd he q)
      · rw [z, hd0] at a
        cases a
end
end K35

set_option Elab.async false
set_option linter.all false
set_option maxRecDepth 100000
set_option maxHeartbeats 4000000
namespace K35
open PySem PySem.Spec PyProof.Rows L2 TK MR
variable {P : Program} {w : World} {K : PySem.W.Frag} {mg : Str → Option Value} {base : Heap}
/-! Closing.keep -/
def sp_keep (K : PySem.W.Frag) (C : Addr) : Sp := fun vs H Q _ => ∃ (Hb : Hp) (x s ro kn ss : Addr) (kds sds : List Addr) (S : List (List (List Int))) (c : Cf) (v : V) (r : List Int), vs = [.ref x, v] ∧ CSt K C Hb H x s ro kn ss kds sds S c ∧ DT K H v (rowD r) ∧ c.R.length ≤ 900 ∧
  ∀ H', Gx (ro :: (kds ++ sds)) H H' → CSt K C Hb H' x s ro kn ss kds sds S ⟨addK c.R r, c.Ss⟩ → Q .non H'
theorem ok_keep (T : Txt K mg base) : FnOk P w K mg base CX0 1 T.Closing.f_keep T.Closing.fd_keep p_Closing_keep (sp_keep K T.Closing.C) := by
  refine T.Closing.F_keep.ok sc_Closing_keep (fun vs H Q E h => ?_) (fun cdv A outer sh H vs Q E hr h => ?_)
  · obtain ⟨_, _, _, _, _, _, _, _, _, _, _, _, rfl, _⟩ := h
    rfl
  · obtain ⟨Hb, x, s, ro, kn, ss, kds, sds, S, c, v, r, rfl, B, hv, few, q⟩ := h
    have hu1 : (A.deeper (envOfC "Closing.keep" (defScope s_Closing_keep) sh.heap.objs.size T.Closing.f_keep cdv)).units + 1 < cLine := by have := hr.un; omega
    refine ⟨_, pss_one (ps_if (pt_cmp (pc_dnotin hu1 (pv 1) (pe_ix (ix_listK K) (pe_fld (pv 0) rfl) (pe_un un_neg pe_int) (fun _ _ => rfl))))
      (pss_cons (ps_dput hu1 (pe_ix (ix_listK K) (pe_fld (pv 0) rfl) (pe_un un_neg pe_int) (fun _ _ => rfl)) (pv 1) pe_bl rfl)
      (pss_one (ps_expr (pe_bm PySem.F.plainAttrs_list PySem.F.slot_list_append PySem.F.type_list_append mt_append (pe_fld (pv 0) rfl) (pa_cons (pv 1) pa_nil))))) pss_nil), ?_⟩
    have cl := T.Closing.cl
    obtain ⟨dx, fs, hx, f1, f2, f3, f4, f5⟩ := B.hob
    obtain ⟨t, rfl, ht⟩ := hv.row_invS
    have hkl : S.length < kds.length := by rw [B.kl]; exact Nat.lt_succ_self _
    have ed : kds[S.length]? = some kds[S.length] := List.getElem?_eq_getElem hkl
    generalize kds[S.length] = d at ed
    have hd := B.hkr d ed
    have eat : atI (kds.map V.ref) (-1) = some (.ref d) := at_last (by rw [List.length_map, B.kl]) (by rw [List.getElem?_map, ed]; rfl)
    refine ⟨.ref t, rfl, .ref x, rfl, x, _, dx, fs, .ref kn, rfl, hx, cl, T.Closing.n_known, f3, 1, rfl, kn, _, -1, .ref d, rfl, rfl, .inl (.inl B.hkn), eat, d, _, rfl, get_row hd ht, _, rfl, ?_⟩
    rw [kd_has]
    refine ite2 (fun hn => ?_) (fun hn => ?_)
    · have hn : r ∉ c.R := by simpa using hn
      refine ⟨.ref x, rfl, x, _, dx, fs, .ref kn, rfl, hx, cl, T.Closing.n_known, f3, 1, rfl, kn, _, -1, .ref d, rfl, rfl, .inl (.inl B.hkn), eat, .ref t, rfl, d, _, rfl, put_row hd ht few, ?_⟩
      rw [kd_new hn]
      obtain ⟨ws, hw, hws⟩ := B.hrw
      have dro : d ≠ ro := fun z => by rw [z, hw] at hd; cases hd
      have dx0 : x ≠ d := fun z => by rw [z, hd] at hx; cases hx
      have hw2 : (upd H d (.dT (kd (c.R ++ [r])))) ro = some (.lst ws) := by rw [upd_ne dro.symm]; exact hw
      obtain ⟨B2, g2⟩ := B.addR ed hw hws (.row ht)
      refine ⟨.ref x, rfl, x, _, dx, fs, .ref ro, rfl, by rw [upd_ne dx0]; exact hx, cl, T.Closing.n_rows, f2, .inl ⟨rfl, _, .inl (.inl hw2)⟩, .ref t, rfl, ro, ws, .ref t, rfl, rfl, hw2, ?_, ?_⟩
      · rw [hws.1, List.length_map]
        exact small1000 (by omega)
      · refine q _ g2 ?_
        have e : addK c.R r = c.R ++ [r] := if_neg hn
        rw [e]
        exact B2
    · have hn : r ∈ c.R := by simpa using hn
      refine q H Gx.refl ?_
      have e : addK c.R r = c.R := if_pos hn
      rw [e]
      exact B
end K35

set_option Elab.async false
set_option linter.all false
set_option maxRecDepth 100000
set_option maxHeartbeats 4000000
namespace K35
open PySem PySem.Spec PyProof.Rows L2 TK MR
variable {P : Program} {w : World} {K : PySem.W.Frag} {mg : Str → Option Value} {base : Heap}
theorem smallM2 {n : Nat} (h : n ≤ 1000000) : n < sizeLine := Nat.lt_of_le_of_lt h (by decide)
/-! Closing._extend -/
def sp_extend (K : PySem.W.Frag) (C : Addr) : Sp := fun vs H Q _ => ∃ (Hb : Hp) (x s ro kn ss : Addr) (kds sds : List Addr) (S : List (List (List Int))) (c : Cf) (l sz ar : Nat) (v u : V) (st r : List Int), vs = [.ref x, .int l, v, u] ∧ CSt K C Hb H x s ro kn ss kds sds S c ∧ c.Ss.length = S.length ∧ l < S.length ∧
  DT K H v (rowD st) ∧ DT K H u (rowD r) ∧ (st.length = ar ∧ ∀ n ∈ st, 0 ≤ n ∧ n < ((S.getD l []).length : Int)) ∧ (r.length = ar ∧ ∀ z ∈ r, 0 ≤ z ∧ z < (sz : Int)) ∧ (∀ row ∈ S.getD l [], row.length = sz) ∧ ar ≤ 4 ∧ c.R.length ≤ 900 ∧ (∀ j, (c.Ss.getD j []).length ≤ 1000000) ∧
  ∀ H', Gx (ro :: (kds ++ sds)) H H' → CSt K C Hb H' x s ro kn ss kds sds S (putC S.length l (stepSt (S.getD l []) st r) c) → Q .non H'
theorem ok_extend (T : Txt K mg base) : FnOk P w K mg base CX0 2 T.Closing.f_extend T.Closing.fd_extend p_Closing_extend (sp_extend K T.Closing.C) := by
  refine T.Closing.F_extend.ok sc_Closing_extend (fun vs H Q E h => ?_) (fun cdv A outer sh H vs Q E hr h => ?_)
  · obtain ⟨_, _, _, _, _, _, _, _, _, _, _, _, _, _, _, _, _, rfl, _⟩ := h
    rfl
  · obtain ⟨Hb, x, s, ro, kn, ss, kds, sds, S, c, l, sz, ar, v, u, st, r, rfl, B, hcl, hl, hv, hu, ⟨sta, hst⟩, ⟨rlen, rval⟩, hrow, ar4, few, fewS, q⟩ := h
    have hu1 : (A.deeper (envOfC "Closing._extend" (defScope s_Closing_extend) sh.heap.objs.size T.Closing.f_extend cdv)).units + 1 < cLine := by have := hr.un; omega
    refine ⟨_, pss_cons (ps_set (i := 4) sc_Closing_extend.nd rfl (by first | exact .inl rfl | exact .inr rfl) (pe_ix (ix_listK K) (pe_fld (pv 0) rfl) (pv 1) (fun _ _ => rfl)))
      (pss_cons (ps_set (i := 5) sc_Closing_extend.nd rfl (by first | exact .inl rfl | exact .inr rfl) (pe_callTy (call_tuple_ofK K) (by rfl) T.b_tuple boot_tuple (pa_cons (pe_lc (own := [("number", 6), ("value", 7)]) (g := gTup K 2 (gCons (gName 6) (gCons (gName 7) gNil))) (tt := tYes) rfl sc_Closing_extend.nd (RZ.pi_zipA (by rfl) T.b_zip (pa_cons (pv 2) (pa_cons (pv 3) pa_nil))) (blkOk_by (N := n_Closing_extend) (sc := defScope s_Closing_extend) (by decide +kernel))
              (fun _ _ _ _ _ => pg_tup (by rfl) (pgs_cons (pg_name (i := 6) sc_Closing_extend.nd rfl (Or.inl rfl)) (pgs_cons (pg_name (i := 7) sc_Closing_extend.nd rfl (Or.inl rfl)) pgs_nil))) (fun _ _ _ _ _ => pts_nil)
              (fun _ _ _ _ _ => pe_ix (ix_listK K) (pe_ix (ix_listK K) (pv 4) (pv 6) (fun _ _ => rfl)) (pv 7) (fun _ _ => rfl))) pa_nil)))
      (pss_one (ps_if (pt_cmpR op_eq (pe_op op_addN (pv 1) pe_int) (pe_callB (call_len_seqK K) (by rfl) T.b_len PySem.boot_len (pa_cons (pe_fld (pv 0) rfl) pa_nil)) (nomark _))
        (pss_one (ps_expr (pe_meth (pv 0) T.Closing.cl T.Closing.h_keep (ok_keep T) hr T.Closing.b_keep .nil pass0 (pa_cons (pv 5) pa_nil))))
        (pss_one (ps_if (pt_cmp (pc_dnotin hu1 (pv 5) (pe_ix (ix_listK K) (pe_fld (pv 0) rfl) (pe_op op_addN (pv 1) pe_int) (fun _ _ => rfl))))
          (pss_cons (ps_dput hu1 (pe_ix (ix_listK K) (pe_fld (pv 0) rfl) (pe_op op_addN (pv 1) pe_int) (fun _ _ => rfl)) (pv 5) pe_bl rfl)
          (pss_one (ps_expr (pe_bm PySem.F.plainAttrs_list PySem.F.slot_list_append PySem.F.type_list_append mt_append (pe_ix (ix_listK K) (pe_fld (pv 0) rfl) (pe_op op_addN (pv 1) pe_int) (fun _ _ => rfl)) (pa_cons (pv 5) pa_nil))))) pss_nil))))), ?_⟩
    have cl := T.Closing.cl
    obtain ⟨dx, fs, hx, f1, f2, f3, f4, f5, f6, f7, f8⟩ := B.hob
    obtain ⟨as, hs, asl, asq⟩ := B.hst.gr B.gb
    have eSl : S[l]? = some S[l] := List.getElem?_eq_getElem hl
    have eL : S.getD l [] = S[l] := by rw [List.getD_eq_getElem?_getD, eSl]; rfl
    have hal : l < as.length := by omega
    have eal : as[l]? = some as[l] := List.getElem?_eq_getElem hal
    generalize as[l] = a at eal
    obtain ⟨bs, hbs, bsl, bsq⟩ := asq l a _ eal eSl
    rw [eL] at hst hrow q
    generalize S[l] = L at eL bsl bsq hst hrow q
    have eas : (as.map V.ref)[l]? = some (.ref a) := by rw [List.getElem?_map, eal]; rfl
    obtain ⟨nb, rfl, hnb⟩ := hv.row_invS
    obtain ⟨rr, rfl, hrr⟩ := hu.row_invS
    refine ⟨.ref x, rfl, x, _, dx, fs, .ref s, rfl, hx, cl, T.Closing.n_steps, f1, .int l, rfl, s, _, l, .ref a, rfl, rfl, .inl (.inl hs), atI_nat eas, ?_⟩
    refine ⟨.ref nb, rfl, .ref rr, rfl, nb, rr, _, _, rfl, .inr ⟨.inl (.inl hnb), .inl (.inl hrr), fun D nD => ?_⟩⟩
    refine lc_zipT ar (by rw [List.length_map]; omega) (by rw [List.length_map]; omega) (.inl (by rw [List.length_map]; omega)) (fun j H2 => Gr H H2 ∧ H2 D = some (.lst (((List.range j).map fun c => at3 L (st.getD c 0) (r.getD c 0)).map V.int))) ⟨Gx.new nD, upd_same⟩
      (fun j H2 _ p => ⟨p.1.seqT (.inl (.inl hnb)), p.1.seqT (.inl (.inl hrr))⟩) (fun j u v T' H2 e1 e2 p nT => ?_) (fun H2 p => ?_)
    · obtain ⟨g2, hD⟩ := p
      rw [List.getElem?_map] at e1 e2
      obtain ⟨n, en, rfl⟩ := Option.map_eq_some_iff.mp e1
      obtain ⟨z, ez, rfl⟩ := Option.map_eq_some_iff.mp e2
      have hj : j < ar := by
        have := (List.getElem?_eq_some_iff.mp en).1
        omega
      obtain ⟨hn0, hn1⟩ := hst n (List.mem_of_getElem? en)
      obtain ⟨hz0, hz1⟩ := rval z (List.mem_of_getElem? ez)
      have hnL : n.toNat < L.length := by omega
      have eLn : L[n.toNat]? = some L[n.toNat] := List.getElem?_eq_getElem hnL
      have hrl := hrow _ (List.getElem_mem hnL)
      have hbl : n.toNat < bs.length := by omega
      have ebn : bs[n.toNat]? = some bs[n.toNat] := List.getElem?_eq_getElem hbl
      have hbb := bsq _ _ _ ebn eLn
      have egd : L.getD n.toNat [] = L[n.toNat] := by
        rw [List.getD_eq_getElem?_getD, eLn]
        rfl
      generalize L[n.toNat] = Ln at eLn hrl hbb egd
      generalize bs[n.toNat] = bb at ebn hbb
      have gT : Gr H2 (upd H2 T' (.tup [.int n, .int z])) := Gx.new nT
      have g12 := g2.trans gT
      refine ⟨T', [.int n, .int z], rfl, .inl (.inl upd_same), rfl, .int n, [.int z], rfl, .int z, [], rfl, rfl, rfl, ?_⟩
      have hzl : z.toNat < Ln.length := by omega
      have e3 : at3 L n z = Ln[z.toNat] := by
        unfold at3
        rw [egd, List.getD_eq_getElem?_getD, List.getElem?_eq_getElem hzl]
        rfl
      refine yesT ⟨.ref a, rfl, .int n, rfl, a, _, n, .ref bb, rfl, rfl, .inl (.inl (g12.lst hbs)), at_of (j := n.toNat) (by omega) (by rw [List.getElem?_map, ebn]; rfl), .int z, rfl, bb, _, z, .int (at3 L n z), rfl, rfl, .inl (.inl (g12.lst hbb)), at_of (j := z.toNat) (by omega) (by rw [List.getElem?_map, List.getElem?_eq_getElem hzl, e3]; rfl), ?_⟩
      refine ⟨_, gT.lst hD, ?_, g12.wr nD, ?_⟩
      · rw [List.length_map, List.length_map, List.length_range]
        exact small1000 (by omega)
      · have ed1 : st.getD j 0 = n := by
          rw [List.getD_eq_getElem?_getD, en]
          rfl
        have ed2 : r.getD j 0 = z := by
          rw [List.getD_eq_getElem?_getD, ez]
          rfl
        rw [upd_same, List.range_succ, List.map_append, List.map_append]
        show _ = some (HO.lst (_ ++ [V.int (at3 L (st.getD j 0) (r.getD j 0))]))
        rw [ed1, ed2]
    obtain ⟨g2, hD⟩ := p
    have efol : ((List.range ar).map fun c => at3 L (st.getD c 0) (r.getD c 0)) = stepSt L st r := (zipW_range sta rlen).symm
    rw [efol] at hD
    generalize stepSt L st r = z at hD q
    refine ⟨D, _, rfl, .inl ⟨.inl (.inl hD), fun tp ntp => ?_⟩⟩
    have g3 : Gr H2 (upd H2 tp (.tup (z.map V.int))) := Gx.new ntp
    have htp : (upd H2 tp (.tup (z.map V.int))) tp = some (.tup (z.map V.int)) := upd_same
    have g13 := g2.trans g3
    have B3 := B.gr g13
    have hs3 := g13.lst hs
    generalize upd H2 tp (.tup (z.map V.int)) = H3 at *
    have hx3 : H3 x = some (.ins T.Closing.C dx fs) := Gx.at g13 (by simp) hx fun _ z => by cases z
    refine ⟨.int l, rfl, l, 1, rfl, rfl, .ref x, rfl, x, _, dx, fs, .ref s, rfl, hx3, cl, T.Closing.n_steps, f1, s, _, rfl, .inl (.inl (.inl hs3)), rfl, _, rfl, ite2 (fun hL => ?_) (fun hL => ?_)⟩
    · have hl' : l + 1 = S.length := by
        have h := V.int.inj (of_decide_eq_true hL)
        rw [List.length_map, asl] at h
        omega
      refine ⟨.ref x, rfl, x, dx, fs, rfl, hx3, f5, .ref tp, rfl, Hb, x, s, ro, kn, ss, kds, sds, S, c, .ref tp, z, rfl, B3, .row htp, few, fun H4 g4 B4 => q H4 (TK.Gr.thn g13 g4) ?_⟩
      have e : putC S.length l z c = ⟨addK c.R z, c.Ss⟩ := if_pos hl'
      rw [e]
      exact B4
    · have hl' : l + 1 < S.length := by
        have h : ¬ (l + 1 = S.length) := fun z => hL (decide_eq_true (by rw [List.length_map, asl, ← z]))
        omega
      have ep : putC S.length l z c = ⟨c.R, c.Ss.set (l + 1) (addK (c.Ss.getD (l + 1) []) z)⟩ := if_neg (by omega)
      rw [ep] at q
      have hkl : l + 1 < kds.length := by rw [B.kl]; omega
      have ed : kds[l + 1]? = some kds[l + 1] := List.getElem?_eq_getElem hkl
      generalize kds[l + 1] = d at ed
      have hsl : l + 1 < sds.length := by rw [B.sl]; exact hl'
      have ee : sds[l + 1]? = some sds[l + 1] := List.getElem?_eq_getElem hsl
      generalize sds[l + 1] = e at ee
      have hd := B3.hkd (l + 1) d (by omega) hl' ed
      have edv : (kds.map V.ref)[l + 1]? = some (.ref d) := by rw [List.getElem?_map, ed]; rfl
      have eev : (sds.map V.ref)[l + 1]? = some (.ref e) := by rw [List.getElem?_map, ee]; rfl
      refine ⟨.ref tp, rfl, .ref x, rfl, x, _, dx, fs, .ref kn, rfl, hx3, cl, T.Closing.n_known, f3, .int l, rfl, l, 1, rfl, rfl, kn, _, ((l + 1 : Nat) : Int), .ref d, rfl, rfl, .inl (.inl B3.hkn), atI_nat edv, d, _, rfl, get_row hd htp, _, rfl, ?_⟩
      rw [kd_has]
      refine ite2 (fun hn => ?_) (fun hn => ?_)
      · have hn : z ∉ c.Ss.getD (l + 1) [] := by simpa using hn
        refine ⟨.ref x, rfl, x, _, dx, fs, .ref kn, rfl, hx3, cl, T.Closing.n_known, f3, .int l, rfl, l, 1, rfl, rfl, kn, _, ((l + 1 : Nat) : Int), .ref d, rfl, rfl, .inl (.inl B3.hkn), atI_nat edv, .ref tp, rfl, d, _, rfl, DPut.t (k := z.map Sum.inl) hd (by rw [keys_ints]; exact htp) (by rw [kd_len]; exact smallM2 (fewS _)), ?_⟩
        rw [kd_new hn]
        obtain ⟨ws, hw, hws⟩ := B3.hsd (l + 1) e ee
        have hdx : x ≠ d := fun z => by rw [z, hd] at hx3; cases hx3
        have hde : e ≠ d := fun z => by rw [z, hd] at hw; cases hw
        have hds : ss ≠ d := fun z => by
          have := B3.hss
          rw [z, hd] at this
          cases this
        have hw2 : (upd H3 d (.dT (kd (c.Ss.getD (l + 1) [] ++ [z])))) e = some (.lst ws) := by rw [upd_ne hde]; exact hw
        obtain ⟨B4, g4⟩ := B3.addS (by omega) hl' hcl ed ee hw hws (.row htp)
        refine ⟨.ref x, rfl, x, _, dx, fs, .ref ss, rfl, by rw [upd_ne hdx]; exact hx3, cl, T.Closing.n_states, f4, .int l, rfl, l, 1, rfl, rfl, ss, _, ((l + 1 : Nat) : Int), .ref e, rfl, rfl, .inl (.inl (by rw [upd_ne hds]; exact B3.hss)), atI_nat eev, .inl ⟨rfl, _, .inl (.inl hw2)⟩, .ref tp, rfl, e, ws, .ref tp, rfl, rfl, hw2, ?_, ?_⟩
        · rw [hws.1, List.length_map]
          exact smallM2 (fewS _)
        · refine q _ (TK.Gr.thn g13 g4) ?_
          have ea : addK (c.Ss.getD (l + 1) []) z = c.Ss.getD (l + 1) [] ++ [z] := if_neg hn
          rw [ea]
          exact B4
      · have hn : z ∈ c.Ss.getD (l + 1) [] := by simpa using hn
        refine q H3 (TK.Gr.x g13) ?_
        have ea : addK (c.Ss.getD (l + 1) []) z = c.Ss.getD (l + 1) [] := if_pos hn
        rw [ea]
        have es : c.Ss.set (l + 1) (c.Ss.getD (l + 1) []) = c.Ss := by
          have hlc : l + 1 < c.Ss.length := by omega
          rw [List.getD_eq_getElem?_getD, List.getElem?_eq_getElem hlc]
          exact List.set_getElem_self hlc
        rw [es]
        exact B3
end K35

set_option Elab.async false
set_option linter.all false
set_option maxRecDepth 100000
set_option maxHeartbeats 4000000
namespace K35
open PySem PySem.Spec PyProof.Rows L2 TK MR
variable {P : Program} {w : World} {K : PySem.W.Frag} {mg : Str → Option Value} {base : Heap}
theorem walk_enumL {K : PySem.W.Frag} {a : Addr} {xs : List V} : Walk (Ite K a) xs.length (fun H => SqL K H a xs) (fun i H v H' => ∃ T x, v = .ref T ∧ H T = none ∧ H' = upd H T (.tup [.int (i : Nat), x]) ∧ xs[i]? = some x) :=
  ⟨fun i _ hi q => ⟨xs, xs[i], q, by simp [hi]⟩, fun _ q => ⟨xs, q, Nat.le_refl _⟩, fun i H v H' _ q y => by
    obtain ⟨T, x, e1, e2, e3, e4⟩ := y
    exact ⟨T, x, e1, e2, e3, e4 xs q⟩⟩
theorem CSt.new {C : Addr} {Hb H : Hp} {x s ro kn ss : Addr} {kds sds : List Addr} {S : List (List (List Int))} {c : Cf} (h : CSt K C Hb H x s ro kn ss kds sds S c) {p : Addr} (n : H p = none) : p ∉ ro :: (kds ++ sds) := fun hb => by
  rcases List.mem_cons.mp hb with rfl | hb
  · obtain ⟨ws, a⟩ := h.lsts List.mem_cons_self
    rw [n] at a
    cases a
  · rcases List.mem_append.mp hb with hb | hb
    · obtain ⟨kvs, a⟩ := h.hk p hb
      rw [n] at a
      cases a
    · obtain ⟨ws, a⟩ := h.lsts (List.mem_cons_of_mem _ hb)
      rw [n] at a
      cases a
theorem joinV {i : Nat} {Pa : V → Prop} {σ : L2.St} {H : Hp} {k : L2.St → Hp → Prop} {G : Prop} (step : (∀ v, Pa v → gName i v σ H k) → G) (rest : ∀ v, Pa v → gName i v σ H k) : G := step rest
theorem pre_at {α : Type} {l m : List α} (h : l <+: m) {i : Nat} {x : α} (e : l[i]? = some x) : m[i]? = some x := by
  obtain ⟨u, rfl⟩ := h
  rw [List.getElem?_append_left (List.getElem?_eq_some_iff.mp e).1]
  exact e
/-! Closing._use -/
structure Fit (sz k ar : Nat) (tab : List Int) : Prop where
  s1 : 1 ≤ sz
  s4 : sz ≤ 4
  k1 : 1 ≤ k
  k3 : k ≤ 3
  a1 : 1 ≤ ar
  a4 : ar ≤ 4
  len : tab.length = sz ^ k
  val : ∀ x ∈ tab, 0 ≤ x ∧ x < (sz : Int)
theorem Fit.few {sz k ar : Nat} {tab : List Int} (F : Fit sz k ar tab) {rows : List (List Int)} {c : Cf} (h : Snd sz k ar tab rows c) : c.R.length ≤ 256 := Nat.le_trans h.few (pow256 F.s4 F.a4)
theorem Fit.fewS {sz k ar : Nat} {tab : List Int} (F : Fit sz k ar tab) {rows : List (List Int)} {c : Cf} (h : Snd sz k ar tab rows c) (j : Nat) : (c.Ss.getD j []).length ≤ 1000000 := by
  by_cases hj : j < k
  · have h1 := h.fewS hj
    have h2 : c.R.length ^ j ≤ 256 ^ 2 := Nat.le_trans (Nat.pow_le_pow_left (F.few h) j) (Nat.pow_le_pow_right (by omega) (by have := F.k3; omega))
    have h3 : (256 : Nat) ^ 2 ≤ 1000000 := by decide
    omega
  · rw [List.getD_eq_getElem?_getD, List.getElem?_eq_none (by rw [h.len]; omega)]
    exact Nat.zero_le _
def sp_use (K : PySem.W.Frag) (C : Addr) : Sp := fun vs H Q _ => ∃ (Hb : Hp) (x s ro kn ss : Addr) (kds sds : List Addr) (sz k ar n : Nat) (tab : List Int) (rows : List (List Int)) (c : Cf), vs = [.ref x, .int n] ∧ Fit sz k ar tab ∧ CSt K C Hb H x s ro kn ss kds sds (stepsFrom sz k [tab]) c ∧ Snd sz k ar tab rows c ∧ n < c.R.length ∧ (∀ l, l < k → ∀ s ∈ c.Ss.getD l [], Done (stepsFrom sz k [tab]) k l s n c) ∧
  ∀ H' c', Gx (ro :: (kds ++ sds)) H H' → CSt K C Hb H' x s ro kn ss kds sds (stepsFrom sz k [tab]) c' → Snd sz k ar tab rows c' → Ext c c' → (∀ l, l < k → ∀ s ∈ c'.Ss.getD l [], Done (stepsFrom sz k [tab]) k l s (n + 1) c') → Q .non H'
theorem ok_use (T : Txt K mg base) : FnOk P w K mg base CX0 3 T.Closing.f_use T.Closing.fd_use p_Closing_use (sp_use K T.Closing.C) := by
  refine T.Closing.F_use.ok sc_Closing_use (fun vs H Q E h => ?_) (fun cdv A outer sh H vs Q E hr h => ?_)
  · obtain ⟨_, _, _, _, _, _, _, _, _, _, _, _, _, _, _, rfl, _⟩ := h
    rfl
  · obtain ⟨Hb, x, s, ro, kn, ss, kds, sds, sz, k, ar, n, tab, rows, c, rfl, F, B, SN, hn, hdone, q⟩ := h
    refine ⟨_, pss_cons (ps_setLc (i := 2) (own := [("states", 3)]) (g := gName 3) (tt := tYes) rfl sc_Closing_use.nd rfl rfl (sw_true rfl rfl rfl (by decide +kernel)) (pi_listK K (pe_fld (pv 0) rfl))
          (blkOk_by (N := n_Closing_use) (sc := defScope s_Closing_use) (by decide +kernel)) (fun _ _ _ _ _ => pg_name (i := 3) sc_Closing_use.nd rfl (Or.inl rfl)) (fun _ _ _ _ _ => pts_nil)
          (fun _ _ _ _ _ => pe_callB (call_len_seqK K) (by rfl) T.b_len PySem.boot_len (pa_cons (pv 3) pa_nil)))
      (pss_one (ps_for PassesOwn.never rfl (pi_enum (by rfl) T.b_enumerate (pa_cons (pv 2) pa_nil)) (pg_tup (by rfl) (pgs_cons (pg_name (i := 4) sc_Closing_use.nd rfl (by first | exact .inl rfl | exact .inr rfl)) (pgs_cons (pg_name (i := 5) sc_Closing_use.nd rfl (by first | exact .inl rfl | exact .inr rfl)) pgs_nil)))
        (pss_one (ps_for PassesOwn.never rfl (pi_range1 (by rfl) T.b_range (pa_cons (pe_callB (call_len_seqK K) (by rfl) T.b_len PySem.boot_len (pa_cons (pe_ix (ix_listK K) (pe_fld (pv 0) rfl) (pv 4) (fun _ _ => rfl)) pa_nil)) pa_nil)) (pg_name (i := 6) sc_Closing_use.nd rfl (by first | exact .inl rfl | exact .inr rfl))
          (pss_cons (ps_set (i := 7) sc_Closing_use.nd rfl (by first | exact .inl rfl | exact .inr rfl) (pe_ifExp (pt_cmpR op_lt (pv 6) (pv 5) (nomark _)) (pv 1) pe_int))
          (pss_one (ps_for PassesOwn.never rfl (pi_range2 (by rfl) T.b_range (pa_cons (pv 7) (pa_cons (pe_op op_add (pv 1) pe_int) pa_nil))) (pg_name (i := 8) sc_Closing_use.nd rfl (by first | exact .inl rfl | exact .inr rfl))
            (pss_one (ps_expr (pe_meth (pv 0) T.Closing.cl T.Closing.h_extend (ok_extend T) hr T.Closing.b_extend .nil pass0 (pa_cons (pv 4) (pa_cons (pe_ix (ix_listK K) (pe_ix (ix_listK K) (pe_fld (pv 0) rfl) (pv 4) (fun _ _ => rfl)) (pv 6) (fun _ _ => rfl)) (pa_cons (pe_ix (ix_listK K) (pe_fld (pv 0) rfl) (pv 8) (fun _ _ => rfl)) pa_nil))))))))))))), ?_⟩
    have cl := T.Closing.cl
    have Sl : (stepsFrom sz k [tab]).length = k := steps_len F.k1
    have hd : ∀ {H' : Hp} {c' : Cf}, CSt K T.Closing.C Hb H' x s ro kn ss kds sds (stepsFrom sz k [tab]) c' → ∀ {l : Nat}, l < k → ∃ e, sds[l]? = some e := fun B' l hl => by
      have : l < sds.length := by rw [B'.sl, Sl]; exact hl
      exact ⟨_, List.getElem?_eq_getElem this⟩
    obtain ⟨dx, fs, hx, f1, f2, f3, f4, f5, f6, f7, f8⟩ := B.hob
    -- before
    refine ⟨.ref x, rfl, x, _, dx, fs, .ref ss, rfl, hx, cl, T.Closing.n_states, f4, ss, rfl, ⟨_, .inl (.inl B.hss)⟩, fun D nD => ?_⟩
    refine lc_list (K := K) (a := ss) (xs := sds.map V.ref) (fun i H' => Gr H H' ∧ H' D = some (.lst ((List.range i).map fun j => V.int (((c.Ss.getD j []).length : Nat) : Int)))) ⟨Gx.new nD, upd_same⟩ (fun i H' _ p => .inl (.inl (p.1.lst B.hss))) (fun i y H' ey p => ?_) (fun H1 p => ?_)
    · obtain ⟨g, hD⟩ := p
      rw [List.getElem?_map] at ey
      obtain ⟨e, ee, rfl⟩ := Option.map_eq_some_iff.mp ey
      have hi : i < sds.length := (List.getElem?_eq_some_iff.mp ee).1
      obtain ⟨ws, hw, hws⟩ := (B.gr g).hsd i e ee
      refine ⟨rfl, yesT ⟨.ref e, rfl, e, ws, rfl, .inl (.inl (.inl hw)), _, hD, ?_, g.wr nD, ?_⟩⟩
      · rw [List.length_map, List.length_range]
        have := B.sl
        have := F.k3
        exact small1000 (by omega)
      · rw [upd_same, List.range_succ, List.map_append, hws.1, List.length_map]
        rfl
    obtain ⟨g1, hD⟩ := p
    rw [List.length_map, B.sl, Sl] at hD
    have B1 := B.gr g1
    have nDM := B.new nD
    refine ⟨.ref D, rfl, D, _, rfl, .inl (.inl hD), ?_⟩
    have xsl : ((List.range k).map fun j => V.int (((c.Ss.getD j []).length : Nat) : Int)).length = k := by rw [List.length_map, List.length_range]
    refine for_it (walk_enumL (K := K) (a := D) (xs := (List.range k).map fun j => V.int (((c.Ss.getD j []).length : Nat) : Int))) (fun j σ H' => ∃ y4 y5 y6 y7 y8 c', σ = [some (.ref x), some (.int n), some (.ref D), none, y4, y5, y6, y7, y8] ∧ Gx (ro :: (kds ++ sds)) H1 H' ∧ CSt K T.Closing.C Hb H' x s ro kn ss kds sds (stepsFrom sz k [tab]) c' ∧ Snd sz k ar tab rows c' ∧ Ext c c' ∧ ∀ l, l < j → ∀ s ∈ c'.Ss.getD l [], Done (stepsFrom sz k [tab]) k l s (n + 1) c')
      ⟨none, none, none, none, none, c, rfl, Gx.refl, B1, SN, .refl c, fun l h => absurd h (Nat.not_lt_zero _)⟩ (fun j σ H' _ hp => by
        obtain ⟨_, _, _, _, _, _, _, g, _⟩ := hp
        exact .inl (.inl (g.at nDM hD fun _ z => by cases z))) (fun j y σ Hx H' hj hp hy => ?_) (fun σ H' hp => ?_)
    · rw [xsl] at hj
      obtain ⟨t, v, rfl, nt, rfl, ev⟩ := hy
      rw [List.getElem?_map, List.getElem?_range hj] at ev
      cases ev
      obtain ⟨y4, y5, y6, y7, y8, c', rfl, g2, B2, S2, E2, D2⟩ := hp
      have gt : Gr Hx (upd Hx t (.tup [.int (j : Nat), .int (((c.Ss.getD j []).length : Nat) : Int)])) := Gx.new nt
      have ht : (upd Hx t (.tup [.int (j : Nat), .int (((c.Ss.getD j []).length : Nat) : Int)])) t = some (.tup [.int (j : Nat), .int (((c.Ss.getD j []).length : Nat) : Int)]) := upd_same
      have B3 := B2.gr gt
      have g3 := g2.thn gt
      generalize upd Hx t (.tup [.int (j : Nat), .int (((c.Ss.getD j []).length : Nat) : Int)]) = H3 at *
      refine ⟨t, _, rfl, .inl (.inl ht), rfl, .int j, [.int (((c.Ss.getD j []).length : Nat) : Int)], rfl, .int (((c.Ss.getD j []).length : Nat) : Int), [], rfl, rfl, ?_⟩
      obtain ⟨e, ee⟩ := hd B3 hj
      have eev : (sds.map V.ref)[j]? = some (.ref e) := by rw [List.getElem?_map, ee]; rfl
      obtain ⟨dx3, fs3, hx3, k1, k2, k3, k4, k5, k6, k7, k8⟩ := B3.hob
      obtain ⟨ws, hw, hws⟩ := B3.hsd j e ee
      have wl : ws.length = (c'.Ss.getD j []).length := by rw [hws.1, List.length_map]
      have wM := F.fewS S2 j
      refine ⟨.ref x, rfl, x, _, dx3, fs3, .ref ss, rfl, hx3, cl, T.Closing.n_states, k4, .int j, rfl, ss, _, j, .ref e, rfl, rfl, .inl (.inl B3.hss), atI_nat eev, e, ws, rfl, .inl (.inl (.inl hw)), (ws.length : Int), rfl, by omega, by omega, ?_⟩
      refine for_range (n := ((ws.length : Nat) : Int).toNat) (fun i σ H' => ∃ y6 y7 y8 c2, σ = [some (.ref x), some (.int n), some (.ref D), none, some (.int j), some (.int (((c.Ss.getD j []).length : Nat) : Int)), y6, y7, y8] ∧ Gx (ro :: (kds ++ sds)) H1 H' ∧ CSt K T.Closing.C Hb H' x s ro kn ss kds sds (stepsFrom sz k [tab]) c2 ∧ Snd sz k ar tab rows c2 ∧ Ext c' c2 ∧ (∀ l, l ≤ j → c2.Ss.getD l [] = c'.Ss.getD l []) ∧ ∀ (i' : Nat) s, i' < i → (c'.Ss.getD j [])[i']? = some s → Done (stepsFrom sz k [tab]) k j s (n + 1) c2)
        ⟨_, _, _, c', rfl, g3, B3, S2, .refl c', fun _ _ => rfl, fun i' s h => absurd h (Nat.not_lt_zero _)⟩ (fun i σ H' hi hp => ?_) (fun σ H' hp => ?_)
      · obtain ⟨y6, y7, y8, c2, rfl, g4, B4, S4, E4, same4, D4⟩ := hp
        have hi' : i < (c'.Ss.getD j []).length := by omega
        have es : (c'.Ss.getD j [])[i]? = some (c'.Ss.getD j [])[i] := List.getElem?_eq_getElem hi'
        generalize (c'.Ss.getD j [])[i] = st at es
        have E04 := E2.trans E4
        have nR : n < c2.R.length := Nat.lt_of_lt_of_le hn E04.1.length_le
        refine' joinV (i := 7) (Pa := fun v => ∃ f : Nat, v = .int f ∧ (f = 0 ∨ (f = n ∧ i < (c.Ss.getD j []).length))) (fun key => ?step) (fun v hv => ?rest)
        case step =>
          refine ⟨.int (0 + (i : Int)), rfl, .int (((c.Ss.getD j []).length : Nat) : Int), rfl, _, _, rfl, rfl, _, rfl, ite2 (fun h => ⟨.int n, rfl, key _ ⟨n, rfl, .inr ⟨rfl, ?_⟩⟩⟩) (fun h => key (.int 0) ⟨0, rfl, .inl rfl⟩)⟩
          have := of_decide_eq_true h
          omega
        case rest =>
        obtain ⟨f, rfl, hf⟩ := hv
        have fn : f ≤ n := by omega
        have D0 : Done (stepsFrom sz k [tab]) k j st f c2 := by
          rcases hf with rfl | ⟨rfl, hi0⟩
          · exact fun i r h => absurd h (Nat.not_lt_zero _)
          · have e0 : (c.Ss.getD j [])[i]? = some (c.Ss.getD j [])[i] := List.getElem?_eq_getElem hi0
            have e1 := pre_at (E2.2.2 j) e0
            rw [es] at e1
            have hm : st ∈ c.Ss.getD j [] := by
              rw [Option.some.inj e1]
              exact List.getElem_mem hi0
            exact (hdone j hj st hm).ext E04 (by omega)
        refine ⟨.int f, rfl, .int n, rfl, n, 1, rfl, rfl, f, (n : Int) + 1, rfl, ⟨by omega, by have := F.few S4; omega, by omega, by have := F.few S4; omega⟩, ?_⟩
        refine for_it (walk_range (lo := (f : Int)) (n := ((n : Int) + 1 - f).toNat)) (fun m σ H' => ∃ y8 c3, σ = [some (.ref x), some (.int n), some (.ref D), none, some (.int j), some (.int (((c.Ss.getD j []).length : Nat) : Int)), some (.int (0 + (i : Int))), some (.int f), y8] ∧ Gx (ro :: (kds ++ sds)) H1 H' ∧ CSt K T.Closing.C Hb H' x s ro kn ss kds sds (stepsFrom sz k [tab]) c3 ∧ Snd sz k ar tab rows c3 ∧ Ext c2 c3 ∧ (∀ l, l ≤ j → c3.Ss.getD l [] = c2.Ss.getD l []) ∧ Done (stepsFrom sz k [tab]) k j st (f + m) c3)
          ⟨_, c2, rfl, g4, B4, S4, .refl c2, fun _ _ => rfl, D0⟩ (fun _ _ _ _ _ => trivial) (fun m y σ Hx H' hm hp hy => ?_) (fun σ H' hp => ?_)
        · obtain ⟨rfl, rfl⟩ := hy
          obtain ⟨y8, c3, rfl, g5, B5, S5, E5, same5, D5⟩ := hp
          have hfm : f + m ≤ n := by omega
          have nR3 : f + m < c3.R.length := Nat.lt_of_le_of_lt hfm (Nat.lt_of_lt_of_le nR E5.1.length_le)
          have er : c3.R[f + m]? = some c3.R[f + m] := List.getElem?_eq_getElem nR3
          generalize c3.R[f + m] = r at er
          have es3 : (c3.Ss.getD j [])[i]? = some st := by rw [same5 j (Nat.le_refl _), same4 j (Nat.le_refl _)]; exact es
          obtain ⟨dx5, fs5, hx5, j1, j2, j3, j4, j5, j6, j7, j8⟩ := B5.hob
          obtain ⟨us, hu, hus⟩ := B5.hsd j e ee
          obtain ⟨vs, hv, hvs⟩ := B5.hrw
          obtain ⟨sv, esv, dsv⟩ := hus.at (i := i) (d := rowD st) (by rw [List.getElem?_map, es3]; rfl)
          obtain ⟨rv, erv, drv⟩ := hvs.at (i := f + m) (d := rowD r) (by rw [List.getElem?_map, er]; rfl)
          have hst := List.mem_of_getElem? es3
          have hrm := List.mem_of_getElem? er
          obtain ⟨w1, w2⟩ := S5.wide F.k1 hj hst
          have rowl : ∀ row ∈ (stepsFrom sz k [tab]).getD j [], row.length = sz := by
            obtain ⟨k', rfl⟩ : ∃ k', k = k' + 1 := ⟨k - 1, by omega⟩
            exact okS_row (okS_steps [tab]) (by rw [Sl]; exact hj)
          refine ⟨.ref x, rfl, x, dx5, fs5, rfl, hx5, j8, .int j, rfl, .ref x, rfl, x, _, dx5, fs5, .ref ss, rfl, hx5, cl, T.Closing.n_states, j4, .int j, rfl, ss, _, j, .ref e, rfl, rfl, .inl (.inl B5.hss), atI_nat eev, .int (0 + (i : Int)), rfl, e, us, 0 + (i : Int), sv, rfl, rfl, .inl (.inl hu), at_of (j := i) (by omega) esv, ?_⟩
          refine ⟨.ref x, rfl, x, _, dx5, fs5, .ref ro, rfl, hx5, cl, T.Closing.n_rows, j2, .int ((f : Int) + (m : Int)), rfl, ro, vs, (f : Int) + (m : Int), rv, rfl, rfl, .inl (.inl hv), at_of (j := f + m) (by omega) erv, ?_⟩
          refine ⟨Hb, x, s, ro, kn, ss, kds, sds, _, c3, j, sz, ar, sv, rv, st, r, rfl, B5, by rw [Sl, S5.len], by rw [Sl]; exact hj, dsv, drv, ⟨w1, w2⟩, (S5.ok r hrm).1, rowl, F.a4, by have := F.few S5; omega, F.fewS S5, fun H6 g6 B6 => ?_⟩
          rw [Sl] at B6
          have E6 := ext_put (z := stepSt ((stepsFrom sz k [tab]).getD j []) st r) hj S5.len
          refine ⟨_, _, rfl, g5.trans g6, B6, S5.put F.s1 F.k1 F.len F.val hj hst hrm, E5.trans E6, fun l hl => by rw [same_put hj S5.len (by omega)]; exact same5 l hl, fun i' r' hi' hr' => ?_⟩
          by_cases hl : i' < f + m
          · exact (D5.ext E6 (Nat.le_of_lt nR3)) i' r' hl hr'
          · have e1 : i' = f + m := by omega
            rw [e1, pre_at E6.1 er] at hr'
            cases hr'
            exact mem_put hj S5.len
        · obtain ⟨y8, c3, rfl, g5, B5, S5, E5, same5, D5⟩ := hp
          have e1 : f + ((n : Int) + 1 - f).toNat = n + 1 := by omega
          rw [e1] at D5
          refine ⟨_, _, _, c3, rfl, g5, B5, S5, E4.trans E5, fun l hl => by rw [same5 l hl, same4 l hl], fun i' s' hi' hs' => ?_⟩
          by_cases hl : i' < i
          · exact (D4 i' s' hl hs').ext E5 (by omega)
          · have e2 : i' = i := by omega
            rw [e2, es] at hs'
            cases hs'
            exact D5
      · obtain ⟨y6, y7, y8, c2, rfl, g4, B4, S4, E4, same4, D4⟩ := hp
        refine ⟨_, _, _, _, _, c2, rfl, g4, B4, S4, E2.trans E4, fun l hl s' hs' => ?_⟩
        rw [same4 l (by omega)] at hs'
        by_cases hlj : l < j
        · exact (D2 l hlj s' hs').ext E4 (Nat.lt_of_lt_of_le hn E2.1.length_le)
        · have e1 : l = j := by omega
          subst e1
          obtain ⟨i', hi', e2⟩ := List.mem_iff_getElem.mp hs'
          exact D4 i' s' (by omega) (by rw [List.getElem?_eq_getElem hi', e2])
    · obtain ⟨y4, y5, y6, y7, y8, c', rfl, g2, B2, S2, E2, D2⟩ := hp
      rw [xsl] at D2
      exact q H' c' (TK.Gr.thn g1 g2) B2 S2 E2 D2
end K35

set_option Elab.async false
set_option linter.all false
set_option maxRecDepth 100000
set_option maxHeartbeats 4000000
namespace K35
open PySem PySem.Spec PyProof.Rows L2 TK MR
variable {P : Program} {w : World} {K : PySem.W.Frag} {mg : Str → Option Value} {base : Heap}
/-! Closing.close -/
def sp_close (K : PySem.W.Frag) (C : Addr) : Sp := fun vs H Q _ => ∃ (Hb : Hp) (x s ro kn ss : Addr) (kds sds : List Addr) (sz k ar : Nat) (tab : List Int) (rows : List (List Int)) (c : Cf), vs = [.ref x, .int ((sz ^ ar : Nat) : Int)] ∧ Fit sz k ar tab ∧ CSt K C Hb H x s ro kn ss kds sds (stepsFrom sz k [tab]) c ∧ Snd sz k ar tab rows c ∧ z0 ar ∈ c.Ss.getD 0 [] ∧
  ∀ H' c', Gx (ro :: (kds ++ sds)) H H' → CSt K C Hb H' x s ro kn ss kds sds (stepsFrom sz k [tab]) c' → Snd sz k ar tab rows c' → Ext c c' → Shut sz k tab ar c'.R → Q .non H'
theorem ok_close (T : Txt K mg base) : FnOk P w K mg base CX0 4 T.Closing.f_close T.Closing.fd_close p_Closing_close (sp_close K T.Closing.C) := by
  refine T.Closing.F_close.ok sc_Closing_close (fun vs H Q E h => ?_) (fun cdv A outer sh H vs Q E hr h => ?_)
  · obtain ⟨_, _, _, _, _, _, _, _, _, _, _, _, _, _, rfl, _⟩ := h
    rfl
  · obtain ⟨Hb, x, s, ro, kn, ss, kds, sds, sz, k, ar, tab, rows, c, rfl, F, B, SN, hz, q⟩ := h
    refine ⟨_, pss_cons (ps_set (i := 2) sc_Closing_close.nd rfl (by first | exact .inl rfl | exact .inr rfl) pe_int)
      (pss_one (ps_while PassesOwn.never (PW.pt (pw_and (pt_cmpR op_lt (pv 2) (pe_callB (call_len_seqK K) (by rfl) T.b_len PySem.boot_len (pa_cons (pe_fld (pv 0) rfl) pa_nil)) (nomark _)) (pw_and1 (pt_cmpR op_lt (pe_callB (call_len_seqK K) (by rfl) T.b_len PySem.boot_len (pa_cons (pe_fld (pv 0) rfl) pa_nil)) (pv 1) (nomark _)))))
        (pss_cons (ps_expr (pe_meth (pv 0) T.Closing.cl T.Closing.h_use (ok_use T) hr T.Closing.b_use .nil pass0 (pa_cons (pv 2) pa_nil)))
        (pss_one (ps_aug (i := 2) sc_Closing_close.nd rfl (by first | exact .inl rfl | exact .inr rfl) pe_int ip_add))))), ?_⟩
    have cl := T.Closing.cl
    let W : Nat → L2.St → Hp → Prop := fun m σ H' => ∃ (n : Nat) (c' : Cf), σ = [some (.ref x), some (.int ((sz ^ ar : Nat) : Int)), some (.int n)] ∧ m = sz ^ ar - n ∧ Gx (ro :: (kds ++ sds)) H H' ∧ CSt K T.Closing.C Hb H' x s ro kn ss kds sds (stepsFrom sz k [tab]) c' ∧ Snd sz k ar tab rows c' ∧ Ext c c' ∧ n ≤ c'.R.length ∧ ∀ l, l < k → ∀ s ∈ c'.Ss.getD l [], Done (stepsFrom sz k [tab]) k l s n c'
    refine ⟨W, ⟨_, 0, c, rfl, rfl, Gx.refl, B, SN, .refl c, Nat.zero_le _, fun l _ s' _ i r h => absurd h (Nat.not_lt_zero _)⟩, fun m σ H1 hw => ?_⟩
    obtain ⟨n, c', rfl, rfl, g1, B1, S1, E1, hn, hd⟩ := hw
    obtain ⟨dx, fs, hx, f1, f2, f3, f4, f5, f6, f7, f8⟩ := B1.hob
    obtain ⟨ws, hws, hwd⟩ := id B1.hrw
    have wl : ws.length = c'.R.length := by rw [hwd.1, List.length_map]
    have few := S1.few
    refine ⟨.int n, rfl, .ref x, rfl, x, _, dx, fs, .ref ro, rfl, hx, cl, T.Closing.n_rows, f2, ro, ws, rfl, .inl (.inl (.inl hws)), _, _, rfl, rfl, _, rfl, ite2 (fun h1 => ?_) (fun h1 => iteF ?_)⟩
    · have h1' : n < c'.R.length := by have := of_decide_eq_true h1; omega
      refine ⟨.ref x, rfl, x, _, dx, fs, .ref ro, rfl, hx, cl, T.Closing.n_rows, f2, ro, ws, rfl, .inl (.inl (.inl hws)), .int ((sz ^ ar : Nat) : Int), rfl, _, _, rfl, rfl, _, rfl, ite2 (fun h2 => ?_) (fun h2 => ?_)⟩
      · refine ⟨fun σ' H' => ∃ m', m' < sz ^ ar - n ∧ W m' σ' H', fun _ _ h => h, ?_⟩
        refine ⟨.ref x, rfl, x, dx, fs, rfl, hx, f7, .int n, rfl, Hb, x, s, ro, kn, ss, kds, sds, sz, k, ar, n, tab, rows, c', rfl, F, B1, S1, h1', hd, fun H2 c2 g2 B2 S2 E2 D2 => ?_⟩
        refine ⟨.int n, rfl, n, 1, rfl, rfl, sz ^ ar - (n + 1), by omega, n + 1, c2, rfl, rfl, g1.trans g2, B2, S2, E1.trans E2, Nat.le_trans h1' E2.1.length_le, D2⟩
      · have h2' : sz ^ ar ≤ c'.R.length := by
          have h : ¬ ((ws.length : Nat) : Int) < ((sz ^ ar : Nat) : Int) := fun z => h2 (decide_eq_true z)
          omega
        exact q H1 c' g1 B1 S1 E1 (shut_most S1 F.s1 F.val h2')
    · have h1' : n = c'.R.length := by
        have h : ¬ (n : Int) < ((ws.length : Nat) : Int) := fun z => h1 (decide_eq_true z)
        omega
      subst h1'
      exact q H1 c' g1 B1 S1 E1 (shut_done S1 F.s1 F.k1 F.len ((E1.2.2 0).subset hz) hd)
/-! Closing.__init__ -/
def c0 (k ar : Nat) : Cf := ⟨[], (List.range k).map fun j => if j = 0 then [z0 ar] else []⟩
theorem c0_at {k ar l : Nat} : (c0 k ar).Ss.getD l [] = if l = 0 ∧ 0 < k then [z0 ar] else [] := by
  unfold c0
  show ((List.range k).map fun j => if j = 0 then [z0 ar] else []).getD l [] = _
  rw [List.getD_eq_getElem?_getD, List.getElem?_map]
  by_cases h : l < k
  · rw [List.getElem?_range h]
    by_cases e : l = 0
    · rw [if_pos ⟨e, by omega⟩]
      show (if l = 0 then _ else _) = _
      rw [if_pos e]
    · rw [if_neg fun z => e z.1]
      show (if l = 0 then _ else _) = _
      rw [if_neg e]
  · rw [List.getElem?_eq_none (by rw [List.length_range]; omega), if_neg (by omega)]
    rfl
theorem snd_c0 {sz k ar : Nat} {tab : List Int} {rows : List (List Int)} (hk : 1 ≤ k) : Snd sz k ar tab rows (c0 k ar) where
  len := by unfold c0; rw [List.length_map, List.length_range]
  st := fun l _ s hs => by
    rw [c0_at] at hs
    split at hs
    · rename_i h
      rw [List.mem_singleton.mp hs]
      exact ⟨[], h.1.symm, fun r hr => by simp at hr, (finalSt_nil _ _).symm⟩
    · simp at hs
  nd := fun l => by
    rw [c0_at]
    split
    · simp
    · simp
  ndR := List.nodup_nil
  ok := fun r hr => by
    unfold c0 at hr
    simp at hr
theorem z0_c0 {k ar : Nat} (hk : 1 ≤ k) : z0 ar ∈ (c0 k ar).Ss.getD 0 [] := by
  rw [c0_at, if_pos ⟨rfl, hk⟩]
  exact List.mem_singleton.mpr rfl
end K35

set_option Elab.async false
set_option linter.all false
set_option maxRecDepth 100000
set_option maxHeartbeats 4000000
namespace K35
open PySem PySem.Spec PyProof.Rows L2 TK MR
variable {P : Program} {w : World} {K : PySem.W.Frag} {mg : Str → Option Value} {base : Heap}
theorem putF_le (f : Str) (v : V) : ∀ fs : List (Str × V), (putF f v fs).length ≤ fs.length + 1
  | [] => Nat.le_refl _
  | (g, u) :: fs => by
    show (if g = f then (g, v) :: fs else (g, u) :: putF f v fs).length ≤ _
    by_cases h : g = f
    · rw [if_pos h]
      exact Nat.le_succ _
    · rw [if_neg h, List.length_cons, List.length_cons]
      exact Nat.succ_le_succ (putF_le f v fs)
abbrev cF (s ro kn ss : Addr) : List (Str × V) := putF "states" (.ref ss) (putF "known" (.ref kn) (putF "rows" (.ref ro) (putF "steps" (.ref s) [])))
theorem cF_steps (s ro kn ss : Addr) : (cF s ro kn ss).lookup ("steps" : Str) = some (.ref s) := by
  rw [lookup_putF, if_neg (by decide +kernel), lookup_putF, if_neg (by decide +kernel), lookup_putF, if_neg (by decide +kernel), lookup_putF, if_pos rfl]
theorem cF_rows (s ro kn ss : Addr) : (cF s ro kn ss).lookup ("rows" : Str) = some (.ref ro) := by
  rw [lookup_putF, if_neg (by decide +kernel), lookup_putF, if_neg (by decide +kernel), lookup_putF, if_pos rfl]
theorem cF_known (s ro kn ss : Addr) : (cF s ro kn ss).lookup ("known" : Str) = some (.ref kn) := by
  rw [lookup_putF, if_neg (by decide +kernel), lookup_putF, if_pos rfl]
theorem cF_states (s ro kn ss : Addr) : (cF s ro kn ss).lookup ("states" : Str) = some (.ref ss) := by
  rw [lookup_putF, if_pos rfl]
theorem cF_no (s ro kn ss : Addr) {m : Str} (h1 : ¬ m = "states") (h2 : ¬ m = "known") (h3 : ¬ m = "rows") (h4 : ¬ m = "steps") : (cF s ro kn ss).lookup m = none := by
  rw [lookup_putF, if_neg h1, lookup_putF, if_neg h2, lookup_putF, if_neg h3, lookup_putF, if_neg h4]
  rfl
theorem zeros_eq (ar : Nat) : (List.replicate ((ar : Nat) : Int).toNat [V.int 0]).flatten = (z0 ar).map V.int := by
  unfold z0
  rw [Int.toNat_natCast]
  induction ar with
  | zero => rfl
  | succ n ih => rw [List.replicate_succ', List.flatten_append, ih, List.range_succ, List.map_append, List.map_append]; rfl
def sp_init (K : PySem.W.Frag) (C : Addr) : Sp := fun vs H Q _ => ∃ (Hb : Hp) (x dx s : Addr) (sz k ar : Nat) (tab : List Int), vs = [.ref x, .ref s, .int ar] ∧ H x = some (.ins C dx []) ∧ Hb x = none ∧ Gr Hb H ∧ LLL Hb s (stepsFrom sz k [tab]) ∧ (1 ≤ k ∧ k ≤ 3) ∧ (1 ≤ ar ∧ ar ≤ 4) ∧
  ∀ ro kn ss kds sds H', CSt K C Hb H' x s ro kn ss kds sds (stepsFrom sz k [tab]) (c0 k ar) → Q .non H'
theorem ok_init (T : Txt K mg base) : FnOk P w K mg base CX0 1 T.Closing.f_init T.Closing.fd_init p_Closing_init (sp_init K T.Closing.C) := by
  refine T.Closing.F_init.ok sc_Closing_init (fun vs H Q E h => ?_) (fun cdv A outer sh H vs Q E hr h => ?_)
  · obtain ⟨_, _, _, _, _, _, _, _, rfl, _⟩ := h
    rfl
  · obtain ⟨Hb, x, dx, s, sz, k, ar, tab, rfl, hx, hbx, gb, hS, hk, har, q⟩ := h
    refine ⟨_, pss_cons (ps_fld (pv 0) (pv 1) rfl)
      (pss_cons (ps_fld (pv 0) (pe_lst pa_nil) rfl)
      (pss_cons (ps_fld (pv 0) (pe_op op_cat (pe_lc (own := [("_", 3)]) (g := gName 3) (tt := tYes) rfl sc_Closing_init.nd (pi_listK K (pv 1)) (blkOk_by (N := n_Closing_init) (sc := defScope s_Closing_init) (by decide +kernel))
          (fun _ _ _ _ _ => pg_name (i := 3) sc_Closing_init.nd rfl (Or.inl rfl)) (fun _ _ _ _ _ => pts_nil) (fun _ _ _ _ _ => pe_dnewT)) (pe_lst (pa_cons pe_dnewT pa_nil))) rfl)
      (pss_cons (ps_fld (pv 0) (pe_lc (own := [("_", 3)]) (g := gName 3) (tt := tYes) rfl sc_Closing_init.nd (pi_listK K (pv 1)) (blkOk_by (N := n_Closing_init) (sc := defScope s_Closing_init) (by decide +kernel))
          (fun _ _ _ _ _ => pg_name (i := 3) sc_Closing_init.nd rfl (Or.inl rfl)) (fun _ _ _ _ _ => pts_nil) (fun _ _ _ _ _ => pe_lst pa_nil)) rfl)
      (pss_one (ps_expr (pe_bm PySem.F.plainAttrs_list PySem.F.slot_list_append PySem.F.type_list_append mt_append (pe_ix (ix_listK K) (pe_fld (pv 0) rfl) pe_int (fun _ _ => rfl)) (pa_cons (pe_op (op_repA K) (pe_tup (pa_cons pe_int pa_nil)) (pv 2)) pa_nil))))))), ?_⟩
    have cl := T.Closing.cl
    have Sl : (stepsFrom sz k [tab]).length = k := steps_len hk.1
    obtain ⟨as, hs0, asl, _⟩ := id hS
    have hs := gb.lst hs0
    have sx : s ≠ x := fun z => by rw [z, hx] at hs; cases hs
    have xm : x ∈ [x] := List.mem_singleton.mpr rfl
    -- steps, rows
    refine ⟨.ref s, rfl, .ref x, rfl, x, _, dx, [], rfl, hx, cl, T.Closing.n_steps, by show 0 < 1000; decide, ?_⟩
    have hx1 : (upd H x (.ins T.Closing.C dx (putF "steps" (.ref s) []))) x = some (.ins T.Closing.C dx (putF "steps" (.ref s) [])) := upd_same
    have gx1 : Gx [x] H (upd H x (.ins T.Closing.C dx (putF "steps" (.ref s) []))) := Gx.refl.wrS xm
    generalize upd H x (.ins T.Closing.C dx (putF "steps" (.ref s) [])) = H1 at *
    refine ⟨Nat.zero_le _, fun ro nro => ?_⟩
    have rox : ro ≠ x := fun z => by rw [z, hx1] at nro; cases nro
    have g2 : Gr H1 (upd H1 ro (.lst [])) := Gx.new nro
    have hro2 : (upd H1 ro (.lst [])) ro = some (.lst []) := upd_same
    have hx2 := Gx.at g2 (by simp) hx1 fun _ z => by cases z
    have gx2 := gx1.thn g2
    generalize upd H1 ro (.lst []) = H2 at *
    refine ⟨.ref x, rfl, x, _, dx, _, rfl, hx2, cl, T.Closing.n_rows, Nat.lt_of_le_of_lt (putF_le _ _ _) (by show 0 + 1 < 1000; decide), ?_⟩
    let fs2 : List (Str × V) := putF "rows" (.ref ro) (putF "steps" (.ref s) [])
    have l2 : fs2.length ≤ 2 := Nat.le_trans (putF_le _ _ _) (Nat.succ_le_succ (putF_le _ _ _))
    have hx3 : (upd H2 x (.ins T.Closing.C dx fs2)) x = some (.ins T.Closing.C dx fs2) := upd_same
    have hro3 : (upd H2 x (.ins T.Closing.C dx fs2)) ro = some (.lst []) := by rw [upd_ne rox]; exact hro2
    have gx3 : Gx [x] H (upd H2 x (.ins T.Closing.C dx fs2)) := gx2.wrS xm
    have e2 : (putF "rows" (V.ref ro) (putF "steps" (V.ref s) []) : List (Str × V)) = fs2 := rfl
    rw [e2]
    have nroH : H ro = none := (Gx.freeS gx1 nro).elim (fun z => absurd (List.mem_singleton.mp z) rox) id
    generalize upd H2 x (.ins T.Closing.C dx fs2) = H3 at *
    have hs3 := gx3.at (fun z => sx (List.mem_singleton.mp z)) hs fun _ z => by cases z
    -- known
    refine ⟨.ref s, rfl, s, rfl, ⟨_, .inl (.inl hs3)⟩, fun D nD => ?_⟩
    refine lc_list (K := K) (a := s) (xs := as.map V.ref) (fun j H' => Gr H3 H' ∧ ∃ ds : List Addr, H' D = some (.lst (ds.map V.ref)) ∧ ds.length = j ∧ ds.Nodup ∧ ∀ d ∈ ds, H' d = some (.dT []) ∧ H3 d = none) ⟨Gx.new nD, [], upd_same, rfl, List.nodup_nil, fun d hd => by simp at hd⟩
      (fun j H' _ p => .inl (.inl (p.1.lst hs3))) (fun j v H' ev p => ?_) (fun H4 p => ?_)
    · obtain ⟨g5, ds, hD2, dl, dn, dq⟩ := p
      have hj : j < as.length := by
        have := (List.getElem?_eq_some_iff.mp ev).1
        rwa [List.length_map] at this
      refine ⟨rfl, yesT fun d nd' => ?_⟩
      have gd : Gr H' (upd H' d (.dT [])) := Gx.new nd'
      have dD2 : d ≠ D := fun z => by rw [z, hD2] at nd'; cases nd'
      have dds : d ∉ ds := fun hm => by rw [(dq d hm).1] at nd'; cases nd'
      refine ⟨_, gd.lst hD2, ?_, (g5.trans gd).wr nD, ds ++ [d], by rw [upd_same, List.map_append]; rfl, by rw [List.length_append, dl]; rfl, ?_, fun c hc => ?_⟩
      · rw [List.length_map]
        exact small1000 (by omega)
      · rw [List.nodup_append]
        exact ⟨dn, by simp, fun a ha b hb => by
          rw [List.mem_singleton.mp hb]
          rintro rfl
          exact dds ha⟩
      · rcases List.mem_append.mp hc with hc | hc
        · have hcD : c ≠ D := fun z => by
            have := (dq c hc).1
            rw [z, hD2] at this
            cases this
          have hcd : c ≠ d := fun z => dds (z ▸ hc)
          rw [upd_ne hcD, upd_ne hcd]
          exact dq c hc
        · rw [List.mem_singleton.mp hc, upd_ne dD2, upd_same]
          exact ⟨rfl, Gr.free g5 nd'⟩
    obtain ⟨g4, ds, hD4, dl, dn, dq⟩ := p
    rw [List.length_map, asl, Sl] at dl
    refine fun d1 nd1 => ⟨by show 1 ≤ sizeLine; decide, fun pl npl => ?_⟩
    have gd1 : Gr H4 (upd H4 d1 (.dT [])) := Gx.new nd1
    have gpl : Gr (upd H4 d1 (.dT [])) (upd (upd H4 d1 (.dT [])) pl (.lst [.ref d1])) := Gx.new npl
    have hd1 : (upd (upd H4 d1 (.dT [])) pl (.lst [.ref d1])) d1 = some (.dT []) := Gx.at gpl (by simp) upd_same fun _ z => by cases z
    have hD5 := (gd1.trans gpl).lst hD4
    have hpl : (upd (upd H4 d1 (.dT [])) pl (.lst [.ref d1])) pl = some (.lst [.ref d1]) := upd_same
    have dq5 : ∀ d ∈ ds ++ [d1], (upd (upd H4 d1 (.dT [])) pl (.lst [.ref d1])) d = some (.dT []) ∧ H3 d = none := fun d hd => by
      rcases List.mem_append.mp hd with hd | hd
      · exact ⟨Gx.at (gd1.trans gpl) (by simp) (dq d hd).1 (fun _ z => by cases z), (dq d hd).2⟩
      · rw [List.mem_singleton.mp hd]
        exact ⟨hd1, Gr.free g4 nd1⟩
    have dn5 : (ds ++ [d1]).Nodup := by
      rw [List.nodup_append]
      exact ⟨dn, by simp, fun a ha b hb => by
        rw [List.mem_singleton.mp hb]
        rintro rfl
        rw [(dq a ha).1] at nd1
        cases nd1⟩
    have g5 : Gr H3 (upd (upd H4 d1 (.dT [])) pl (.lst [.ref d1])) := g4.trans (gd1.trans gpl)
    generalize upd (upd H4 d1 (.dT [])) pl (.lst [.ref d1]) = H5 at *
    refine ⟨D, pl, _, _, rfl, rfl, hD5, hpl, by rw [List.length_map]; exact Nat.le_of_lt (small1000 (show ds.length + 1 ≤ 1000 by omega)), fun kn nkn => ?_⟩
    have gk : Gr H5 (upd H5 kn (.lst (ds.map V.ref ++ [.ref d1]))) := Gx.new nkn
    have hkn6 : (upd H5 kn (.lst (ds.map V.ref ++ [.ref d1]))) kn = some (.lst ((ds ++ [d1]).map V.ref)) := by rw [upd_same, List.map_append]; rfl
    have dq6 : ∀ d ∈ ds ++ [d1], (upd H5 kn (.lst (ds.map V.ref ++ [.ref d1]))) d = some (.dT []) ∧ H3 d = none := fun d hd => ⟨Gx.at gk (by simp) (dq5 d hd).1 (fun _ z => by cases z), (dq5 d hd).2⟩
    have g6 := TK.Gx.trans g5 gk
    have nknH3 : H3 kn = none := Gr.free g5 nkn
    generalize upd H5 kn (.lst (ds.map V.ref ++ [.ref d1])) = H6 at *
    have kdl : (ds ++ [d1]).length = k + 1 := by rw [List.length_append, dl]; rfl
    generalize ds ++ [d1] = kds at *
    have hx6 := Gx.at g6 (by simp) hx3 fun _ z => by cases z
    have hro6 := Gx.at g6 (by simp) hro3 fun _ z => by cases z
    have knx : kn ≠ x := fun z => by rw [z, hx3] at nknH3; cases nknH3
    have knro : kn ≠ ro := fun z => by rw [z, hro3] at nknH3; cases nknH3
    refine ⟨.ref x, rfl, x, _, dx, fs2, rfl, hx6, cl, T.Closing.n_known, by omega, ?_⟩
    let fs3 : List (Str × V) := putF "known" (.ref kn) fs2
    have l3 : fs3.length ≤ 3 := Nat.le_trans (putF_le _ _ _) (Nat.succ_le_succ l2)
    have hx7 : (upd H6 x (.ins T.Closing.C dx fs3)) x = some (.ins T.Closing.C dx fs3) := upd_same
    have gx7 : Gx [x] H3 (upd H6 x (.ins T.Closing.C dx fs3)) := (TK.Gr.x g6).wrS xm
    have kx : ∀ d ∈ kds, d ≠ x := fun d hd z => by
      have := (dq6 d hd).2
      rw [z, hx3] at this
      cases this
    have dq7 : ∀ d ∈ kds, (upd H6 x (.ins T.Closing.C dx fs3)) d = some (.dT []) := fun d hd => by rw [upd_ne (kx d hd)]; exact (dq6 d hd).1
    have hkn7 : (upd H6 x (.ins T.Closing.C dx fs3)) kn = some (.lst (kds.map V.ref)) := by rw [upd_ne knx]; exact hkn6
    have hro7 : (upd H6 x (.ins T.Closing.C dx fs3)) ro = some (.lst []) := by rw [upd_ne rox]; exact hro6
    have e3 : (putF "known" (V.ref kn) fs2 : List (Str × V)) = fs3 := rfl
    rw [e3]
    generalize upd H6 x (.ins T.Closing.C dx fs3) = H7 at *
    have hs7 := gx7.at (fun z => sx (List.mem_singleton.mp z)) hs3 fun _ z => by cases z
    -- states
    refine ⟨.ref s, rfl, s, rfl, ⟨_, .inl (.inl hs7)⟩, fun ss nss => ?_⟩
    refine lc_list (K := K) (a := s) (xs := as.map V.ref) (fun j H' => Gr H7 H' ∧ ∃ es : List Addr, H' ss = some (.lst (es.map V.ref)) ∧ es.length = j ∧ es.Nodup ∧ ss ∉ es ∧ ∀ d ∈ es, H' d = some (.lst []) ∧ H7 d = none) ⟨Gx.new nss, [], upd_same, rfl, List.nodup_nil, by simp, fun d hd => by simp at hd⟩
      (fun j H' _ p => .inl (.inl (p.1.lst hs7))) (fun j v H' ev p => ?_) (fun H8 p => ?_)
    · obtain ⟨g5, es, hD2, el, en, sse, eq⟩ := p
      have hj : j < as.length := by
        have := (List.getElem?_eq_some_iff.mp ev).1
        rwa [List.length_map] at this
      refine ⟨rfl, yesT ⟨Nat.zero_le _, fun d nd' => ?_⟩⟩
      have gd : Gr H' (upd H' d (.lst [])) := Gx.new nd'
      have dD2 : d ≠ ss := fun z => by rw [z, hD2] at nd'; cases nd'
      have dds : d ∉ es := fun hm => by rw [(eq d hm).1] at nd'; cases nd'
      refine ⟨_, gd.lst hD2, ?_, (g5.trans gd).wr nss, es ++ [d], by rw [upd_same, List.map_append]; rfl, by rw [List.length_append, el]; rfl, ?_, fun hm => ?_, fun c hc => ?_⟩
      · rw [List.length_map]
        exact small1000 (by omega)
      · rw [List.nodup_append]
        exact ⟨en, by simp, fun a ha b hb => by
          rw [List.mem_singleton.mp hb]
          rintro rfl
          exact dds ha⟩
      · rcases List.mem_append.mp hm with hm | hm
        · exact sse hm
        · exact dD2 (List.mem_singleton.mp hm).symm
      · rcases List.mem_append.mp hc with hc | hc
        · have hcD : c ≠ ss := fun z => sse (z ▸ hc)
          have hcd : c ≠ d := fun z => dds (z ▸ hc)
          rw [upd_ne hcD, upd_ne hcd]
          exact eq c hc
        · rw [List.mem_singleton.mp hc, upd_ne dD2, upd_same]
          exact ⟨rfl, Gr.free g5 nd'⟩
    obtain ⟨g8, sds, hss8, sl, sn, sse, eq⟩ := p
    rw [List.length_map, asl, Sl] at sl
    have hx8 := Gx.at g8 (by simp) hx7 fun _ z => by cases z
    refine ⟨.ref x, rfl, x, _, dx, fs3, rfl, hx8, cl, T.Closing.n_states, by omega, ?_⟩
    have ssx : ss ≠ x := fun z => by rw [z, hx7] at nss; cases nss
    have ex : ∀ d ∈ sds, d ≠ x := fun d hd z => by
      have := (eq d hd).2
      rw [z, hx7] at this
      cases this
    have hro8 := Gx.at g8 (by simp) hro7 fun _ z => by cases z
    have hkn8 := Gx.at g8 (by simp) hkn7 fun _ z => by cases z
    have dq8 : ∀ d ∈ kds, H8 d = some (.dT []) := fun d hd => Gx.at g8 (by simp) (dq7 d hd) fun _ z => by cases z
    have hx9 : (upd H8 x (.ins T.Closing.C dx (putF "states" (.ref ss) fs3))) x = some (.ins T.Closing.C dx (cF s ro kn ss)) := upd_same
    have gx9 : Gx [x] H7 (upd H8 x (.ins T.Closing.C dx (putF "states" (.ref ss) fs3))) := (TK.Gr.x g8).wrS xm
    have hro9 : (upd H8 x (.ins T.Closing.C dx (putF "states" (.ref ss) fs3))) ro = some (.lst []) := by rw [upd_ne rox]; exact hro8
    have hkn9 : (upd H8 x (.ins T.Closing.C dx (putF "states" (.ref ss) fs3))) kn = some (.lst (kds.map V.ref)) := by rw [upd_ne knx]; exact hkn8
    have hss9 : (upd H8 x (.ins T.Closing.C dx (putF "states" (.ref ss) fs3))) ss = some (.lst (sds.map V.ref)) := by rw [upd_ne ssx]; exact hss8
    have dq9 : ∀ d ∈ kds, (upd H8 x (.ins T.Closing.C dx (putF "states" (.ref ss) fs3))) d = some (.dT []) := fun d hd => by rw [upd_ne (kx d hd)]; exact dq8 d hd
    have eq9 : ∀ d ∈ sds, (upd H8 x (.ins T.Closing.C dx (putF "states" (.ref ss) fs3))) d = some (.lst []) := fun d hd => by rw [upd_ne (ex d hd)]; exact (eq d hd).1
    generalize upd H8 x (.ins T.Closing.C dx (putF "states" (.ref ss) fs3)) = H9 at *
    have gall : Gx [x] H H9 := (gx3.trans gx7).trans gx9
    -- states[0].append
    have h0 : 0 < sds.length := by omega
    have ee : sds[0]? = some sds[0] := List.getElem?_eq_getElem h0
    generalize sds[0] = e at ee
    have em := List.mem_of_getElem? ee
    have eev : (sds.map V.ref)[0]? = some (.ref e) := by rw [List.getElem?_map, ee]; rfl
    have sse' : ss ∉ ro :: sds := fun z => by
      rcases List.mem_cons.mp z with z | z
      · rw [z, hro7] at nss
        cases nss
      · exact sse z
    have kne' : kn ∉ ro :: sds := fun z => by
      rcases List.mem_cons.mp z with z | z
      · exact knro z
      · have := (eq kn z).2
        rw [hkn7] at this
        cases this
    have rse' : ro ∉ sds := fun z => by
      have := (eq ro z).2
      rw [hro7] at this
      cases this
    have freeH : ∀ b, H3 b = none → b ≠ x → Hb b = none := fun b h3 hb => Gr.free gb ((Gx.freeS gx3 h3).elim (fun z => absurd (List.mem_singleton.mp z) hb) id)
    have free7 : ∀ b, H7 b = none → b ≠ x → H3 b = none := fun b h7 hb => (Gx.freeS gx7 h7).elim (fun z => absurd (List.mem_singleton.mp z) hb) id
    have fin : ∀ (tz : Addr) (H10 : Hp), Gr H9 H10 → H10 tz = some (.tup ((z0 ar).map V.int)) → CSt K T.Closing.C Hb (upd H10 e (.lst [.ref tz])) x s ro kn ss kds sds (stepsFrom sz k [tab]) (c0 k ar) := fun tz H10 g10 htz => by
      have he10 := g10.lst (eq9 e em)
      have ne : ∀ b o, H9 b = some o → b ≠ e → (∀ ps, o ≠ .tbl ps) → (upd H10 e (.lst [.ref tz])) b = some o := fun b o eb hb ho => by
        rw [upd_ne hb]
        exact Gx.at g10 (by simp) eb ho
      have knd0 : kd [] = [] := rfl
      refine ⟨⟨dx, _, ne x _ hx9 (fun z => by rw [z, eq9 e em] at hx9; cases hx9) (fun _ z => by cases z), cF_steps s ro kn ss, cF_rows s ro kn ss, cF_known s ro kn ss, cF_states s ro kn ss, cF_no s ro kn ss (by decide +kernel) (by decide +kernel) (by decide +kernel) (by decide +kernel), cF_no s ro kn ss (by decide +kernel) (by decide +kernel) (by decide +kernel) (by decide +kernel), cF_no s ro kn ss (by decide +kernel) (by decide +kernel) (by decide +kernel) (by decide +kernel), cF_no s ro kn ss (by decide +kernel) (by decide +kernel) (by decide +kernel) (by decide +kernel)⟩,
        hS, ?_, fun b hb => ?_, ⟨[], ne ro _ hro9 (fun z => rse' (z ▸ em)) (fun _ z => by cases z), .nil⟩, ne kn _ hkn9 (fun z => kne' (List.mem_cons_of_mem _ (z ▸ em))) (fun _ z => by cases z), ne ss _ hss9 (fun z => sse (z ▸ em)) (fun _ z => by cases z), kne', sse', rse', by rw [kdl, Sl], by rw [sl, Sl], dn5, sn, fun d hd => ⟨[], ?_⟩, fun d hd => ?_, fun l d h1 h2 hd => ?_, fun l d hd => ?_⟩
      · intro b o hb eb
        have hbx' : b ≠ x := fun z => by rw [z, hbx] at eb; cases eb
        have hbe : Hb e = none := freeH e (free7 e (eq e em).2 (ex e em)) (ex e em)
        have hbe' : b ≠ e := fun z => by rw [z, hbe] at eb; cases eb
        refine (((gb b o hb eb).trans fun u e' => gall b u (fun z => hbx' (List.mem_singleton.mp z)) e').trans fun u e' => g10 b u (by simp) e').trans fun u e' => ?_
        exact .inl (by rw [upd_ne hbe']; exact e')
      · rcases List.mem_cons.mp hb with rfl | hb
        · exact Gr.free gb nroH
        · rcases List.mem_append.mp hb with hb | hb
          · exact freeH b (dq6 b hb).2 (kx b hb)
          · exact freeH b (free7 b (eq b hb).2 (ex b hb)) (ex b hb)
      · exact ne d _ (dq9 d hd) (fun z => by have := dq9 d hd; rw [z, eq9 e em] at this; cases this) fun _ z => by cases z
      · have hd := List.mem_of_getElem? hd
        exact ne d _ (dq9 d hd) (fun z => by have := dq9 d hd; rw [z, eq9 e em] at this; cases this) fun _ z => by cases z
      · have hd := List.mem_of_getElem? hd
        rw [c0_at, if_neg (by omega)]
        exact ne d _ (dq9 d hd) (fun z => by have := dq9 d hd; rw [z, eq9 e em] at this; cases this) fun _ z => by cases z
      · rw [c0_at]
        by_cases hl : l = 0
        · subst hl
          rw [ee] at hd
          cases hd
          rw [if_pos ⟨rfl, hk.1⟩]
          refine ⟨[.ref tz], upd_same, .one (.row ?_)⟩
          rw [upd_ne fun z => by rw [z, he10] at htz; cases htz]
          exact htz
        · rw [if_neg fun z => hl z.1]
          have hde : d ≠ e := fun z => by
            rw [z] at hd
            exact hl (nodup_at sn hd ee)
          exact ⟨[], ne d _ (eq9 d (List.mem_of_getElem? hd)) hde (fun _ z => by cases z), .nil⟩
    refine ⟨.ref x, rfl, x, _, dx, _, .ref ss, rfl, hx9, cl, T.Closing.n_states, cF_states s ro kn ss, ss, _, 0, .ref e, rfl, rfl, .inl (.inl hss9), atI_nat (j := 0) eev, .inl ⟨rfl, _, .inl (.inl (eq9 e em))⟩, by show 1 ≤ sizeLine; decide, fun t nt => ⟨.int ar, rfl, t, ar, _, rfl, rfl, .inl (.inl upd_same), by simp, by omega, by omega, by show 1 ≤ 1000; decide, fun e1 => ?_, fun e2 p np => ?_⟩⟩
    · have ea : ar = 1 := by omega
      have gt : Gr H9 (upd H9 t (.tup [.int 0])) := Gx.new nt
      refine ⟨e, [], .ref t, rfl, rfl, gt.lst (eq9 e em), by show 0 < sizeLine; decide, q ro kn ss kds sds _ (fin t _ gt ?_)⟩
      rw [upd_same, ea]
      rfl
    · have gt : Gr H9 (upd H9 t (.tup [.int 0])) := Gx.new nt
      have gp := Gx.trans gt (Gx.new (o := .tup (List.replicate ((ar : Nat) : Int).toNat [V.int 0]).flatten) np)
      refine ⟨e, [], .ref p, rfl, rfl, gp.lst (eq9 e em), by show 0 < sizeLine; decide, q ro kn ss kds sds _ (fin p _ gp ?_)⟩
      rw [upd_same, zeros_eq]
end K35

set_option Elab.async false
set_option linter.all false
set_option maxRecDepth 100000
set_option maxHeartbeats 4000000
namespace K35
open PySem PySem.Spec PyProof.Rows L2 TK MR
variable {P : Program} {w : World} {K : PySem.W.Frag} {mg : Str → Option Value} {base : Heap}
def rSortUE (K : PySem.W.Frag) : List V → Hp → VK → Prop := fun vs H Q => ∃ (d : Nat) (B : Int), 1 ≤ d ∧ rSortU K d B vs H Q
theorem cr_sortTE (K : PySem.W.Frag) {X : Cx} (hK : X.K = K := by rfl) : CallR X (.builtin "sorted") (rSortUE K) := by
  subst hK
  intro pins s σ H vs us Q I r h
  obtain ⟨d, B, h1, h⟩ := h
  exact cr_sortT h1 pins s σ H vs us Q I r h
theorem c1_snd {sz k ar : Nat} {tab : List Int} {rows : List (List Int)} (hk : 1 ≤ k) (nd : rows.Nodup) (good : ∀ r ∈ rows, r.length = ar ∧ ∀ x ∈ r, 0 ≤ x ∧ x < (sz : Int)) : Snd sz k ar tab rows ⟨rows, (c0 k ar).Ss⟩ where
  len := (snd_c0 (sz := sz) (tab := tab) (rows := rows) hk).len
  st := fun l hl s hs => by
    obtain ⟨t, a, b, c⟩ := (snd_c0 (sz := sz) (ar := ar) (tab := tab) (rows := rows) hk).st l hl s hs
    exact ⟨t, a, fun r hr => by
      have := b r hr
      unfold c0 at this
      simp at this, c⟩
  nd := (snd_c0 (sz := sz) (tab := tab) (rows := rows) hk).nd
  ndR := nd
  ok := fun r hr => ⟨good r hr, fun X o => o.1 r hr⟩
/-! closure -/
def sp_closure (T : Txt K mg base) : Sp := fun vs H Q _ => ∃ (sz k ar : Nat) (v u : V) (tab : List Int) (rows : List (List Int)), vs = [.int sz, v, u] ∧ Fit sz k ar tab ∧ DT K H v (opD k tab) ∧ DT K H u (relD ar rows) ∧ RelOk sz ar rows ∧ (∃ X : List (List Int), Over sz k tab ar rows X ∧ X.length ≤ 8) ∧ TT T.tabs H ∧
  ∀ z rs H', Gr H H' → DT K H' z (relD ar rs) → RelOk sz ar rs → rs.length ≤ 8 → Least sz k tab ar rows rs → Q z H'
theorem ok_closure (T : Txt K mg base) : FnOk P w K mg base CX0 9 T.closure.f T.closure.fd p_closure (sp_closure T) := by
  refine T.closure.F.ok sc_closure (fun vs H Q E h => ?_) (fun A outer sh H vs Q E hr h => ?_)
  · obtain ⟨_, _, _, _, _, _, _, rfl, _⟩ := h
    rfl
  · obtain ⟨sz, k, ar, v, u, tab, rows, rfl, F, hv, hu, R, ⟨X, hX, X8⟩, hT, q⟩ := h
    refine ⟨_, pss_cons (ps_expr (pe_call (ok_check_size T) (hr.mono (by decide)) (by rfl) T.check_size.g T.check_size.F.kp T.check_size.b .nil pass0 (pa_cons (pv 0) pa_nil)))
      (pss_cons (ps_expr (pe_call (ok_check_operation T) (hr.mono (by decide)) (by rfl) T.check_operation.g T.check_operation.F.kp T.check_operation.b .nil pass0 (pa_cons (pv 0) (pa_cons (pv 1) pa_nil))))
      (pss_cons (ps_expr (pe_call (ok_check_relation T) hr (by rfl) T.check_relation.g T.check_relation.F.kp T.check_relation.b .nil pass0 (pa_cons (pv 0) (pa_cons (pv 2) pa_nil))))
      (pss_cons (ps_asg (pv 2) (pg_tup (by rfl) (pgs_cons (pg_name (i := 3) sc_closure.nd rfl (by first | exact .inl rfl | exact .inr rfl)) (pgs_cons (pg_name (i := 4) sc_closure.nd rfl (by first | exact .inl rfl | exact .inr rfl)) pgs_nil))))
      (pss_cons (ps_set (i := 5) sc_closure.nd rfl (by first | exact .inl rfl | exact .inr rfl) (pe_make T.Closing.make (ok_init T) (hr.mono (by decide)) (by rfl) T.Closing.g T.Closing.b_init .nil pass0 (pa_cons (pe_call (ok_argument_steps T) (hr.mono (by decide)) (by rfl) T.argument_steps.g T.argument_steps.F.kp T.argument_steps.b .nil pass0 (pa_cons (pv 0) (pa_cons (pv 1) pa_nil))) (pa_cons (pv 3) pa_nil))))
      (pss_cons (ps_for PassesOwn.never rfl (pi_tupK K (pv 4)) (pg_name (i := 6) sc_closure.nd rfl (by first | exact .inl rfl | exact .inr rfl)) (pss_one (ps_expr (pe_meth (pv 5) T.Closing.cl T.Closing.h_keep (ok_keep T) (hr.mono (by decide)) T.Closing.b_keep .nil pass0 (pa_cons (pv 6) pa_nil)))))
      (pss_cons (ps_expr (pe_meth (pv 5) T.Closing.cl T.Closing.h_close (ok_close T) (hr.mono (by decide)) T.Closing.b_close .nil pass0 (pa_cons (pe_call (ok_power_of T) (hr.mono (by decide)) (by rfl) T.power_of.g T.power_of.F.kp T.power_of.b .nil pass0 (pa_cons (pv 0) (pa_cons (pv 3) pa_nil))) pa_nil)))
      (pss_one (ps_ret (pe_tup (pa_cons (pv 3) (pa_cons (pe_callTy (call_tuple_ofK K) (by rfl) T.b_tuple boot_tuple (pa_cons (pe_callB (cr_sortTE K) (by rfl) T.b_sorted boot_sorted (pa_cons (pe_fld (pv 5) rfl) pa_nil)) pa_nil)) pa_nil))))))))))), ?_⟩
    have cl := T.Closing.cl
    have s4 := F.s4
    have s1 := F.s1
    have a1 := F.a1
    have a4 := F.a4
    have hk1 := F.k1
    have hk3 := F.k3
    have O : TabOk4 sz k tab := ⟨F.k1, by omega, F.len, F.val⟩
    have good : ∀ r ∈ rows, r.length = ar ∧ ∀ z ∈ r, 0 ≤ z ∧ z < (sz : Int) := RelOk.good R
    have nd := asc_nodup R.asc
    have rows8 : rows.length ≤ 8 := Nat.le_trans (len_le_of_sub nd hX.1) X8
    refine ⟨.int sz, rfl, sz, rfl, ⟨by omega, by omega⟩, ?_⟩
    refine ⟨.int sz, rfl, v, rfl, sz, k, v, tab, rfl, F.s4, hv, O, hT, fun H1 g1 => ?_⟩
    refine ⟨.int sz, rfl, u, rfl, sz, ar, u, rows, rfl, hu.gr g1, g1.tt hT, R, fun H2 g2 => ?_⟩
    have g02 := g1.trans g2
    obtain ⟨ua, us, rfl, hua, hus⟩ := (hu.gr g02).tup_invS
    obtain ⟨v1, r1, rfl, h3, h4⟩ := hus.cons_inv
    obtain ⟨v2, r2, rfl, h5, h6⟩ := h4.cons_inv
    have := h6.nil_inv
    subst this
    have e1 := h3.int_inv
    subst e1
    obtain ⟨rt, xs, rfl, hrt, hrd⟩ := h5.tup_invS
    have xl : xs.length = rows.length := by rw [hrd.1, List.length_map]
    refine ⟨.ref ua, rfl, ua, _, rfl, .inl (.inl hua), rfl, .int ar, [.ref rt], rfl, .ref rt, [], rfl, rfl, ?_⟩
    refine ⟨.int sz, rfl, v, rfl, sz, k, v, tab, rfl, F.s1, F.s4, hv.gr g02, O, fun s H3 g3 ns hS => ⟨.int ar, rfl, fun x dx nx ndx nex => ?_⟩⟩
    have g4 : Gr H3 (upd (upd H3 dx (.own x)) x (.ins T.Closing.C dx [])) := (Gx.new ndx).trans (Gx.new (by rw [upd_ne nex.symm]; exact nx))
    have hx4 : (upd (upd H3 dx (.own x)) x (.ins T.Closing.C dx [])) x = some (.ins T.Closing.C dx []) := upd_same
    generalize upd (upd H3 dx (.own x)) x (.ins T.Closing.C dx []) = H4 at *
    have hrt3 := Gx.tupS g3 .nil hrt
    have hrd3 := TK.DTs.gr g3 hrd
    refine ⟨H3, x, dx, s, sz, k, ar, tab, rfl, hx4, nx, g4, hS, ⟨F.k1, F.k3⟩, ⟨F.a1, F.a4⟩, fun ro kn ss kds sds H5 B5 => ⟨rfl, ?_⟩⟩
    refine ⟨.ref rt, rfl, rt, rfl, ⟨_, .inl (.inl (Gx.tupS B5.gb .nil hrt3))⟩, ?_⟩
    refine for_tup (K := K) (a := rt) (xs := xs) (fun i σ H' => ∃ y6, σ = [some (.int sz), some v, some (.ref ua), some (.int ar), some (.ref rt), some (.ref x), y6] ∧ CSt K T.Closing.C H3 H' x s ro kn ss kds sds (stepsFrom sz k [tab]) ⟨rows.take i, (c0 k ar).Ss⟩)
      ⟨none, rfl, B5⟩ (fun i σ H' _ hp => by
        obtain ⟨_, _, B'⟩ := hp
        exact .inl (.inl (Gx.tupS B'.gb .nil hrt3))) (fun i xr σ H' ex hp => ?_) (fun σ H' hp => ?_)
    · obtain ⟨y6, rfl, B'⟩ := hp
      obtain ⟨d, ed, dr⟩ := hrd3.at' ex
      rw [List.getElem?_map] at ed
      obtain ⟨r, er, rfl⟩ := Option.map_eq_some_iff.mp ed
      have hi : i < rows.length := (List.getElem?_eq_some_iff.mp er).1
      have hnot : r ∉ rows.take i := fun hm => by
        obtain ⟨j, hj, e⟩ := List.mem_iff_getElem.mp hm
        rw [List.length_take] at hj
        have pw := List.pairwise_iff_getElem.mp nd j i (by omega) hi (by omega)
        rw [List.getElem_take] at e
        rw [List.getElem?_eq_getElem hi] at er
        exact pw (e.trans (Option.some.inj er).symm)
      obtain ⟨dx1, fs1, hx1, j1, j2, j3, j4, j5, j6, j7, j8⟩ := B'.hob
      refine ⟨.ref x, rfl, x, dx1, fs1, rfl, hx1, j5, xr, rfl, H3, x, s, ro, kn, ss, kds, sds, _, _, xr, r, rfl, B', dr.gr B'.gb, by show (rows.take i).length ≤ 900; rw [List.length_take]; omega, fun H6 g6 B6 => ⟨_, rfl, ?_⟩⟩
      have e : addK (rows.take i) r = rows.take (i + 1) := by
        rw [List.take_add_one, er]
        exact if_neg hnot
      rw [← e]
      exact B6
    · obtain ⟨y6, rfl, B'⟩ := hp
      rw [xl, List.take_length] at B'
      have SN := c1_snd (tab := tab) F.k1 nd good
      obtain ⟨dx1, fs1, hx1, j1, j2, j3, j4, j5, j6, j7, j8⟩ := B'.hob
      refine ⟨.ref x, rfl, x, dx1, fs1, rfl, hx1, j6, .int sz, rfl, .int ar, rfl, sz, ar, rfl, F.s4, by omega, ?_⟩
      refine ⟨H3, x, s, ro, kn, ss, kds, sds, sz, k, ar, tab, rows, _, rfl, F, B', SN, z0_c0 F.k1, fun H6 c' g6 B6 S6 E6 sh => ?_⟩
      obtain ⟨dx2, fs2, hx2, i1, i2, i3, i4, i5, i6, i7, i8⟩ := B6.hob
      obtain ⟨ws, hw, hwd⟩ := B6.hrw
      have R8 : c'.R.length ≤ 8 := Nat.le_trans (len_le_of_sub S6.ndR fun r hr => (S6.ok r hr).2 X hX) X8
      have wl : ws.length = c'.R.length := by rw [hwd.1, List.length_map]
      have vals : ∀ r ∈ c'.R, r.length = ar ∧ TS.Bd 4 r := fun r hr => ⟨(S6.ok r hr).1.1, fun m hm => by have := (S6.ok r hr).1.2 m hm; omega⟩
      refine ⟨.int ar, rfl, .ref x, rfl, x, _, dx2, fs2, .ref ro, rfl, hx2, cl, T.Closing.n_rows, i2, ar, 4, F.a1, ro, ws, rfl, .inl (.inl hw), by omega, fun y hy => ?_, fun ys p2 pm pw np2 => ?_⟩
      · obtain ⟨h1, h2⟩ := rows_each hwd y hy
        obtain ⟨t, e1, e2⟩ := h1.row_invS
        exact ⟨_, ⟨t, e1, .inl (.inl e2)⟩, vals _ h2⟩
      obtain ⟨qs, qd, qp, qw⟩ := sorted_rows (B := 4) (d := ar) hwd pm S6.ndR vals (pw.imp fun h n m hn hm => h n m (let ⟨t, a, b⟩ := hn; ⟨t, a, .inl (.inl b)⟩) (let ⟨t, a, b⟩ := hm; ⟨t, a, .inl (.inl b)⟩))
      refine ⟨p2, ys, rfl, .inl ⟨.inl (.inl upd_same), fun l nl => ⟨by show 2 ≤ sizeLine; decide, fun t nt => ?_⟩⟩⟩
      have g7 : Gr H6 (upd (upd H6 p2 (.lst ys)) l (.tup ys)) := (Gx.new np2).trans (Gx.new nl)
      refine q _ qs _ ((TK.Gx.trans (TK.Gx.trans g02 g3) B6.gb).trans (TK.Gx.trans g7 (Gx.new nt))) (rel_laid (.mk upd_same (qd.gr g7)) nt) ?_ (by rw [qp.length_eq]; exact R8) ?_
      · exact ⟨by omega, by omega, fun z hz => by have := (S6.ok z (qp.mem_iff.mp hz)).1.1; omega, fun z hz y hy => by have := (S6.ok z (qp.mem_iff.mp hz)).1.2 y hy; omega, qw, by rw [qp.length_eq]; omega⟩
      · exact .of qp sh (fun r hr => E6.1.subset hr) fun Y o r hr => (S6.ok r hr).2 Y o
end K35

set_option Elab.async false
set_option linter.all false
set_option maxRecDepth 100000
set_option maxHeartbeats 4000000
namespace K35
open PySem PySem.Spec PyProof.Rows L2 TK MR
variable {P : Program} {w : World} {K : PySem.W.Frag} {mg : Str → Option Value} {base : Heap}
/-! _law_kept -/
def sp_law_keptS (K : PySem.W.Frag) : Sp := fun vs H Q _ => ∃ (r c : Addr) (sz ar k : Nat) (v : V) (tab : List Int), vs = [.ref r, .int sz, v, .int ar] ∧ RowSt K H r c ∧ Lv K H c ∧ (1 ≤ sz ∧ sz ≤ 4) ∧ (1 ≤ ar ∧ ar ≤ 4) ∧ DT K H v (opD k tab) ∧ OpOk sz k tab ∧
  ∀ z (rs : List (List Int)) H', Gx [r] H H' → RowSt K H' r c → DT K H' z (relD ar rs) → rs ≠ [] → rs.length ≤ 8 → RelOk sz ar rs → Shut sz k tab ar rs → Q z H'
theorem ok_law_keptS (T : Txt K mg base) : FnOk P w K mg base CX0 4 T.law_kept.f T.law_kept.fd p_law_kept (sp_law_keptS K) := by
  refine T.law_kept.F.ok sc_law_kept (fun vs H Q E h => ?_) (fun A outer s H vs Q E hr h => ?_)
  · obtain ⟨_, _, _, _, _, _, _, rfl, _⟩ := h
    rfl
  · obtain ⟨r, c, sz, ar, k, v, tab, rfl, hR, hc, ⟨s1, s4⟩, ⟨a1, a4⟩, hv, O, q⟩ := h
    refine ⟨_, pss_cons (ps_set (i := 4) sc_law_kept.nd rfl (.inl rfl) (pe_call (ok_law_some_rows T) hr (by rfl) T.law_some_rows.g T.law_some_rows.F.kp T.law_some_rows.b .nil pass0 (pa_cons (pv 0) (pa_cons (pv 1) (pa_cons (pv 3) (pa_cons pe_int pa_nil))))))
      (pss_cons (ps_set (i := 5) sc_law_kept.nd rfl (.inl rfl) (pe_call (ok_law_closedS T) hr (by rfl) T.law_closed.g T.law_closed.F.kp T.law_closed.b .nil pass0 (pa_cons (pv 1) (pa_cons (pv 2) (pa_cons (pv 3) (pa_cons (pv 4) pa_nil))))))
      (pss_one (ps_ret (pe_ifExp (pt_cmpR op_notN (pv 5) pe_non (nomark _)) (pv 5) (pe_call (ok_law_closedS T) hr (by rfl) T.law_closed.g T.law_closed.F.kp T.law_closed.b .nil pass0 (pa_cons (pv 1) (pa_cons (pv 2) (pa_cons (pv 3) (pa_cons (pe_slice sl_tup (pv 4) po_none (po_some pe_int)) pa_nil))))))))), ?_⟩
    refine ⟨.ref r, rfl, .int sz, rfl, .int ar, rfl, r, c, sz, ar, 3, rfl, hR, hc, ⟨s1, s4⟩, ⟨a1, a4⟩, ⟨by omega, by omega⟩, fun u rows H1 g1 hR1 hu hne hl R => ?_⟩
    have hv1 : DT K H1 v (opD k tab) := hv.gx g1 hR.ls
    refine ⟨.int sz, rfl, v, rfl, .int ar, rfl, u, rfl, sz, ar, k, v, u, tab, rows, rfl, ⟨s1, s4⟩, ⟨a1, a4⟩, hv1, .of O, hu, hne, by omega, R, fun H2 g2 no => ?_, fun z rs H2 g2 dz Rz lz nz le => ?_⟩
    · refine ⟨.non, rfl, rfl, _, rfl, ?_⟩
      rw [show (!decide (V.non = V.non)) = false by simp]
      refine iteF ?_
      obtain ⟨a, us, rfl, ha, hus⟩ := (hu.gr g2).tup_invS
      have ul : us.length = rows.length := by rw [hus.1, List.length_map]
      have good := RelOk.good R
      have two : 2 ≤ rows.length := by
        match rows, hne with
        | [x], _ => exact absurd (clo_one O (good x List.mem_cons_self).1 (good x List.mem_cons_self).2) no
        | _ :: _ :: _, _ => simp
      match rows, us, hne with
      | x :: rows', y :: us', _ =>
        obtain ⟨hy, _⟩ : DT K H2 y (rowD x) ∧ True := by
          obtain ⟨w1, ws1, e, h1, _⟩ := hus.cons_inv
          cases e
          exact ⟨h1, trivial⟩
        refine ⟨.int sz, rfl, v, rfl, .int ar, rfl, .ref a, rfl, 1, rfl, a, y :: us', rfl, .inl (.inl ha), not_whole (by omega), fun p np => ?_⟩
        have gp : Gr H2 (upd H2 p (.tup (cutV (y :: us') none (some 1)))) := Gx.new np
        refine ⟨sz, ar, k, v, .ref p, tab, [x], rfl, ⟨s1, s4⟩, ⟨a1, a4⟩, hv1.gr (g2.trans gp), .of O, ?_, by simp, by simp, ?_, fun H3 g3 no => ?_, fun z rs H3 g3 dz Rz lz nz le => ?_⟩
        · rw [cut_first] at gp ⊢
          exact .mk upd_same (.one (hy.gr gp))
        · exact ⟨R.ar1, R.ar4, fun q hq => R.len q (by rw [List.mem_singleton.mp hq]; exact List.mem_cons_self), fun q hq => R.val q (by rw [List.mem_singleton.mp hq]; exact List.mem_cons_self), by simp, by simp⟩
        · exact absurd (clo_one O (good x List.mem_cons_self).1 (good x List.mem_cons_self).2) no
        · have g4 := (g2.trans gp).trans g3
          exact q z rs H3 (g1.thn g4) (hR1.gr g4) dz nz (by omega) Rz le.shut
    · refine ⟨z, rfl, rfl, _, rfl, ?_⟩
      obtain ⟨a, xs, rfl, _⟩ := dz.tup_inv
      rw [show (!decide (V.ref a = V.non)) = true by simp]
      exact iteT ⟨.ref a, rfl, q _ rs H2 (g1.thn g2) (hR1.gr g2) dz nz (by omega) Rz le.shut⟩

end K35

set_option Elab.async false
set_option linter.all false
/-! forks: the rows that show the forks of a relation make it, where an operation with p(x, x, y) = y and p(x, y, y) = x keeps it -/
namespace MR
def Malt (sz : Nat) (tab : List Int) : Prop := ∀ x y : Int, 0 ≤ x → x < sz → 0 ≤ y → y < sz → tab.getD (idxI sz [x, x, y]).toNat 0 = y ∧ tab.getD (idxI sz [x, y, y]).toNat 0 = x
def minusT (sz : Nat) : List Int := ((named sz).getD 3 (0, [])).2
def maltB (sz : Nat) (tab : List Int) : Bool := (List.range sz).all fun x => (List.range sz).all fun y => decide (tab.getD (idxI sz [(x : Int), x, y]).toNat 0 = (y : Int)) && decide (tab.getD (idxI sz [(x : Int), y, y]).toNat 0 = (x : Int))
theorem malt_of {sz : Nat} {tab : List Int} (h : maltB sz tab = true) : Malt sz tab := fun x y hx0 hx1 hy0 hy1 => by
  obtain ⟨a, rfl⟩ := Int.eq_ofNat_of_zero_le hx0
  obtain ⟨b, rfl⟩ := Int.eq_ofNat_of_zero_le hy0
  have h1 := List.all_eq_true.mp h a (List.mem_range.mpr (by omega))
  have h2 := List.all_eq_true.mp h1 b (List.mem_range.mpr (by omega))
  rw [Bool.and_eq_true] at h2
  exact ⟨of_decide_eq_true h2.1, of_decide_eq_true h2.2⟩
theorem minus_malt {sz : Nat} (h1 : 1 ≤ sz) (h4 : sz ≤ 4) : Malt sz (minusT sz) := by
  have e : sz = 1 ∨ sz = 2 ∨ sz = 3 ∨ sz = 4 := by omega
  rcases e with rfl | rfl | rfl | rfl
  · exact malt_of (by decide +kernel)
  · exact malt_of (by decide +kernel)
  · exact malt_of (by decide +kernel)
  · exact malt_of (by decide +kernel)
/-- the rows C show each fork of R -/
def Shows (ar : Nat) (R C : List (List Int)) : Prop := ∀ i, i < ar → ∀ a ∈ R, ∀ b ∈ R, (∀ j, j < i → a.getD j 0 = b.getD j 0) → ∃ r ∈ C, ∃ s ∈ C, (∀ j, j < i → r.getD j 0 = s.getD j 0) ∧ r.getD i 0 = a.getD i 0 ∧ s.getD i 0 = b.getD i 0
theorem getD_good {sz ar : Nat} {r : List Int} (hs : 1 ≤ sz) (h : r.length = ar ∧ ∀ x ∈ r, 0 ≤ x ∧ x < (sz : Int)) (i : Nat) : 0 ≤ r.getD i 0 ∧ r.getD i 0 < (sz : Int) := getD_ok h.2 (by omega) i
theorem compact_makes {sz ar : Nat} {tab : List Int} {R C : List (List Int)} (hs : 1 ≤ sz) (M : Malt sz tab) (good : ∀ r ∈ R, r.length = ar ∧ ∀ x ∈ r, 0 ≤ x ∧ x < (sz : Int)) (sh : Shut sz 3 tab ar R) (hC : ∀ r ∈ C, r ∈ R) (a1 : 1 ≤ ar) (hf : Shows ar R C) :
    ∀ X, Over sz 3 tab ar C X → ∀ t ∈ R, t ∈ X := fun X o t ht => by
  have key : ∀ j, j < ar → ∃ u, u ∈ X ∧ u ∈ R ∧ ∀ i, i ≤ j → u.getD i 0 = t.getD i 0 := by
    intro j
    induction j with
    | zero =>
      intro h
      obtain ⟨r, hr, _, _, _, e, _⟩ := hf 0 h t ht t ht fun _ h => absurd h (Nat.not_lt_zero _)
      exact ⟨r, o.1 r hr, hC r hr, fun i hi => by
        have : i = 0 := by omega
        subst this
        exact e⟩
    | succ j ih =>
      intro h
      obtain ⟨u, uX, uR, eu⟩ := ih (by omega)
      obtain ⟨r, hr, s, hs', ers, er, es⟩ := hf (j + 1) h u uR t ht fun i hi => eu i (by omega)
      have tri : ∀ (Y : List (List Int)), u ∈ Y → r ∈ Y → s ∈ Y → ∀ q ∈ [u, r, s], q ∈ Y := fun Y a b c q hq => by
        simp only [List.mem_cons, List.not_mem_nil, or_false] at hq
        rcases hq with rfl | rfl | rfl
        · exact a
        · exact b
        · exact c
      refine ⟨carried sz tab [u, r, s] ar, o.2 _ rfl (tri X uX (o.1 r hr) (o.1 s hs')), sh _ rfl (tri R uR (hC r hr) (hC s hs')), fun i hi => ?_⟩
      rw [carried_getD (by omega)]
      show tab.getD (idxI sz [u.getD i 0, r.getD i 0, s.getD i 0]).toNat 0 = _
      obtain ⟨u0, u1⟩ := getD_good hs (good u uR) i
      obtain ⟨r0, r1⟩ := getD_good hs (good r (hC r hr)) i
      obtain ⟨t0, t1⟩ := getD_good hs (good t ht) i
      by_cases hij : i = j + 1
      · subst hij
        rw [er, es]
        exact (M _ _ u0 u1 t0 t1).1
      · rw [← ers i (by omega), (M _ _ u0 u1 r0 r1).2]
        exact eu i (by omega)
  obtain ⟨u, uX, uR, eu⟩ := key (ar - 1) (by omega)
  have e : u = t := ext_getD (by rw [(good u uR).1, (good t ht).1]) fun a ha => eu a (by have := (good t ht).1; omega)
  rw [← e]
  exact uX
end MR

set_option Elab.async false
set_option linter.all false
/-! the forks of a relation, each with the first pair of rows that shows it -/
namespace MR
abbrev Fk := List Int × List Int × List Int
def agr (i : Nat) (a b : List Int) : Prop := ∀ j, j < i → a.getD j 0 = b.getD j 0
def agrB (i : Nat) (a b : List Int) : Bool := (List.range i).all fun j => decide (a.getD j 0 = b.getD j 0)
theorem agrB_iff {i : Nat} {a b : List Int} : agrB i a b = true ↔ agr i a b := by
  unfold agrB agr
  rw [List.all_eq_true]
  exact ⟨fun h j hj => of_decide_eq_true (h j (List.mem_range.mpr hj)), fun h j hj => decide_eq_true (h j (List.mem_range.mp hj))⟩
def tr (i : Nat) (a b : List Int) : List Int := [(i : Int), a.getD i 0, b.getD i 0]
def addF (acc : List Fk) (x : Fk) : List Fk := if x.1 ∈ acc.map (·.1) then acc else acc ++ [x]
/-- the first n places of a pair, as far as they come -/
def plF (a b : List Int) (n : Nat) : List Fk := ((List.range n).filter fun i => agrB i a b).map fun i => (tr i a b, a, b)
def rowF (a : List Int) (bs : List (List Int)) (ar : Nat) : List Fk := bs.flatMap fun b => plF a b ar
def allF (as bs : List (List Int)) (ar : Nat) : List Fk := as.flatMap fun a => rowF a bs ar
def forksF (rows : List (List Int)) (ar : Nat) : List Fk := (allF rows rows ar).foldl addF []
theorem plF_agr {a b : List Int} {n : Nat} (h : agr n a b) : plF a b (n + 1) = plF a b n ++ [(tr n a b, a, b)] := by
  unfold plF
  rw [List.range_succ, List.filter_append, List.map_append]
  rw [show List.filter (fun i => agrB i a b) [n] = [n] from by simp [agrB_iff.mpr h]]
  rfl
theorem plF_stop {a b : List Int} {p n : Nat} (hp : a.getD p 0 ≠ b.getD p 0) (hn : p + 1 ≤ n) : plF a b n = plF a b (p + 1) := by
  induction n with
  | zero => omega
  | succ n ih =>
    by_cases e : n = p
    · rw [e]
    · rw [← ih (by omega)]
      unfold plF
      rw [List.range_succ, List.filter_append]
      have : agrB n a b = false := by
        cases h : agrB n a b with
        | false => rfl
        | true => exact absurd (agrB_iff.mp h p (by omega)) hp
      rw [show List.filter (fun i => agrB i a b) [n] = [] from by simp [this], List.append_nil]
theorem rowF_snoc {a b : List Int} {bs : List (List Int)} {ar : Nat} : rowF a (bs ++ [b]) ar = rowF a bs ar ++ plF a b ar := by
  unfold rowF
  rw [List.flatMap_append]
  simp
theorem allF_snoc {a : List Int} {as bs : List (List Int)} {ar : Nat} : allF (as ++ [a]) bs ar = allF as bs ar ++ rowF a bs ar := by
  unfold allF
  rw [List.flatMap_append]
  simp
theorem mem_addF {acc : List Fk} {x y : Fk} (h : y ∈ addF acc x) : y ∈ acc ∨ y = x := by
  unfold addF at h
  split at h
  · exact .inl h
  · rcases List.mem_append.mp h with h | h
    · exact .inl h
    · exact .inr (List.mem_singleton.mp h)
theorem key_addF {acc : List Fk} {x : Fk} {k : List Int} : k ∈ (addF acc x).map (·.1) ↔ k ∈ acc.map (·.1) ∨ k = x.1 := by
  unfold addF
  split
  · rename_i h
    exact ⟨.inl, fun z => z.elim id fun e => e ▸ h⟩
  · rw [List.map_append, List.mem_append]
    simp
theorem nd_addF {acc : List Fk} {x : Fk} (h : (acc.map (·.1)).Nodup) : ((addF acc x).map (·.1)).Nodup := by
  unfold addF
  split
  · exact h
  · rename_i hn
    rw [List.map_append, List.nodup_append]
    exact ⟨h, by simp, fun a ha b hb => by
      rw [List.mem_singleton.mp hb]
      rintro rfl
      exact hn ha⟩
theorem mem_fold : ∀ {l acc : List Fk} {y : Fk}, y ∈ l.foldl addF acc → y ∈ acc ∨ y ∈ l
  | [], _, _, h => .inl h
  | x :: l, acc, y, h => by
    rcases mem_fold (l := l) h with h | h
    · exact (mem_addF h).imp id fun e => by rw [e]; exact List.mem_cons_self
    · exact .inr (List.mem_cons_of_mem _ h)
theorem key_fold : ∀ {l acc : List Fk} {k : List Int}, k ∈ (l.foldl addF acc).map (·.1) ↔ k ∈ acc.map (·.1) ∨ k ∈ l.map (·.1)
  | [], acc, k => by simp
  | x :: l, acc, k => by
    rw [List.foldl_cons, key_fold (l := l), key_addF, List.map_cons, List.mem_cons]
    exact ⟨fun h => h.elim (fun h => h.elim .inl fun e => .inr (.inl e)) fun h => .inr (.inr h), fun h => h.elim (fun h => .inl (.inl h)) fun h => h.elim (fun e => .inl (.inr e)) .inr⟩
theorem nd_fold : ∀ {l acc : List Fk}, (acc.map (·.1)).Nodup → ((l.foldl addF acc).map (·.1)).Nodup
  | [], _, h => h
  | _ :: l, _, h => nd_fold (l := l) (nd_addF h)
theorem mem_allF {rows bs : List (List Int)} {ar : Nat} {x : Fk} : x ∈ allF rows bs ar ↔ ∃ a ∈ rows, ∃ b ∈ bs, ∃ i, i < ar ∧ agr i a b ∧ x = (tr i a b, a, b) := by
  unfold allF rowF plF
  simp only [List.mem_flatMap, List.mem_map, List.mem_filter, List.mem_range]
  constructor
  · rintro ⟨a, ha, b, hb, i, ⟨hi, h⟩, rfl⟩
    exact ⟨a, ha, b, hb, i, hi, agrB_iff.mp h, rfl⟩
  · rintro ⟨a, ha, b, hb, i, hi, h, rfl⟩
    exact ⟨a, ha, b, hb, i, ⟨hi, agrB_iff.mpr h⟩, rfl⟩
/-- what the forks hold -/
theorem forksF_mem {rows : List (List Int)} {ar : Nat} {x : Fk} (h : x ∈ forksF rows ar) : ∃ a ∈ rows, ∃ b ∈ rows, ∃ i, i < ar ∧ agr i a b ∧ x = (tr i a b, a, b) := by
  rcases mem_fold h with h | h
  · simp at h
  · exact mem_allF.mp h
theorem forksF_key {rows : List (List Int)} {ar : Nat} {k : List Int} : k ∈ (forksF rows ar).map (·.1) ↔ ∃ a ∈ rows, ∃ b ∈ rows, ∃ i, i < ar ∧ agr i a b ∧ k = tr i a b := by
  unfold forksF
  rw [key_fold]
  constructor
  · rintro (h | h)
    · simp at h
    · obtain ⟨x, hx, rfl⟩ := List.mem_map.mp h
      obtain ⟨a, ha, b, hb, i, hi, q, rfl⟩ := mem_allF.mp hx
      exact ⟨a, ha, b, hb, i, hi, q, rfl⟩
  · rintro ⟨a, ha, b, hb, i, hi, q, rfl⟩
    exact .inr (List.mem_map.mpr ⟨_, mem_allF.mpr ⟨a, ha, b, hb, i, hi, q, rfl⟩, rfl⟩)
theorem forksF_nd (rows : List (List Int)) (ar : Nat) : ((forksF rows ar).map (·.1)).Nodup := nd_fold .nil
/-- the rows of the pairs -/
def shownR (fs : List Fk) : List (List Int) := fs.flatMap fun x => [x.2.1, x.2.2]
theorem shows_forks (rows : List (List Int)) (ar : Nat) : Shows ar rows (shownR (forksF rows ar)) ∧ ∀ r ∈ shownR (forksF rows ar), r ∈ rows := by
  constructor
  · intro i hi a ha b hb hag
    obtain ⟨x, hx, e⟩ := List.mem_map.mp (forksF_key.mpr ⟨a, ha, b, hb, i, hi, hag, rfl⟩ : tr i a b ∈ (forksF rows ar).map (·.1))
    obtain ⟨a', ha', b', hb', i', hi', hag', rfl⟩ := forksF_mem hx
    have e : tr i' a' b' = tr i a b := e
    unfold tr at e
    injection e with e1 e2
    injection e2 with e2 e3
    injection e3 with e3 _
    have ei : i' = i := by omega
    subst ei
    exact ⟨a', List.mem_flatMap.mpr ⟨_, hx, by simp⟩, b', List.mem_flatMap.mpr ⟨_, hx, by simp⟩, hag', e2, e3⟩
  · intro r hr
    obtain ⟨x, hx, h⟩ := List.mem_flatMap.mp hr
    obtain ⟨a, ha, b, hb, i, hi, _, rfl⟩ := forksF_mem hx
    simp only [List.mem_cons, List.not_mem_nil, or_false] at h
    rcases h with rfl | rfl
    · exact ha
    · exact hb
end MR

set_option Elab.async false
set_option linter.all false
set_option maxRecDepth 100000
set_option maxHeartbeats 4000000
namespace VT
open PySem PySem.Spec PyProof.Rows L2
theorem frzTV {X : Cx} {pins : List (Addr × Obj)} {σ : L2.St} {H : Hp} {s : Shared} {d : Addr} {o : Obj} {kvs : List (List Key × V)} (I : Inv X pins σ H s) (h : H d = some (.frz o (.dT kvs))) :
    (d == sysModules) = false ∧ ∃ (es : Array DictEntry) (ep : Nat), s.heap.DictRaw d es ep ∧ o.data = .dict es ep ∧ es.size = kvs.length ∧
      ∀ (i : Nat) (k : List Key) (v : V), kvs[i]? = some (k, v) → ∃ (en : DictEntry), es[i]? = some en ∧ RelV v en.val := by
  obtain ⟨hd, z, hs, xs, pr, o', es, ep, ho, hx, hdt, he, _⟩ := I.hok d _ h
  rw [hd] at ho
  cases ho
  refine ⟨hs, es, ep, ⟨o, hd, hx, hdt⟩, hdt, ?_, fun i k v e => ?_⟩
  · have l1 : es.size = xs.length := size_of_entries he
    have l2 : kvs.length = xs.length := Paired.length pr
    omega
  · obtain ⟨b, hb, e1, e2, e3⟩ := paired_get pr e
    have q := entry_at he i
    rw [hb] at q
    exact ⟨_, q, e3⟩
/-- the values of the locked dict with tuple keys at d -/
def Itdt (d : Addr) (o : Obj) (kvs : List (List Key × V)) : It :=
  ⟨fun i H => H d = some (.frz o (.dT kvs)) ∧ i < kvs.length, fun i H x H' => H' = H ∧ ∃ k, kvs[i]? = some (k, x), fun i H => H d = some (.frz o (.dT kvs)) ∧ kvs.length ≤ i⟩
theorem turn_valsT {P : Program} {w : World} {K : PySem.W.Frag} {tg : Expr} {d : Addr} {o : Obj} {es : Array DictEntry} {ep : Nat} {kvs : List (List Key × V)} (it : Addr) (hod : o.data = .dict es ep) : Turn P w K tg (Itdt d o kvs) [it] it (fun i h => h.IsValIter it d i kvs.length ep) where
  mem := by simp
  obj := fun i h st b hb => by
    have e : b = it := by simpa using hb
    subst e
    obtain ⟨oi, e, c, dd⟩ := st
    exact ⟨oi, e, fun v z => by rw [dd] at z; cases z⟩
  keep := fun i h h' st k => st.at fun oi e => k it (by simp) oi e
  item := by
    intro X hP hw hK hc i pins s σ H E I hf st hg
    subst hP hw hK
    obtain ⟨hd, hi⟩ := hg
    obtain ⟨f0, f1, f2, f3, f4, f5⟩ := hf it (by simp)
    obtain ⟨hs, es', ep', hm, hdt, hsz, ent⟩ := frzTV I hd
    obtain ⟨rfl, rfl⟩ := dict_ep hod hdt
    obtain ⟨⟨k, v⟩, hkv⟩ : ∃ p, kvs[i]? = some p := ⟨kvs[i], List.getElem?_eq_getElem hi⟩
    obtain ⟨en, hen, rv⟩ := ent i k v hkv
    have hlt : i < es'.size := by omega
    rw [Array.getElem?_eq_getElem hlt] at hen
    have hen := Option.some.inj hen
    rw [← hsz] at st
    refine wpAny_pyNext_values_item_raw st hm hlt fun h' st' sb => ?_
    rw [hen]
    have I1 : Inv X pins σ H { s with heap := h' } := I.turned (t' := s.toks) (fun b ob hb e => (sb.2 b hb).trans e) f0 f1 f3 f4 f5
    obtain ⟨oi, e, c, dd⟩ := id st'
    refine ⟨en.val, rfl, go_of (s := { s with heap := h' }) e c dd (by decide) ⟨v, H, I1, rv, ⟨rfl, k, hkv⟩, ?_, fun b hb => (hf b hb).1⟩⟩
    show h'.IsValIter it d (i + 1) kvs.length _
    rw [← hsz]
    exact st'
  done := by
    intro X hP hw hK hc i pins s σ H E I hf st hg
    subst hP hw hK
    obtain ⟨hd, hi⟩ := hg
    obtain ⟨f0, f1, f2, f3, f4, f5⟩ := hf it (by simp)
    obtain ⟨hs, es', ep', hm, hdt, hsz, ent⟩ := frzTV I hd
    obtain ⟨rfl, rfl⟩ := dict_ep hod hdt
    rw [← hsz] at st
    exact wpAny_pyNext_values_end_raw (I.ok.hd hc) st hm (by omega) fun h' eb => ⟨rfl, I.turned (t' := s.toks) (fun b ob hb e => eb b ob hb e) f0 f1 f3 f4 f5⟩
  self := fun A i s Q E st h => wpAny_pyIter_valiter st h
def iValsT (td : TE) : TI := fun σ H R => td σ H fun x H1 => ∃ d o kvs, x = .ref d ∧ H1 d = some (.frz o (.dT kvs)) ∧ R (Itdt d o kvs) H1
theorem pi_valuesT {X : Cx} {tg e : Expr} {td : TE} {apos cpos : Pos} (he : PE X e td) (hbase : attributeBase e "values" X.env (eval e X.env) = eval e X.env := by rfl) (hline : (apos.endLine == cpos.line) = true := by rfl) : PI X tg (.Call (.Attribute e "values" apos) [] [] cpos) (iValsT td) := by
  refine ⟨fun pins s σ H R I h => ?_⟩
  refine wpAny_Call_method (T := "dict") (id := "dict.values") hbase rfl hline F.plainAttrs_dict F.slot_dict_values F.type_dict_values (thn (he.run pins s σ H _ I h) fun u s1 ⟨x, H1, I1, rx, d, o, kvs, ex, hd, q⟩ => ?_)
  subst ex
  obtain rfl : u = Value.ref d := rx
  obtain ⟨hs, es, ep, hm, hdt, hsz, ent⟩ := frzTV I1 hd
  obtain ⟨ob, hob, hox, hod⟩ := id hm
  refine ⟨⟨_, hob, hox.1⟩, ?_, ?_⟩
  · intro b e
    cases e
    exact ⟨ob, hob, hox.2.1⟩
  have I2 : Inv X pins σ H1 { s1 with heap := s1.heap.push { cls := .type "dict_values", data := .fields #[.ref d] } } := I1.kept (t' := s1.toks) fun b ob q => Heap.get?_push_of_some _ q
  have fin : wpAny (model X.prog X.w) X.A (pyIter (.ref s1.heap.objs.size)) (PIE X pins σ tg R) X.xe { s1 with heap := s1.heap.push { cls := .type "dict_values", data := .fields #[.ref d] } } := by
    refine wpAny_pyIter_values_raw (d := d) ⟨_, Heap.get?_push_size _ rfl, rfl, rfl⟩ (hm.at fun o e => Heap.get?_push_of_some _ e) (pi_one (tk := s1.toks) I2 _ (turn_valsT _ hdt) ⟨_, Heap.get?_push_size _ rfl, rfl, ?_⟩ q)
    rw [hsz] <;> rfl
  show wpAny _ _ (callWith cpos (.builtin "dict.values") [.ref d] [] []) _ X.xe s1
  exact method_meetsIn F.slot_dict_values F.entry_dict_values rfl (PySem.evalArgs_none ⟨rfl, ⟨_, hob, hox.1⟩, F.args_dict_values_1 _, _, meets_dict_values_raw d hs, ⟨es, ep, hm⟩, fin⟩)
/-- the same of a dict that nobody holds behind: it is locked from here on -/
def iValsN (td : TE) : TI := fun σ H R => td σ H fun x H1 => ∃ d kvs, x = .ref d ∧ H1 d = some (.dT kvs) ∧ ∀ o, R (Itdt d o kvs) (upd H1 d (.frz o (.dT kvs)))
theorem pi_valuesN {X : Cx} {tg e : Expr} {td : TE} {apos cpos : Pos} (he : PE X e td) (hbase : attributeBase e "values" X.env (eval e X.env) = eval e X.env := by rfl) (hline : (apos.endLine == cpos.line) = true := by rfl) : PI X tg (.Call (.Attribute e "values" apos) [] [] cpos) (iValsN td) := by
  refine ⟨fun pins s σ H R I h => ?_⟩
  refine wpAny_Call_method (T := "dict") (id := "dict.values") hbase rfl hline F.plainAttrs_dict F.slot_dict_values F.type_dict_values (thn (he.run pins s σ H _ I h) fun u s1 ⟨x, H0, I0, rx, d, kvs, ex, hd0, q0⟩ => ?_)
  subst ex
  obtain rfl : u = Value.ref d := rx
  obtain ⟨o, I1⟩ := I0.lock hd0 (by first | exact trivial | exact rfl | decide | simp [Mut])
  have hd : (upd H0 d (.frz o (.dT kvs))) d = some (.frz o (.dT kvs)) := upd_same
  have q := q0 o
  generalize upd H0 d (.frz o (.dT kvs)) = H1 at *
  obtain ⟨hs, es, ep, hm, hdt, hsz, ent⟩ := frzTV I1 hd
  obtain ⟨ob, hob, hox, hod⟩ := id hm
  refine ⟨⟨_, hob, hox.1⟩, ?_, ?_⟩
  · intro b e
    cases e
    exact ⟨ob, hob, hox.2.1⟩
  have I2 : Inv X pins σ H1 { s1 with heap := s1.heap.push { cls := .type "dict_values", data := .fields #[.ref d] } } := I1.kept (t' := s1.toks) fun b ob q => Heap.get?_push_of_some _ q
  have fin : wpAny (model X.prog X.w) X.A (pyIter (.ref s1.heap.objs.size)) (PIE X pins σ tg R) X.xe { s1 with heap := s1.heap.push { cls := .type "dict_values", data := .fields #[.ref d] } } := by
    refine wpAny_pyIter_values_raw (d := d) ⟨_, Heap.get?_push_size _ rfl, rfl, rfl⟩ (hm.at fun o e => Heap.get?_push_of_some _ e) (pi_one (tk := s1.toks) I2 _ (turn_valsT _ hdt) ⟨_, Heap.get?_push_size _ rfl, rfl, ?_⟩ q)
    rw [hsz] <;> rfl
  show wpAny _ _ (callWith cpos (.builtin "dict.values") [.ref d] [] []) _ X.xe s1
  exact method_meetsIn F.slot_dict_values F.entry_dict_values rfl (PySem.evalArgs_none ⟨rfl, ⟨_, hob, hox.1⟩, F.args_dict_values_1 _, _, meets_dict_values_raw d hs, ⟨es, ep, hm⟩, fin⟩)
theorem walk_valsT {d : Addr} {o : Obj} {kvs : List (List Key × V)} : Walk (Itdt d o kvs) kvs.length (fun H => H d = some (.frz o (.dT kvs))) (fun i H x H' => H' = H ∧ ∃ k, kvs[i]? = some (k, x)) :=
  ⟨fun _ _ hi q => ⟨q, hi⟩, fun _ q => ⟨q, Nat.le_refl _⟩, fun _ _ _ _ _ _ y => y⟩
end VT

set_option Elab.async false
set_option linter.all false
set_option maxRecDepth 100000
set_option maxHeartbeats 4000000
namespace K35
open PySem PySem.Spec PyProof.Rows L2 TK MR
variable {P : Program} {w : World} {K : PySem.W.Frag} {mg : Str → Option Value} {base : Heap}
def ke (ents : List (List Int × V)) : List (List Key × V) := ents.map fun e => (e.1.map Sum.inl, e.2)
theorem ke_none {ents : List (List Int × V)} {k : List Int} (h : valV (ke ents) (k.map Sum.inl) = none) : k ∉ ents.map (·.1) := fun hm => by
  obtain ⟨e, he, rfl⟩ := List.mem_map.mp hm
  unfold valV ke at h
  rw [Option.map_eq_none_iff] at h
  have := List.find?_eq_none.mp h (e.1.map Sum.inl, e.2) (List.mem_map.mpr ⟨e, he, rfl⟩)
  simp at this
theorem ke_some {ents : List (List Int × V)} {k : List Int} {v : V} (h : valV (ke ents) (k.map Sum.inl) = some v) : k ∈ ents.map (·.1) := by
  unfold valV ke at h
  obtain ⟨x, hx, _⟩ := Option.map_eq_some_iff.mp h
  have h1 := List.mem_of_find?_eq_some hx
  have h2 := List.find?_some hx
  obtain ⟨e, he, rfl⟩ := List.mem_map.mp h1
  exact List.mem_map.mpr ⟨e, he, inl_inj (of_decide_eq_true h2)⟩
theorem ke_put {ents : List (List Int × V)} {k : List Int} {v : V} (h : valV (ke ents) (k.map Sum.inl) = none) : putK (ke ents) (k.map Sum.inl) v = ke (ents ++ [(k, v)]) := by
  rw [putK_new _ h]
  unfold ke
  rw [List.map_append]
  rfl
/-- the dict as it stands: the forks that are found, each with its pair -/
structure Shw (K : PySem.W.Frag) (H : Hp) (fs : List Fk) (ents : List (List Int × V)) : Prop where
  keys : ents.map (·.1) = fs.map (·.1)
  val : ∀ (i : Nat) (e : List Int × V) (x : Fk), ents[i]? = some e → fs[i]? = some x → DT K H e.2 (.tuple [rowD x.2.1, rowD x.2.2])
theorem Shw.len {H : Hp} {fs : List Fk} {ents : List (List Int × V)} (h : Shw K H fs ents) : ents.length = fs.length := by
  have := congrArg List.length h.keys
  rwa [List.length_map, List.length_map] at this
theorem Shw.gr {H H' : Hp} {fs : List Fk} {ents : List (List Int × V)} (h : Shw K H fs ents) (g : ∀ v d, DT K H v d → DT K H' v d) : Shw K H' fs ents :=
  ⟨h.keys, fun i e x a b => g _ _ (h.val i e x a b)⟩
theorem Shw.snoc {H : Hp} {fs : List Fk} {ents : List (List Int × V)} (h : Shw K H fs ents) {x : Fk} {v : V} (hv : DT K H v (.tuple [rowD x.2.1, rowD x.2.2])) : Shw K H (fs ++ [x]) (ents ++ [(x.1, v)]) := by
  refine ⟨by rw [List.map_append, List.map_append, h.keys]; rfl, fun i e y a b => ?_⟩
  by_cases hi : i < ents.length
  · rw [List.getElem?_append_left hi] at a
    rw [List.getElem?_append_left (by rw [← h.len]; exact hi)] at b
    exact h.val i e y a b
  · rw [List.getElem?_append_right (by omega)] at a
    rw [List.getElem?_append_right (by rw [← h.len]; omega), ← h.len] at b
    have h0 : i - ents.length = 0 := by
      have := (List.getElem?_eq_some_iff.mp a).1
      simp at this
      omega
    rw [h0] at a b
    cases a
    cases b
    exact hv
/-- all triples of a place and two values below four -/
theorem few_of {fs : List Fk} {rows : List (List Int)} {ar : Nat} {l : List Fk} (e : fs = l.foldl addF []) (hl : ∀ x ∈ l, ∃ a ∈ rows, ∃ b ∈ rows, ∃ i, i < ar ∧ agr i a b ∧ x = (tr i a b, a, b)) (a4 : ar ≤ 4) (good : ∀ r ∈ rows, ∀ x ∈ r, 0 ≤ x ∧ x < 4) : fs.length ≤ 64 := by
  have nd : (fs.map (·.1)).Nodup := by rw [e]; exact nd_fold .nil
  have := len_le_of_sub nd (m := allRows 4 3) fun k hk => by
    obtain ⟨x, hx, rfl⟩ := List.mem_map.mp hk
    rw [e] at hx
    obtain ⟨a, ha, b, hb, i, hi, _, rfl⟩ := hl x ((mem_fold hx).elim (fun z => by simp at z) id)
    refine mem_allRows rfl fun y hy => ?_
    have g1 := getD_ok (sz := 4) (good a ha) (by decide) i
    have g2 := getD_ok (sz := 4) (good b hb) (by decide) i
    have hy : y ∈ [(i : Int), a.getD i 0, b.getD i 0] := hy
    simp only [List.mem_cons, List.not_mem_nil, or_false] at hy
    rcases hy with rfl | rfl | rfl
    · omega
    · exact g1
    · exact g2
  rw [List.length_map, allRows_len] at this
  exact this
theorem joinX {α : Type} {k : L2.St → Hp → Prop} {st : α → L2.St} {hp : α → Hp} {Pa : α → Prop} {G : Prop} (step : (∀ a, Pa a → k (st a) (hp a)) → G) (rest : ∀ a, Pa a → k (st a) (hp a)) : G := step rest
/-! _showing_pairs -/
def sp_showing_pairs (K : PySem.W.Frag) : Sp := fun vs H Q _ => ∃ (ar : Nat) (u : V) (rows : List (List Int)), vs = [u] ∧ DT K H u (relD ar rows) ∧ (1 ≤ ar ∧ ar ≤ 4) ∧ (∀ r ∈ rows, r.length = ar ∧ ∀ x ∈ r, 0 ≤ x ∧ x < 4) ∧
  ∀ d ents H', Gr H H' → H d = none → H' d = some (.dT (ke ents)) → Shw K H' (forksF rows ar) ents → Q (.ref d) H'
theorem ok_showing_pairs (T : Txt K mg base) : FnOk P w K mg base CX0 1 T.showing_pairs.f T.showing_pairs.fd p_showing_pairs (sp_showing_pairs K) := by
  refine T.showing_pairs.F.ok sc_showing_pairs (fun vs H Q E h => ?_) (fun A outer sh H vs Q E hr h => ?_)
  · obtain ⟨_, _, _, rfl, _⟩ := h
    rfl
  · obtain ⟨ar, u, rows, rfl, hu, har, good, q⟩ := h
    have hu1 : (A.deeper (envOfC "_showing_pairs" (defScope s_showing_pairs) sh.heap.objs.size T.showing_pairs.f (.ref T.showing_pairs.c))).units + 1 < cLine := by have := hr.un; omega
    refine ⟨_, pss_cons (ps_asg (pv 0) (pg_tup (by rfl) (pgs_cons (pg_name (i := 1) sc_showing_pairs.nd rfl (by first | exact .inl rfl | exact .inr rfl)) (pgs_cons (pg_name (i := 2) sc_showing_pairs.nd rfl (by first | exact .inl rfl | exact .inr rfl)) pgs_nil))))
      (pss_cons (ps_set (i := 3) sc_showing_pairs.nd rfl (by first | exact .inl rfl | exact .inr rfl) pe_dnewT)
      (pss_cons (ps_for PassesOwn.never rfl (pi_tupK K (pv 2)) (pg_name (i := 4) sc_showing_pairs.nd rfl (by first | exact .inl rfl | exact .inr rfl))
        (pss_one (ps_for PassesOwn.never rfl (pi_tupK K (pv 2)) (pg_name (i := 5) sc_showing_pairs.nd rfl (by first | exact .inl rfl | exact .inr rfl))
          (pss_one (ps_for PassesOwn.never rfl (pi_range1 (by rfl) T.b_range (pa_cons (pv 1) pa_nil)) (pg_name (i := 6) sc_showing_pairs.nd rfl (by first | exact .inl rfl | exact .inr rfl))
            (pss_cons (ps_expr (pe_bm PySem.F.plainAttrs_dict PySem.F.slot_dict_setdefault PySem.F.type_dict_setdefault (SD.mt_setT hu1) (pv 3) (pa_cons (pe_tup (pa_cons (pv 6) (pa_cons (pe_ix (ix_tupK K) (pv 4) (pv 6) (fun _ _ => rfl)) (pa_cons (pe_ix (ix_tupK K) (pv 5) (pv 6) (fun _ _ => rfl)) pa_nil)))) (pa_cons (pe_tup (pa_cons (pv 4) (pa_cons (pv 5) pa_nil))) pa_nil))))
            (pss_one (ps_if (pt_cmpR op_ne (pe_ix (ix_tupK K) (pv 4) (pv 6) (fun _ _ => rfl)) (pe_ix (ix_tupK K) (pv 5) (pv 6) (fun _ _ => rfl)) (nomark _)) (pss_one ps_break) pss_nil))))))))
      (pss_one (ps_ret (pv 3))))), ?_⟩
    obtain ⟨ua, us, rfl, hua, hus⟩ := hu.tup_invS
    obtain ⟨v1, r1, rfl, h3, h4⟩ := hus.cons_inv
    obtain ⟨v2, r2, rfl, h5, h6⟩ := h4.cons_inv
    have := h6.nil_inv
    subst this
    have e1 := h3.int_inv
    subst e1
    obtain ⟨rt, xs, rfl, hrt, hrd⟩ := h5.tup_invS
    have xl : xs.length = rows.length := by rw [hrd.1, List.length_map]
    refine ⟨.ref ua, rfl, ua, _, rfl, .inl (.inl hua), rfl, .int ar, [.ref rt], rfl, .ref rt, [], rfl, rfl, fun d nd => ?_⟩
    have gv : ∀ r ∈ rows, ∀ x ∈ r, 0 ≤ x ∧ x < 4 := fun r hr => (good r hr).2
    refine ⟨.ref rt, rfl, rt, rfl, ⟨_, .inl (.inl (Gx.tupS (Gx.new (S := []) nd) .nil hrt))⟩, ?_⟩
    refine for_tup (K := K) (a := rt) (xs := xs) (fun i σ H' => ∃ y4 y5 y6 ents, σ = [some (.ref ua), some (.int ar), some (.ref rt), some (.ref d), y4, y5, y6] ∧ Gr H H' ∧ H' d = some (.dT (ke ents)) ∧ Shw K H' ((allF (rows.take i) rows ar).foldl addF []) ents)
      ⟨none, none, none, [], rfl, Gx.new nd, upd_same, ⟨rfl, fun i e x a => by simp at a⟩⟩ (fun i σ H' _ hp => by
        obtain ⟨_, _, _, _, _, g, _⟩ := hp
        exact .inl (.inl (Gx.tupS g .nil hrt))) (fun i xa σ H' ex hp => ?_) (fun σ H' hp => ?_)
    · obtain ⟨y4, y5, y6, ents0, rfl, g0, hd0, S0⟩ := hp
      obtain ⟨da, eda, dva⟩ := hrd.at' ex
      rw [List.getElem?_map] at eda
      obtain ⟨a, ea, rfl⟩ := Option.map_eq_some_iff.mp eda
      have am := List.mem_of_getElem? ea
      obtain ⟨al, av⟩ := good a am
      refine ⟨.ref rt, rfl, rt, rfl, ⟨_, .inl (.inl (Gx.tupS g0 .nil hrt))⟩, ?_⟩
      refine for_tup (K := K) (a := rt) (xs := xs) (fun j σ H' => ∃ y5 y6 ents, σ = [some (.ref ua), some (.int ar), some (.ref rt), some (.ref d), some xa, y5, y6] ∧ Gr H H' ∧ H' d = some (.dT (ke ents)) ∧ Shw K H' ((allF (rows.take i) rows ar ++ rowF a (rows.take j) ar).foldl addF []) ents)
        ⟨y5, y6, ents0, rfl, g0, hd0, by
          have e : rowF a (rows.take 0) ar = [] := rfl
          rw [e, List.append_nil]
          exact S0⟩ (fun j σ H' _ hp => by
          obtain ⟨_, _, _, _, g, _⟩ := hp
          exact .inl (.inl (Gx.tupS g .nil hrt))) (fun j xb σ H' exb hp => ?_) (fun σ H' hp => ?_)
      · obtain ⟨y5, y6, ents1, rfl, g1, hd1, S1⟩ := hp
        obtain ⟨db, edb, dvb⟩ := hrd.at' exb
        rw [List.getElem?_map] at edb
        obtain ⟨b, eb, rfl⟩ := Option.map_eq_some_iff.mp edb
        have bm := List.mem_of_getElem? eb
        obtain ⟨bl, bv⟩ := good b bm
        have next : allF (rows.take i) rows ar ++ rowF a (rows.take (j + 1)) ar = allF (rows.take i) rows ar ++ rowF a (rows.take j) ar ++ plF a b ar := by
          rw [List.take_add_one, eb]
          show _ ++ rowF a (rows.take j ++ [b]) ar = _
          rw [rowF_snoc, List.append_assoc]
        have cand : ∀ p, p ≤ ar → ∀ x ∈ allF (rows.take i) rows ar ++ rowF a (rows.take j) ar ++ plF a b p, ∃ a ∈ rows, ∃ b ∈ rows, ∃ i, i < ar ∧ agr i a b ∧ x = (tr i a b, a, b) := fun p hp x hx => by
          rcases List.mem_append.mp hx with hx | hx
          · rcases List.mem_append.mp hx with hx | hx
            · obtain ⟨a', ha', r⟩ := mem_allF.mp hx
              exact ⟨a', List.mem_of_mem_take ha', r⟩
            · have : x ∈ allF [a] (rows.take j) ar := by
                unfold allF
                simpa using hx
              obtain ⟨a', ha', b', hb', r⟩ := mem_allF.mp this
              rw [List.mem_singleton.mp ha'] at r
              exact ⟨a, am, b', List.mem_of_mem_take hb', r⟩
          · unfold plF at hx
            obtain ⟨q, hq, rfl⟩ := List.mem_map.mp hx
            obtain ⟨h1, h2⟩ := List.mem_filter.mp hq
            exact ⟨a, am, b, bm, q, by have := List.mem_range.mp h1; omega, agrB_iff.mp h2, rfl⟩
        generalize allF (rows.take i) rows ar ++ rowF a (rows.take j) ar = base0 at *
        refine ⟨.int ar, rfl, ar, rfl, by omega, by omega, ?_⟩
        refine for_range (n := ((ar : Nat) : Int).toNat) (fun p σ H' => ∃ y6 ents, σ = [some (.ref ua), some (.int ar), some (.ref rt), some (.ref d), some xa, some xb, y6] ∧ Gr H H' ∧ H' d = some (.dT (ke ents)) ∧ Shw K H' ((base0 ++ plF a b p).foldl addF []) ents ∧ agr p a b)
          ⟨y6, ents1, rfl, g1, hd1, by
            have e : plF a b 0 = [] := rfl
            rw [e, List.append_nil]
            exact S1, fun j h => absurd h (Nat.not_lt_zero _)⟩ (fun p σ H' hpa hp => ?_) (fun σ H' hp => ?_)
        · obtain ⟨y6, ents2, rfl, g2, hd2, S2, ag⟩ := hp
          have hp4 : p < ar := by omega
          have few := few_of rfl (cand p (by omega)) har.2 gv
          have step : (base0 ++ plF a b (p + 1)).foldl addF [] = addF ((base0 ++ plF a b p).foldl addF []) (tr p a b, a, b) := by
            rw [plF_agr ag, ← List.append_assoc, List.foldl_append]
            rfl
          generalize (base0 ++ plF a b p).foldl addF [] = fs at *
          refine ⟨.ref d, rfl, .inr (.inr (.inl ⟨rfl, .inr ⟨_, hd2⟩⟩)), ?_⟩
          refine ⟨.int (0 + (p : Int)), rfl, xa, rfl, .int (0 + (p : Int)), rfl, row_ix (dva.gr g2) (a := p) (by omega) (by omega) ⟨xb, rfl, .int (0 + (p : Int)), rfl, row_ix (dvb.gr g2) (a := p) (by omega) (by omega) ⟨by show 3 ≤ sizeLine; decide, fun t1 nt1 => ⟨xa, rfl, xb, rfl, by show 2 ≤ sizeLine; decide, fun t2 nt2 => ?_⟩⟩⟩⟩
          have g3 : Gr H' (upd H' t1 (.tup [.int (0 + (p : Int)), .int (a.getD p 0), .int (b.getD p 0)])) := Gx.new nt1
          have ht1 : (upd H' t1 (.tup [.int (0 + (p : Int)), .int (a.getD p 0), .int (b.getD p 0)])) t1 = some (.tup ((tr p a b).map V.int)) := by
            rw [upd_same, Int.zero_add]
            rfl
          have hd3 : (upd H' t1 (.tup [.int (0 + (p : Int)), .int (a.getD p 0), .int (b.getD p 0)])) d = some (.dT (ke ents2)) := Gx.at g3 (by simp) hd2 fun _ z => by cases z
          generalize upd H' t1 (.tup [.int (0 + (p : Int)), .int (a.getD p 0), .int (b.getD p 0)]) = H3 at *
          have g4 : Gr H3 (upd H3 t2 (.tup [xa, xb])) := Gx.new nt2
          have ht2 : (upd H3 t2 (.tup [xa, xb])) t2 = some (.tup [xa, xb]) := upd_same
          have ht14 := Gx.tupS g4 .nil ht1
          have hd4 : (upd H3 t2 (.tup [xa, xb])) d = some (.dT (ke ents2)) := Gx.at g4 (by simp) hd3 fun _ z => by cases z
          have g04 : Gr H (upd H3 t2 (.tup [xa, xb])) := (TK.Gx.trans g2 g3).trans g4
          have g24 : Gr H' (upd H3 t2 (.tup [xa, xb])) := TK.Gx.trans g3 g4
          have dt2 : DT K (upd H3 t2 (.tup [xa, xb])) (.ref t2) (.tuple [rowD a, rowD b]) := .mk ht2 (.cons (dva.gr g04) (.one (dvb.gr g04)))
          have S4 : Shw K (upd H3 t2 (.tup [xa, xb])) fs ents2 := S2.gr fun v d h => h.gr g24
          generalize upd H3 t2 (.tup [xa, xb]) = H4 at *
          refine ⟨d, ke ents2, (tr p a b).map Sum.inl, t1, .ref t2, rfl, rfl, hd4, by rw [keys_ints]; exact ht14, ?_, fun v hv => ?_, fun hv => ?_⟩
          · have := S2.len
            unfold ke
            rw [List.length_map]
            exact small1000 (by omega)
          · have hin := ke_some hv
            rw [S4.keys] at hin
            have e : addF fs (tr p a b, a, b) = fs := if_pos hin
            have S5 : Shw K H4 (addF fs (tr p a b, a, b)) ents2 := by rw [e]; exact S4
            have g5 := g04
            have hd5 := hd4
            generalize ents2 = ents3 at S5 hd5
            rw [← step] at S5
            refine ⟨xa, rfl, .int (0 + (p : Int)), rfl, row_ix (dva.gr g5) (a := p) (by omega) (by omega) ⟨xb, rfl, .int (0 + (p : Int)), rfl, row_ix (dvb.gr g5) (a := p) (by omega) (by omega) ⟨rfl, _, rfl, ?_⟩⟩⟩
            refine ite2 (fun hne => ?_) (fun heq => ?_)
            · have hne : a.getD p 0 ≠ b.getD p 0 := fun z => by
                rw [z] at hne
                simp at hne
              refine ⟨_, _, ents3, rfl, g5, hd5, ?_⟩
              rw [next, plF_stop hne (by omega)]
              exact S5
            · have heq : a.getD p 0 = b.getD p 0 := Decidable.byContradiction fun z => heq (by rw [decide_eq_false fun h => z (V.int.inj h)]; rfl)
              refine ⟨_, ents3, rfl, g5, hd5, S5, fun j' hj' => ?_⟩
              by_cases h : j' < p
              · exact ag j' h
              · have : j' = p := by omega
                subst this
                exact heq
          · rw [ke_put hv]
            have hn := ke_none hv
            rw [S4.keys] at hn
            have e : addF fs (tr p a b, a, b) = fs ++ [(tr p a b, a, b)] := if_neg hn
            have kp : ∀ v dd, DT K H4 v dd → DT K (upd H4 d (.dT (ke (ents2 ++ [(tr p a b, .ref t2)])))) v dd := fun v dd h => DT.keep (fun x ys e => by
              rw [upd_ne fun z => by rw [z, hd4] at e; cases e]
              exact e) h
            have S5 : Shw K (upd H4 d (.dT (ke (ents2 ++ [(tr p a b, .ref t2)])))) (addF fs (tr p a b, a, b)) (ents2 ++ [(tr p a b, .ref t2)]) := by
              rw [e]
              exact (S4.gr kp).snoc (x := (tr p a b, a, b)) (kp _ _ dt2)
            have g5 : Gr H (upd H4 d (.dT (ke (ents2 ++ [(tr p a b, .ref t2)])))) := g04.wr nd
            have hd5 : (upd H4 d (.dT (ke (ents2 ++ [(tr p a b, .ref t2)])))) d = some (.dT (ke (ents2 ++ [(tr p a b, .ref t2)]))) := upd_same
            generalize upd H4 d (.dT (ke (ents2 ++ [(tr p a b, .ref t2)]))) = H5 at *
            generalize ents2 ++ [(tr p a b, V.ref t2)] = ents3 at *
            rw [← step] at S5
            refine ⟨xa, rfl, .int (0 + (p : Int)), rfl, row_ix (dva.gr g5) (a := p) (by omega) (by omega) ⟨xb, rfl, .int (0 + (p : Int)), rfl, row_ix (dvb.gr g5) (a := p) (by omega) (by omega) ⟨rfl, _, rfl, ?_⟩⟩⟩
            refine ite2 (fun hne => ?_) (fun heq => ?_)
            · have hne : a.getD p 0 ≠ b.getD p 0 := fun z => by
                rw [z] at hne
                simp at hne
              refine ⟨_, _, ents3, rfl, g5, hd5, ?_⟩
              rw [next, plF_stop hne (by omega)]
              exact S5
            · have heq : a.getD p 0 = b.getD p 0 := Decidable.byContradiction fun z => heq (by rw [decide_eq_false fun h => z (V.int.inj h)]; rfl)
              refine ⟨_, ents3, rfl, g5, hd5, S5, fun j' hj' => ?_⟩
              by_cases h : j' < p
              · exact ag j' h
              · have : j' = p := by omega
                subst this
                exact heq
        · obtain ⟨y6, ents2, rfl, g2, hd2, S2, ag⟩ := hp
          refine ⟨_, _, ents2, rfl, g2, hd2, ?_⟩
          rw [next]
          exact S2
      · obtain ⟨y5, y6, ents1, rfl, g1, hd1, S1⟩ := hp
        refine ⟨_, _, _, ents1, rfl, g1, hd1, ?_⟩
        rw [xl, List.take_length] at S1
        rw [List.take_add_one, ea]
        show Shw K H' ((allF (rows.take i ++ [a]) rows ar).foldl addF []) ents1
        rw [allF_snoc]
        exact S1
    · obtain ⟨y4, y5, y6, ents0, rfl, g0, hd0, S0⟩ := hp
      rw [xl, List.take_length] at S0
      exact ⟨.ref d, rfl, q d ents0 H' g0 nd hd0 S0⟩
end K35

set_option Elab.async false
set_option linter.all false
set_option maxRecDepth 100000
set_option maxHeartbeats 4000000
/-! set(xs), xs a list of tuples of ints, many of them equal: the different ones are few -/
namespace TK
open PySem PySem.Spec PyProof.Rows L2
/-- at most 62 different ones -/
def FewD (ks : List (Addr × List Int)) : Prop := ∀ D : List (List Int), D.Nodup → (∀ k ∈ D, k ∈ ks.map (·.2)) → D.length < 63
section
variable {P : Program} {w : World} {A : Around} {E : Value → Shared → Prop} {s : Shared}
theorem upd_loop {I : Addr} {fp wr : List Addr} {G : Array GenState → Array GenState → Prop} {n : Nat} {Pv : Nat → Value → Prop} {St : Nat → Shared → Prop} {R : Result → Shared → Prop}
    (W : WalksS P w A.in1 I fp wr G n Pv St) (a : Addr) (off : a ∉ fp) (ks : List (Addr × List Int)) (many : n = ks.length) (few : FewD ks) (val : ∀ i v, Pv i v → ∃ p, ks[i]? = some p ∧ v = .ref p.1)
    (b0 : Heap) (tup : ∀ p ∈ ks, IsT P w b0 p.2 p.1) (na : b0.get? a = none) (nw : ∀ b ∈ wr, b0.get? b = none) (room : A.in1.units < cLine) :
    ∀ (left i : Nat) (u : Shared), n - i = left → i ≤ n → St i u → (∀ b o, b0.get? b = some o → u.heap.get? b = some o) → (∃ L es ep t, SetTR P w u.heap a L es ep t ∧ Got ks i L) →
      (∀ u' L es ep t, Moved (a :: wr) G u u' → SetTR P w u'.heap a L es ep t → Got ks n L → (∀ b o, b0.get? b = some o → u'.heap.get? b = some o) → R (.ok (.ret .none)) u') →
      codeAny (model P w) A (.builtin "set.update.loop" ⟨[.ref a, .ref I], []⟩) R u := by
  have out : a ∉ wr := fun h => off (W.sub _ h)
  have wider : ∀ b ∈ wr, b ∈ a :: wr := fun b hb => List.mem_cons_of_mem _ hb
  have stays : ∀ {u u' : Shared}, Moved wr G u u' → (∀ b o, b0.get? b = some o → u.heap.get? b = some o) → ∀ b o, b0.get? b = some o → u'.heap.get? b = some o := fun m kp b o e =>
    m.heap b o (fun hb => by rw [nw b hb] at e; cases e) (kp b o e)
  intro left
  induction left with
  | zero =>
    intro i u hl hi st kp ⟨L, es, ep, t, RR, g⟩ fin
    obtain rfl : i = n := by omega
    refine codeAny_builtin F.entry_set_update_loop ?_
    rw [Around.under_plainId F.plain_set_update_loop _]
    show wpAny _ A.in1 (pyNext (.ref I) >>= _) _ _ u
    refine wpAny_bind (W.done u _ _ st fun u' m => ?_)
    have kp' := stays m kp
    have subL : ∀ p ∈ L, p ∈ ks := fun p hp => List.mem_of_mem_take (g.sub p hp)
    exact wpAny_pure (fin u' L es ep t (m.mono wider) (RR.keep (fun o e => m.heap a o out e) fun p hp => isT_keep (tup p (subL p hp)) kp') g kp')
  | succ left ih =>
    intro i u hl hi st kp ⟨L, es, ep, t, RR, g⟩ fin
    have lt : i < n := by omega
    refine codeAny_builtin F.entry_set_update_loop ?_
    rw [Around.under_plainId F.plain_set_update_loop _]
    show wpAny _ A.in1 (pyNext (.ref I) >>= _) _ _ u
    refine wpAny_bind (W.item i u _ _ lt st fun v u' pv st' m => ?_)
    obtain ⟨p, hp, rfl⟩ := val i v pv
    have kp' := stays m kp
    have subL : ∀ p ∈ L, p ∈ ks := fun p hp => List.mem_of_mem_take (g.sub p hp)
    have R1 : SetTR P w u'.heap a L es ep t := RR.keep (fun o e => m.heap a o out e) fun q hq => isT_keep (tup q (subL q hq)) kp'
    have tx : IsT P w u'.heap p.2 p.1 := isT_keep (tup p (List.mem_of_getElem? hp)) kp'
    have small : L.length + 1 < 64 := by
      have := few (L.map (·.2)) R1.nd fun k hk => by
        obtain ⟨q, hq, rfl⟩ := List.mem_map.mp hk
        exact List.mem_map.mpr ⟨q, subL q hq, rfl⟩
      rw [List.length_map] at this
      omega
    show wpAny _ A.in1 (holding [Value.ref p.1] (setAdd a (.ref p.1)) >>= _) _ _ u'
    refine wpAny_bind (wpAny_holding ?_)
    unfold setAdd
    refine wpAny_holding (wpAny_bind (wpAny_pyHash_tuple room tx ?_))
    refine add_at (s := { u' with toks := u'.toks + (p.2.length + 1) }) R1 tx room small fun b h' L' es' ep' t' same R2 c1 c2 => ?_
    have g' : Got ks (i + 1) L' := (Classical.em (p.2 ∈ L.map (·.2))).elim (fun c => by rw [c1 c]; exact g.same hp c) fun c => g.more hp (c2 c)
    have kp2 : ∀ b o, b0.get? b = some o → h'.get? b = some o := fun b o e => (same.2 b (fun z => by rw [z, na] at e; cases e)).trans (kp' b o e)
    refine wpAny_pure ⟨plainId_quiet F.plain_set_update_loop _, ih (i + 1) _ (by omega) lt (W.frame _ u' _ _ st' (Nat.le_add_right _ _) fun b hb o e => (same.2 b (fun z : b = a => off (by rw [← z]; exact hb))).trans e) kp2 ⟨L', es', ep', t', R2, g'⟩ fun u2 L2 es2 ep2 t2 m2 R3 g2 kp3 => ?_⟩
    exact fin u2 L2 es2 ep2 t2 (Moved.trans W.gtrans ((m.mono wider).then_heap (Nat.le_add_right _ _) fun b o hb e => (same.2 b (fun z : b = a => hb (by rw [z]; exact List.mem_cons_self))).trans e) m2) R3 g2 kp3
theorem set_of_list {l : Addr} {items : Array Value} (ks : List (Addr × List Int)) {Q : Value → Shared → Prop} (hh : A.handled = none) (hl : s.heap.IsList l items) (hit : items.toList = ks.map fun p => Value.ref p.1)
    (hk : ∀ p ∈ ks, IsT P w s.heap p.2 p.1) (few : FewD ks) (hu : A.units + 3 < cLine)
    (h : ∀ (h' : Heap) (tk : Nat) L es ep t, SetTR P w h' s.heap.objs.size L es ep t → Got ks ks.length L → (∀ b o, s.heap.get? b = some o → h'.get? b = some o) → Q (.ref s.heap.objs.size) { s with heap := h', toks := tk }) :
    wpAny (model P w) A (call (.type "set") [.ref l]) Q E s := by
  have many : items.size = ks.length := by
    have q := congrArg List.length hit
    rw [Array.length_toList, List.length_map] at q
    exact q
  obtain ⟨c, tl, hmro⟩ := F.called_set.mro
  have hmade := F.called_set.made
  have hsub := F.called_set.sub
  refine wpAny_call (codeAny_of_tree ?_)
  show wpAny _ _ (callAny (.type "set") _) _ _ _
  refine wpAny_pure ⟨Code.quiet_builtin _ (by decide +kernel), codeAny_builtin F.entry_type_call ?_⟩
  rw [Around.under_plain (weight_type_call_type "set" [.ref l] []) rfl]
  have h1 := F.called_set.notType
  have h2 := F.called_set.canCreate
  have hct := F.typeCall_set_1 (.ref l)
  repeat (any_goals (first | assumption | wp_step))
  refine codeAny_mono (code_set_led1 (.ref l) (E := E) (Q₁ := fun obj s₁ => obj = .ref s.heap.objs.size ∧ s₁ = { s with heap := s.heap.push (bareSet w) }) ⟨rfl, rfl⟩) fun r s₁ hr => ?_
  cases r with
  | error e => exact hr
  | ok fl =>
    cases fl with
    | ret obj =>
      obtain ⟨rfl, rfl⟩ := hr
      have hS : (s.heap.push (bareSet w)).get? s.heap.objs.size = some (bareSet w) := Heap.get?_push_size _ rfl
      have hT : Shared.TypeIs { s with heap := s.heap.push (bareSet w) } (.ref s.heap.objs.size) "set" := ⟨_, hS, rfl⟩
      have hli := F.called_set.init.lookup
      have hbi := F.called_set.init.bind (.ref s.heap.objs.size)
      repeat (any_goals (first | assumption | wp_step))
      refine codeAny_mono (codeAny_call_builtin (R := wants (fun r s₂ => r = .none ∧ ∃ h' tk L es ep t, s₂ = { s with heap := h', toks := tk } ∧ SetTR P w h' s.heap.objs.size L es ep t ∧ Got ks ks.length L ∧ (∀ b o, s.heap.get? b = some o → h'.get? b = some o)) E)
        F.called_set.init.plain F.entry_set_init (check_set_init_1 hT ?_)) fun r₂ s₂ hr₂ => ?_
      · obtain ⟨ol, hol, hcl, nl, hdl⟩ := hl
        obtain ⟨ocls, odict, odata, oslots⟩ := ol
        simp only at hcl hdl
        subst hcl; subst hdl
        have hol' : (s.heap.push (bareSet w)).get? l = some { cls := .type "list", dict := odict, data := .seq items nl, slots := oslots } := Heap.get?_push_of_some _ hol
        have hsls := F.sub_list_set
        have hslf := F.sub_list_frozenset
        have hne : (Value.type "list" == Value.type "dict") = false := by decide
        have hl1 : (s.heap.push (bareSet w)).IsList l items := ⟨_, hol', rfl, nl, rfl⟩
        unfold Builtin.«set.__init__» noKeywords Builtin.Frozenset.updateFrom
        generalize hPI : pyIter = PI
        wp_walk
        subst hPI
        refine wpAny_pyIter_list hl1 (wpAny_bind (wpAny_runValue ?_))
        have lt : l < s.heap.objs.size := Heap.lt_size hol
        have hh3 : A.in1.in1.in1.handled = none := by simp [hh]
        have z1 : (s.heap.push (bareSet w)).objs.size = s.heap.objs.size + 1 := Heap.size_push ..
        have apart : l ≠ (s.heap.push (bareSet w)).objs.size := by
          rw [Heap.size_push]
          exact Nat.ne_of_lt (Nat.lt_succ_of_lt lt)
        have away : s.heap.objs.size ∉ [(s.heap.push (bareSet w)).objs.size, l] := by
          simp only [List.mem_cons, List.not_mem_nil, or_false, not_or]
          rw [Heap.size_push]
          exact ⟨Nat.ne_of_lt (Nat.lt_succ_self _), Nat.ne_of_gt lt⟩
        have val : ∀ (i : Nat) (v : Value), items[i]? = some v → ∃ p, ks[i]? = some p ∧ v = .ref p.1 := fun i v hv => by
          have q : items.toList[i]? = some v := by rw [Array.getElem?_toList]; exact hv
          rw [hit, List.getElem?_map] at q
          obtain ⟨p, hp, e⟩ := Option.map_eq_some_iff.mp q
          exact ⟨p, hp, e.symm⟩
        have none_of : ∀ b, s.heap.objs.size ≤ b → s.heap.get? b = none := fun b hb => by
          cases q : s.heap.get? b with
          | none => rfl
          | some o => exact absurd (Nat.lt_of_lt_of_le (Heap.lt_size q) hb) (Nat.lt_irrefl _)
        refine upd_loop ((Walks.list hh3 _ l apart items).toS) s.heap.objs.size away ks many few val s.heap hk (none_of _ (Nat.le_refl _)) (fun b hb => none_of b (by
            rw [List.mem_singleton.mp hb, Heap.size_push]
            exact Nat.le_succ _)) hu (items.size - 0) 0 _ (by omega) (Nat.zero_le _)
          ⟨⟨_, Heap.get?_push_size _ rfl, rfl, rfl⟩, (hl1.push _)⟩ (fun b o e => Heap.get?_push_of_some _ (Heap.get?_push_of_some _ e)) ?start ?stop
        case start =>
          exact ⟨[], #[], 0, _, setTR_fresh (Heap.get?_push_of_some _ hS), Got.zero ks⟩
        case stop =>
          intro s' L es ep t hm hS' g' hkp
          obtain ⟨h', g2, d', tk', os'⟩ := s'
          have eg : g2 = s.gens := hm.gens
          have ed : d' = s.drawn := hm.drawn
          have eo : os' = s.os := hm.os
          subst eg; subst ed; subst eo
          rw [many] at g'
          exact wpAny_pure (wpAny_pure ⟨rfl, h', tk', L, es, ep, t, rfl, hS', g', hkp⟩)
      · cases r₂ with
        | error e => exact hr₂
        | ok fl₂ =>
          cases fl₂ with
          | ret r =>
            obtain ⟨rfl, h', tk, L, es, ep, t, rfl, hS', g', hk'⟩ := hr₂
            repeat (any_goals (first | assumption | wp_step))
            exact h _ _ _ _ _ _ hS' g' hk'
          | _ => exact hr₂.elim
    | _ => exact hr.elim
end
section
variable {X : Cx}
/-- set(xs), xs a list of tuples of ints, the different ones few -/
def rSetOfTD (K : PySem.W.Frag) (P : Program) (w : World) : List V → Hp → VK → Prop := fun xs H Q => ∃ (l : Addr) (ks : List (Addr × List Int)), xs = [V.ref l] ∧ SqL K H l (ks.map fun p => V.ref p.1) ∧ (∀ p ∈ ks, SqT K H p.1 (p.2.map V.int)) ∧ FewD ks ∧
  ∀ a L, H a = none → (∀ p ∈ L, p ∈ ks) → (∀ p ∈ ks, p.2 ∈ L.map (·.2)) → Q (.ref a) (upd H a (SetTO P w a L))
theorem cr_setOfTD (K : PySem.W.Frag) (P : Program) (w : World) (hc : X.calm = true) (hu : X.A.units + 64 < cLine) (hK : X.K = K := by rfl) (hP : X.prog = P := by rfl) (hw : X.w = w := by rfl) : CallR X (.type "set") (rSetOfTD K P w) := by
  subst hK hP hw
  intro pins s σ H xs us Q I r h
  obtain ⟨l, ks, rfl, hl, hk, hf, q⟩ := h
  rw [Vals.ref1 r]
  obtain ⟨its, rv, pl, hz⟩ := I.list hl
  have hn : H s.heap.objs.size = none := I.hok.fresh (Nat.le_refl _)
  refine set_of_list (P := X.prog) (w := X.w) ks (I.ok.hd hc) pl.isList (by simpa using refs_of_vals rv) (fun p hp => I.isT (hk p hp)) hf (by omega) fun h' tk L es ep t R g k => ?_
  exact ⟨.ref s.heap.objs.size, upd H s.heap.objs.size (SetTO X.prog X.w s.heap.objs.size L), I.laid (t' := tk) k (Nat.le_refl _) (setTO_new R.t0), rfl, q _ L hn (fun p hp => List.mem_of_mem_take (g.sub p hp)) fun p hp => g.all p (by rw [List.take_length]; exact hp)⟩
end
end TK

set_option Elab.async false
set_option linter.all false
set_option maxRecDepth 100000
set_option maxHeartbeats 4000000
namespace EX
open PySem PySem.Spec PyProof.Rows L2
open AutoSeq1
theorem extend_tup (l : Addr) (items : Array Value) (n : Nat) (b : Addr) (items2 : Array Value) (n2 : Nat) (dct : Option Addr) (sl : Array (Option Value)) (hs0 : ¬(!items.isEmpty && Builtin.List.listTooLong (items.size + items2.size)) = true) (hs1 : items.size ≤ sizeLine) (hs2 : items.size + items2.size ≤ sizeLine + 1) :
    Meets (Builtin.«list.extend» ⟨[.ref l, .ref b], []⟩) (fun _ R s => s.heap.get? l = some { cls := .type "list", dict := none, data := .seq items n, slots := #[] } ∧ s.heap.get? b = some { cls := .type "tuple", dict := dct, data := .seq items2 n2, slots := sl } ∧ R (.ok (.ret Value.none)) { s with heap := s.heap.update l (Obj.mapSeq fun x => x ++ items2), toks := s.toks }) :=
  .of_wp fun prog w A R s h => by
    obtain ⟨hp, g, d, tk, os⟩ := s; obtain ⟨hl, hb, h⟩ := h; have f1 := idx_int; have f2 := AutoSeq1.sub_tuple_tuple; have f3 := AutoSeq1.sub_list_list; have f4 := AutoSeq1.sub_tuple_list; have f5 := AutoSeq1.sub_list_tuple;
    have hz' : (items ++ items2).size ≤ sizeLine + 1 := by rw [Array.size_append]; exact hs2
    wp_walk using (wpAny_updateSeq hl rfl (hz := hs1) (_hz' := hz')), wpAny_loadPart' hl, wpAny_loadPart' hb; exact ⟨_, rfl, h⟩
def rExtT : V → List V → Hp → VK → Prop := fun x vs H Q => ∃ l b xs zs, x = .ref l ∧ vs = [.ref b] ∧ H l = some (.lst xs) ∧ H b = some (.tup zs) ∧ xs.length + zs.length ≤ sizeLine ∧ Q .non (upd H l (.lst (xs ++ zs)))
theorem mt_extT {X : Cx} : MtM X "list.extend" rExtT := by
  intro pins s σ H x vs v us Q I rx rv h
  obtain ⟨l, b, xs, zs, rfl, rfl, hH, hB, hz, q⟩ := h
  cases rx
  obtain ⟨u, rfl, ru⟩ := rv.one
  cases ru
  obtain ⟨z, its, n, r, hl, e⟩ := I.lstM hH
  obtain ⟨its2, r2, p, z2⟩ := I.tuple (a := b) (xs := zs) (.inl (.inl hB))
  obtain ⟨⟨cl, dct, dt, sl⟩, e2, hc2, n2, hd2⟩ := p
  replace hc2 : cl = .type "tuple" := hc2
  replace hd2 : dt = .seq its2.toArray n2 := hd2
  subst hc2 hd2
  have hl2 := r2.length
  have hsz : its.toArray.size + its2.toArray.size ≤ sizeLine := by rw [List.size_toArray, List.size_toArray]; omega
  have hlong : ¬ (!its.toArray.isEmpty && Builtin.List.listTooLong (its.toArray.size + its2.toArray.size)) = true := by
    rw [notLongL hsz, Bool.and_false]
    exact Bool.false_ne_true
  refine call_meets F.slot_list_extend ⟨_, e, rfl⟩ F.entry_list_extend (F.args_list_extend_2 _ _)
    (extend_tup l its.toArray n b its2.toArray n2 dct sl hlong (by rw [List.size_toArray]; omega) (by omega)) ⟨e, e2, ?_⟩
  refine ⟨.non, _, I.lset (its' := its ++ its2) hH e (by simp) (r.append r2) ?_, rfl, q⟩
  rw [List.length_append]
  omega
end EX

set_option Elab.async false
set_option linter.all false
set_option maxRecDepth 100000
set_option maxHeartbeats 4000000
namespace K35
open PySem PySem.Spec PyProof.Rows L2 TK MR
variable {P : Program} {w : World} {K : PySem.W.Frag} {mg : Str → Option Value} {base : Heap}
/-- rows with their addresses -/
theorem rows_at {H : Hp} {xs : List V} {rows : List (List Int)} (h : DTs K H xs (rows.map rowD)) : ∃ ks : List (Addr × List Int), xs = ks.map (fun p => V.ref p.1) ∧ ks.map (·.2) = rows ∧ ∀ p ∈ ks, H p.1 = some (.tup (p.2.map V.int)) := by
  induction rows generalizing xs with
  | nil => exact ⟨[], h.nil_inv, rfl, fun p hp => by simp at hp⟩
  | cons r rows ih =>
    obtain ⟨w1, ws, rfl, h1, h2⟩ := h.cons_inv
    obtain ⟨a, rfl, ha⟩ := h1.row_invS
    obtain ⟨ks, e1, e2, e3⟩ := ih h2
    refine ⟨(a, r) :: ks, by rw [e1]; rfl, by rw [← e2]; rfl, fun p hp => ?_⟩
    rcases List.mem_cons.mp hp with rfl | hp
    · exact ha
    · exact e3 p hp
/-- the rows that are in both -/
def both (r1 r2 : List (List Int)) : List (List Int) := r1.filter fun r => decide (r ∈ r2)
/-! meet -/
def sp_meet (T : Txt K mg base) : Sp := fun vs H Q _ => ∃ (sz : Int) (v u : V) (ar : Int) (r1 r2 : List (List Int)), vs = [.int sz, v, u] ∧ (1 ≤ sz ∧ sz ≤ 4) ∧ DT K H v (relD ar r1) ∧ DT K H u (relD ar r2) ∧ TT T.tabs H ∧ RelOk sz ar r1 ∧ RelOk sz ar r2 ∧ r2.length < 64 ∧
  ∀ z H', Gr H H' → DT K H' z (relD ar (both r1 r2)) → Q z H'
end K35

set_option Elab.async false
set_option linter.all false
set_option maxRecDepth 100000
set_option maxHeartbeats 4000000
namespace K35
open PySem PySem.Spec PyProof.Rows L2 TK MR
variable {P : Program} {w : World} {K : PySem.W.Frag} {mg : Str → Option Value} {base : Heap}
/-- a row's entries at some places -/
def pick (ps : List Nat) (r : List Int) : List Int := ps.map fun p => r.getD p 0
theorem pick_len (ps : List Nat) (r : List Int) : (pick ps r).length = ps.length := List.length_map _
theorem cr_setOfTK (K : PySem.W.Frag) (P : Program) (w : World) {X : Cx} (hc : X.calm = true) (hu : X.A.units + 64 < cLine) (hK : X.K = K := by rfl) (hP : X.prog = P := by rfl) (hw : X.w = w := by rfl) : CallR X (.type "set") (rSetOfT K P w) := by
  subst hK hP hw
  exact cr_setOfT hc hu
theorem cr_sortedTK (K : PySem.W.Frag) (P : Program) (w : World) {X : Cx} (hc : X.calm = true) (hK : X.K = K := by rfl) (hP : X.prog = P := by rfl) (hw : X.w = w := by rfl) : CallR X (.builtin "sorted") (rSortedT K P w) := by
  subst hK hP hw
  exact cr_sortedT hc
theorem rows_back {H : Hp} : ∀ {l : List (Addr × List Int)}, (∀ p ∈ l, H p.1 = some (.tup (p.2.map V.int))) → DTs K H (l.map fun p => V.ref p.1) ((l.map (·.2)).map rowD)
  | [], _ => .nil
  | p :: l, h => .cons (.row (h p List.mem_cons_self)) (rows_back fun q hq => h q (List.mem_cons_of_mem _ hq))
/-! picked -/
def sp_picked (T : Txt K mg base) : Sp := fun vs H Q _ => ∃ (sz : Int) (v u : V) (ar : Int) (rows : List (List Int)) (ps : List Nat), vs = [.int sz, v, u] ∧ (1 ≤ sz ∧ sz ≤ 4) ∧ DT K H v (relD ar rows) ∧ DT K H u (rowD (ps.map fun (p : Nat) => (p : Int))) ∧ TT T.tabs H ∧ RelOk sz ar rows ∧ rows.length < 64 ∧ (1 ≤ ps.length ∧ ps.length ≤ 4) ∧ (∀ p ∈ ps, (p : Int) < ar) ∧
  ∀ z qs H', Gr H H' → DT K H' z (relD (ps.length : Nat) qs) → qs.Pairwise (fun r q => HT.lexLt r q = true) → (∀ x, x ∈ qs ↔ x ∈ rows.map (pick ps)) → Q z H'
end K35

set_option Elab.async false
set_option linter.all false
set_option maxRecDepth 100000
set_option maxHeartbeats 4000000
namespace K35
open PySem PySem.Spec PyProof.Rows L2 TK MR
variable {P : Program} {w : World} {K : PySem.W.Frag} {mg : Str → Option Value} {base : Heap}
theorem keys_ke {H : Hp} : ∀ {ents : List (List Int × V)} {bs : List Addr}, IsKeys H (ke ents) bs → DTs K H (bs.map V.ref) ((ents.map (·.1)).map rowD)
  | [], _, .nil => .nil
  | r :: ents, _, .cons h t => by
    refine .cons (.row ?_) (keys_ke t)
    have e : (r.1.map Sum.inl : List Key).map kV = r.1.map V.int := keys_ints r.1
    rw [← e]
    exact h
/-- all triples of a place and two values below three -/
def trips : List (List Int) := (allRows 3 2).flatMap fun r => (List.range 4).map fun (i : Nat) => (i : Int) :: r
theorem few3 {ar : Nat} {rows : List (List Int)} (a4 : ar ≤ 4) (good : ∀ r ∈ rows, ∀ x ∈ r, 0 ≤ x ∧ x < 3) : (forksF rows ar).length ≤ 36 := by
  have := len_le_of_sub (forksF_nd rows ar) (m := trips) fun k hk => by
    obtain ⟨a, ha, b, hb, i, hi, _, rfl⟩ := forksF_key.mp hk
    have g1 := getD_ok (sz := 3) (good a ha) (by decide) i
    have g2 := getD_ok (sz := 3) (good b hb) (by decide) i
    refine List.mem_flatMap.mpr ⟨[a.getD i 0, b.getD i 0], mem_allRows rfl fun x hx => ?_, List.mem_map.mpr ⟨i, List.mem_range.mpr (by omega), rfl⟩⟩
    simp only [List.mem_cons, List.not_mem_nil, or_false] at hx
    rcases hx with rfl | rfl
    · exact g1
    · exact g2
  rw [List.length_map] at this
  exact Nat.le_trans this (by decide +kernel)
/-- a fork, as it is told -/
def IsFork (ar : Nat) (rows : List (List Int)) (k : List Int) : Prop := ∃ a ∈ rows, ∃ b ∈ rows, ∃ i, i < ar ∧ agr i a b ∧ k = tr i a b
theorem fork_bd {sz ar : Nat} {rows : List (List Int)} (hsz : 1 ≤ sz ∧ sz ≤ 4) (a4 : ar ≤ 4) (good : ∀ r ∈ rows, ∀ x ∈ r, 0 ≤ x ∧ x < (sz : Int)) {k : List Int} (h : IsFork ar rows k) : k.length = 3 ∧ TS.Bd 4 k := by
  obtain ⟨a, ha, b, hb, i, hi, _, rfl⟩ := h
  have g1 := getD_ok (sz := (sz : Int)) (good a ha) (by omega) i
  have g2 := getD_ok (sz := (sz : Int)) (good b hb) (by omega) i
  refine ⟨rfl, fun m hm => ?_⟩
  unfold tr at hm
  simp only [List.mem_cons, List.not_mem_nil, or_false] at hm
  rcases hm with rfl | rfl | rfl
  · omega
  · omega
  · omega
/-! forks -/
def sp_forks (T : Txt K mg base) : Sp := fun vs H Q _ => ∃ (sz ar : Nat) (u : V) (rows : List (List Int)), vs = [.int sz, u] ∧ (1 ≤ sz ∧ sz ≤ 3) ∧ (1 ≤ ar ∧ ar ≤ 4) ∧ DT K H u (relD ar rows) ∧ RelOk sz ar rows ∧ TT T.tabs H ∧
  ∀ z qs H', Gr H H' → DT K H' z (.tuple (qs.map rowD)) → Asc qs → (∀ k, k ∈ qs ↔ IsFork ar rows k) → qs.length ≤ 36 → Q z H'
theorem ok_forks (T : Txt K mg base) : FnOk P w K mg base CX0 9 T.forks.f T.forks.fd p_forks (sp_forks T) := by
  refine T.forks.F.ok sc_forks (fun vs H Q E h => ?_) (fun A outer sh H vs Q E hr h => ?_)
  · obtain ⟨_, _, _, _, rfl, _⟩ := h
    rfl
  · obtain ⟨sz, ar, u, rows, rfl, hsz, har, hu, R, hT, q⟩ := h
    refine ⟨_, pss_cons (ps_expr (pe_call (ok_check_size T) (hr.mono (by decide)) (by rfl) T.check_size.g T.check_size.F.kp T.check_size.b .nil pass0 (pa_cons (pv 0) pa_nil)))
      (pss_cons (ps_expr (pe_call (ok_check_relation T) hr (by rfl) T.check_relation.g T.check_relation.F.kp T.check_relation.b .nil pass0 (pa_cons (pv 0) (pa_cons (pv 1) pa_nil))))
      (pss_one (ps_ret (pe_callTy (call_tuple_ofK K) (by rfl) T.b_tuple boot_tuple (pa_cons (pe_callB (cr_sortedDT (d := 3) (B := 4) (by decide) (by rfl)) (by rfl) T.b_sorted boot_sorted (pa_cons (pe_call (ok_showing_pairs T) (hr.mono (by decide)) (by rfl) T.showing_pairs.g T.showing_pairs.F.kp T.showing_pairs.b .nil pass0 (pa_cons (pv 1) pa_nil)) pa_nil)) pa_nil))))), ?_⟩
    have good := RelOk.good R
    refine ⟨.int sz, rfl, sz, rfl, ⟨by omega, by omega⟩, ?_⟩
    refine ⟨.int sz, rfl, u, rfl, sz, ar, u, rows, rfl, hu, hT, R, fun H1 g1 => ?_⟩
    refine ⟨u, rfl, ar, u, rows, rfl, hu.gr g1, har, fun r hr => ⟨(good r hr).1, fun x hx => by have := (good r hr).2 x hx; omega⟩, fun d ents H2 g2 nd hd S => ?_⟩
    have few := few3 (rows := rows) har.2 fun r hr x hx => by have := (good r hr).2 x hx; omega
    have few2 : ents.length ≤ 36 := by rw [S.len]; exact few
    have kv : ∀ k ∈ ents.map (·.1), k.length = 3 ∧ TS.Bd 4 k := fun k hk => by
      rw [S.keys] at hk
      exact fork_bd (sz := sz) ⟨hsz.1, by omega⟩ har.2 (fun r hr => (good r hr).2) (forksF_key.mp hk)
    refine ⟨d, ke ents, rfl, hd, by unfold ke; rw [List.length_map]; omega, fun p hp => ?_, fun bs ys p2 hk pm pw np2 => ?_⟩
    · obtain ⟨e, he, rfl⟩ := List.mem_map.mp hp
      exact ⟨e.1, rfl, kv _ (List.mem_map.mpr ⟨e, he, rfl⟩)⟩
    · obtain ⟨qs, qd, qp, qw⟩ := sorted_rows (B := 4) (d := 3) (keys_ke (K := K) hk) pm (by rw [S.keys]; exact forksF_nd rows ar) kv pw
      refine ⟨p2, ys, rfl, .inl ⟨.inl (.inl upd_same), fun l nl => ?_⟩⟩
      have g3 : Gr H2 (upd H2 p2 (.lst ys)) := Gx.new np2
      have g4 : Gr (upd H2 p2 (.lst ys)) (upd (upd H2 p2 (.lst ys)) l (.tup ys)) := Gx.new nl
      refine q _ qs _ ((TK.Gx.trans g1 g2).trans (TK.Gx.trans g3 g4)) (.mk upd_same (qd.gr (TK.Gx.trans g3 g4))) qw (fun k => ?_) (by rw [qp.length_eq, List.length_map]; exact few2)
      rw [qp.mem_iff, S.keys]
      exact forksF_key
/-! compact -/
theorem ixr0 {σ : L2.St} {H : Hp} {i : Nat} {v : V} {ar : Int} {rows : List (List Int)} {Q : VK} (hσ : σ[i]? = some (some v)) (h : DT K H v (relD ar rows)) (q : Q (.int ar) H) : tOp (rIxT K) (tVar i) (tC (.int 0)) σ H Q := by
  refine ⟨v, hσ, ?_⟩
  dsimp only [tC]
  exact rel_ix0 h q
theorem shownR_snoc (fs : List Fk) (x : Fk) : shownR (fs ++ [x]) = shownR fs ++ [x.2.1, x.2.2] := by
  unfold shownR
  rw [List.flatMap_append]
  simp
theorem shownR_len (fs : List Fk) : (shownR fs).length = 2 * fs.length := by
  induction fs with
  | nil => rfl
  | cons x fs ih =>
    show (x.2.1 :: x.2.2 :: shownR fs).length = _
    rw [List.length_cons, List.length_cons, ih, List.length_cons]
    omega
def sp_compact (T : Txt K mg base) : Sp := fun vs H Q _ => ∃ (sz ar : Nat) (u : V) (rows : List (List Int)), vs = [.int sz, u] ∧ (1 ≤ sz ∧ sz ≤ 3) ∧ (1 ≤ ar ∧ ar ≤ 4) ∧ DT K H u (relD ar rows) ∧ RelOk sz ar rows ∧ rows.length ≤ 62 ∧ TT T.tabs H ∧
  ∀ z rs H', Gr H H' → DT K H' z (relD ar rs) → Asc rs → (∀ x, x ∈ rs ↔ x ∈ shownR (forksF rows ar)) → Q z H'
theorem ok_compact (T : Txt K mg base) : FnOk P w K mg base CX0 9 T.compact.f T.compact.fd p_compact (sp_compact T) := by
  refine T.compact.F.ok sc_compact (fun vs H Q E h => ?_) (fun A outer sh H vs Q E hr h => ?_)
  · obtain ⟨_, _, _, _, rfl, _⟩ := h
    rfl
  · obtain ⟨sz, ar, u, rows, rfl, hsz, har, hu, R, r62, hT, q⟩ := h
    have hu64 : (A.deeper (envOfC "compact" (defScope s_compact) sh.heap.objs.size T.compact.f (.ref T.compact.c))).units + 64 < cLine := by have := hr.un; omega
    refine ⟨_, pss_cons (ps_expr (pe_call (ok_check_size T) (hr.mono (by decide)) (by rfl) T.check_size.g T.check_size.F.kp T.check_size.b .nil pass0 (pa_cons (pv 0) pa_nil)))
      (pss_cons (ps_expr (pe_call (ok_check_relation T) hr (by rfl) T.check_relation.g T.check_relation.F.kp T.check_relation.b .nil pass0 (pa_cons (pv 0) (pa_cons (pv 1) pa_nil))))
      (pss_cons (ps_set (i := 2) sc_compact.nd rfl (by first | exact .inl rfl | exact .inr rfl) (pe_lst pa_nil))
      (pss_cons (ps_for PassesOwn.never rfl (VT.pi_valuesN (pe_call (ok_showing_pairs T) (hr.mono (by decide)) (by rfl) T.showing_pairs.g T.showing_pairs.F.kp T.showing_pairs.b .nil pass0 (pa_cons (pv 1) pa_nil))) (pg_name (i := 3) sc_compact.nd rfl (by first | exact .inl rfl | exact .inr rfl))
        (pss_one (ps_expr (pe_bm PySem.F.plainAttrs_list PySem.F.slot_list_extend PySem.F.type_list_extend EX.mt_extT (pv 2) (pa_cons (pv 3) pa_nil)))))
      (pss_one (ps_ret (pe_tup (pa_cons (pe_ix (ix_tupK K) (pv 1) pe_int (fun _ _ => rfl)) (pa_cons (pe_callTy (call_tuple_ofK K) (by rfl) T.b_tuple boot_tuple (pa_cons (pe_callB (cr_sortedTK K P w rfl) (by rfl) T.b_sorted boot_sorted (pa_cons (pe_callTy (cr_setOfTD K P w rfl hu64) (by rfl) T.b_set boot_set (pa_cons (pv 2) pa_nil)) pa_nil)) pa_nil)) pa_nil)))))))), ?_⟩
    have good := RelOk.good R
    refine ⟨.int sz, rfl, sz, rfl, ⟨by omega, by omega⟩, ?_⟩
    refine ⟨.int sz, rfl, u, rfl, sz, ar, u, rows, rfl, hu, hT, R, fun H1 g1 => ?_⟩
    refine ⟨Nat.zero_le _, fun l nl => ?_⟩
    have gl : Gr H1 (upd H1 l (.lst [])) := Gx.new nl
    have hl : (upd H1 l (.lst [])) l = some (.lst []) := upd_same
    have nl0 : H l = none := Gr.free g1 nl
    generalize upd H1 l (.lst []) = H2 at *
    have g2 := g1.trans gl
    refine ⟨u, rfl, ar, u, rows, rfl, hu.gr g2, har, fun r hr => ⟨(good r hr).1, fun x hx => by have := (good r hr).2 x hx; omega⟩, fun d ents H3 g3 nd hd S => ?_⟩
    have few := few3 (rows := rows) har.2 fun r hr x hx => by have := (good r hr).2 x hx; omega
    have few2 : ents.length ≤ 36 := by rw [S.len]; exact few
    refine ⟨d, ke ents, rfl, hd, fun o => ?_⟩
    have hl3 : H3 l = some (.lst []) := g3.lst hl
    have ndl : d ≠ l := fun z => by
      rw [z, hl] at nd
      cases nd
    have nd0 : H d = none := Gr.free g2 nd
    have g4 : Gr H (upd H3 d (.frz o (.dT (ke ents)))) := (g2.trans g3).wr nd0
    have hl4 : (upd H3 d (.frz o (.dT (ke ents)))) l = some (.lst []) := by rw [upd_ne ndl.symm]; exact hl3
    have hd4 : (upd H3 d (.frz o (.dT (ke ents)))) d = some (.frz o (.dT (ke ents))) := upd_same
    have S4 : Shw K (upd H3 d (.frz o (.dT (ke ents)))) (forksF rows ar) ents := S.gr fun v dd h => DT.keep (fun a xs e => by
      rw [upd_ne fun z => by rw [z, hd] at e; cases e]
      exact e) h
    generalize upd H3 d (.frz o (.dT (ke ents))) = H4 at *
    have kl : (ke ents).length = ents.length := by unfold ke; rw [List.length_map]
    refine for_it (VT.walk_valsT (d := d) (o := o) (kvs := ke ents)) (fun i σ H' => ∃ y3, σ = [some (.int sz), some u, some (.ref l), y3] ∧ Gx [l] H4 H' ∧ LR K H' l (shownR ((forksF rows ar).take i)))
      ⟨none, rfl, Gx.refl, [], hl4, .nil⟩ (fun i σ H' _ hp => by
        obtain ⟨_, _, g, _⟩ := hp
        exact g.at (fun z => ndl (List.mem_singleton.mp z)) hd4 fun _ z => by cases z) (fun i x σ Hx H' hi hp hy => ?_) (fun σ H' hp => ?_)
    · obtain ⟨rfl, k, ek⟩ := hy
      obtain ⟨y3, rfl, g5, hL⟩ := hp
      rw [kl] at hi
      obtain ⟨f, ef⟩ : ∃ f, (forksF rows ar)[i]? = some f := ⟨_, List.getElem?_eq_getElem (by rw [← S.len]; exact hi)⟩
      unfold ke at ek
      rw [List.getElem?_map] at ek
      obtain ⟨e, ee, e2⟩ := Option.map_eq_some_iff.mp ek
      cases e2
      obtain ⟨t, ts, et, ht, hts⟩ := ((S4.val i e f ee ef).gx g5 (.one hl4)).tup_invS
      obtain ⟨xs, hx, hxs⟩ := hL
      have xl : xs.length = 2 * i := by
        rw [hxs.1, List.length_map, shownR_len, List.length_take, ← S.len]
        omega
      have tl : ts.length = 2 := hts.1
      have e3 : (e.2 : V) = .ref t := et
      refine ⟨.ref l, rfl, .inl ⟨rfl, _, .inl (.inl hx)⟩, e.2, rfl, l, t, xs, ts, rfl, by rw [e3], hx, ht, ?_, ?_⟩
      · rw [xl, tl]
        exact small1000 (by omega)
      · refine ⟨_, rfl, g5.wrS (List.mem_singleton.mpr rfl), xs ++ ts, upd_same, ?_⟩
        rw [List.take_add_one, ef]
        show DTs K _ _ ((shownR ((forksF rows ar).take i ++ [f])).map rowD)
        rw [shownR_snoc, List.map_append]
        exact (hxs.wr hx).app (hts.wr hx)
    · obtain ⟨y3, rfl, g5, hL⟩ := hp
      rw [kl, S.len, List.take_length] at hL
      have sub := (shows_forks rows ar).2
      have g6 : Gr H H' := Gx.but g4 nl0 g5
      refine ixr0 rfl (hu.gr g6) ?_
      obtain ⟨_, ek, hds⟩ := hL
      obtain ⟨ks, rfl, e2, e3⟩ := rows_at hds
      have in_ks : ∀ p ∈ ks, p.2 ∈ shownR (forksF rows ar) := fun p hp => by
        rw [← e2]
        exact List.mem_map.mpr ⟨p, hp, rfl⟩
      have vals : ∀ p ∈ ks, p.2.length = ar ∧ TS.Bd 4 p.2 := fun p hp => by
        obtain ⟨h1, h2⟩ := good _ (sub _ (in_ks p hp))
        exact ⟨h1, fun m hm => by have := h2 m hm; omega⟩
      refine ⟨.ref l, rfl, l, ks, rfl, .inl (.inl ek), fun p hp => .inl (.inl (e3 p hp)), fun D nD hD => ?_, fun Sa L nS subL all => ?_⟩
      · have := len_le_of_sub nD (m := rows) fun k hk => by
          obtain ⟨p, hp, rfl⟩ := List.mem_map.mp (hD k hk)
          exact sub _ (in_ks p hp)
        omega
      have g7 : Gr H' (upd H' Sa (SetTO P w Sa L)) := Gx.new nS
      refine ⟨Sa, L, ar, 4, rfl, upd_same, fun p hp => .inl (.inl (Gx.tupS g7 .nil (e3 p (subL p hp)))), har.1, fun p hp => vals p (subL p hp), fun L' y pm nd' few' pw ny => ?_⟩
      generalize upd H' Sa (SetTO P w Sa L) = H7 at *
      refine ⟨y, _, rfl, .inl ⟨.inl (.inl upd_same), fun l2 nl2 => ⟨by show 2 ≤ sizeLine; decide, fun t nt => ?_⟩⟩⟩
      have g8 : Gr H7 (upd (upd H7 y (.lst (L'.map fun q => V.ref q.1))) l2 (.tup (L'.map fun q => V.ref q.1))) := (Gx.new ny).trans (Gx.new nl2)
      have inL : ∀ p ∈ L', p ∈ ks := fun p hp => subL p (pm.mem_iff.mp hp)
      have hdD : DTs K (upd (upd H7 y (.lst (L'.map fun q => V.ref q.1))) l2 (.tup (L'.map fun q => V.ref q.1))) (L'.map fun q => V.ref q.1) ((L'.map (·.2)).map rowD) := rows_back fun p hp => Gx.tupS (g7.trans g8) .nil (e3 p (inL p hp))
      refine q _ (L'.map (·.2)) _ (((g6.trans g7).trans g8).trans (Gx.new nt)) (rel_laid (.mk upd_same hdD) nt) ?_ fun x => ⟨fun hx => ?_, fun hx => ?_⟩
      · unfold Asc
        rw [List.Nodup, List.pairwise_map] at nd'
        rw [List.pairwise_map]
        refine List.Pairwise.imp_of_mem ?_ (pw.and nd')
        rintro a b ha hb ⟨c, ne⟩
        obtain ⟨l1, b1⟩ := vals a (inL a ha)
        obtain ⟨l2, b2⟩ := vals b (inL b hb)
        exact lex_of_code (by rw [l1, l2]) b1 b2 c ne
      · obtain ⟨p, hp, rfl⟩ := List.mem_map.mp hx
        exact in_ks p (inL p hp)
      · rw [← e2] at hx
        obtain ⟨p, hp, rfl⟩ := List.mem_map.mp hx
        obtain ⟨p', hp', e⟩ := List.mem_map.mp (all p hp)
        rw [← e]
        exact List.mem_map.mpr ⟨p', pm.mem_iff.mpr hp', rfl⟩
end K35

set_option Elab.async false
set_option linter.all false
set_option maxRecDepth 100000
set_option maxHeartbeats 4000000
namespace K35
open PySem PySem.Spec PyProof.Rows L2 TK MR
variable {P : Program} {w : World} {K : PySem.W.Frag} {mg : Str → Option Value} {base : Heap}
/-! of the law -/
theorem nat_add1 {x : Int} (h : 0 ≤ x) : ∃ n : Nat, 1 + x = (n : Int) := ⟨(1 + x).toNat, by omega⟩
theorem nat_add2 {x : Int} (h : 0 ≤ x) : ∃ n : Nat, 2 + x = (n : Int) := ⟨(2 + x).toNat, by omega⟩
def rSortedDX : List V → Hp → VK → Prop := fun vs H Q => ∃ (d : Nat) (B : Int), 1 ≤ d ∧ rSortedDT d B vs H Q
theorem cr_sortedDX {X : Cx} (hc : X.calm = true) : CallR X (.builtin "sorted") rSortedDX := by
  intro pins s σ H vs us Q I r ⟨d, B, hd, h⟩
  exact cr_sortedDT (d := d) (B := B) hd hc pins s σ H vs us Q I r h
/-- a slice, laid or the tuple itself -/
theorem sl_any {H : Hp} {b : Addr} {xs : List V} {lo hi : Option Int} {Q : VK} (hb : H b = some (.tup xs)) (q : ∀ p H', Gr H H' → H' p = some (.tup (cutV xs lo hi)) → Q (.ref p) H') : rSlA K (.ref b) lo hi H Q := by
  refine ⟨b, xs, rfl, .inl (.inl hb), fun h => ?_, fun _ p np => ?_⟩
  · refine q b H Gx.refl ?_
    unfold cutV
    rw [h.1, h.2, List.drop_zero, Nat.sub_zero, List.take_length]
    exact hb
  · exact q p _ (Gx.new np) upd_same
theorem cut_to {xs : List V} {n : Nat} (h : n ≤ xs.length) : cutV xs none (some (n : Int)) = xs.take n := by
  unfold cutV
  rw [HT.sIx_nat]
  show List.take (min n xs.length - 0) (List.drop 0 xs) = _
  rw [List.drop_zero, Nat.sub_zero, Nat.min_eq_left h]
theorem take_agr {a b : List Int} {p : Nat} (ha : p ≤ a.length) (hb : p ≤ b.length) : a.take p = b.take p ↔ agr p a b := by
  constructor
  · intro h j hj
    have e : (a.take p)[j]? = (b.take p)[j]? := by rw [h]
    rw [List.getElem?_take, List.getElem?_take, if_pos hj, if_pos hj] at e
    rw [List.getD_eq_getElem?_getD, List.getD_eq_getElem?_getD, e]
  · intro h
    apply List.ext_getElem?
    intro j
    rw [List.getElem?_take, List.getElem?_take]
    by_cases hj : j < p
    · rw [if_pos hj, if_pos hj]
      have e := h j hj
      rw [List.getD_eq_getElem?_getD, List.getD_eq_getElem?_getD, List.getElem?_eq_getElem (by omega), List.getElem?_eq_getElem (by omega)] at e
      rw [List.getElem?_eq_getElem (by omega), List.getElem?_eq_getElem (by omega)]
      exact congrArg some e
    · rw [if_neg hj, if_neg hj]
theorem plF_not {a b : List Int} {n : Nat} (h : ¬ agr n a b) : plF a b (n + 1) = plF a b n := by
  unfold plF
  rw [List.range_succ, List.filter_append]
  have : agrB n a b = false := by
    cases e : agrB n a b with
    | false => rfl
    | true => exact absurd (agrB_iff.mp e) h
  rw [show List.filter (fun i => agrB i a b) [n] = [] from by simp [this], List.append_nil]
theorem kd_put (ks : List (List Int)) (z : List Int) : putK (kd ks) (z.map Sum.inl) (V.bl true) = kd (addK ks z) := by
  unfold addK
  split
  · exact kd_old (by assumption)
  · exact kd_new (by assumption)
theorem put_any {H : Hp} {d b : Addr} {keys : List (List Int)} {r : List Int} {v : V} (ev : v = .ref b) (hd : H d = some (.dT (kd keys))) (hb : H b = some (.tup (r.map V.int))) (hl : keys.length ≤ 900) : DPut H d v (.bl true) (upd H d (.dT (kd (addK keys r)))) := by
  rw [ev, ← kd_put]
  exact put_row hd hb hl
theorem len_addK1 (ks : List (List Int)) (z : List Int) : (addK ks z).length ≤ ks.length + 1 := by
  unfold addK
  split
  · omega
  · rw [List.length_append]
    exact Nat.le_refl _
theorem nd_addK {ks : List (List Int)} {z : List Int} (h : ks.Nodup) : (addK ks z).Nodup := by
  unfold addK
  split
  · exact h
  · rename_i hn
    rw [List.nodup_append]
    exact ⟨h, by simp, fun a ha b hb => by
      rw [List.mem_singleton.mp hb]
      rintro rfl
      exact hn ha⟩
theorem mem_addK {ks : List (List Int)} {z r : List Int} : r ∈ addK ks z ↔ r ∈ ks ∨ r = z := by
  unfold addK
  split
  · exact ⟨.inl, fun h => h.elim id fun e => e ▸ by assumption⟩
  · rw [List.mem_append, List.mem_singleton]
theorem it_rows {rows : List (List Int)} (h : rows.length ≤ 1000) (hl : ∀ r ∈ rows, r.length ≤ 1000) : IT 4 (.tuple (rows.map rowD)) := ⟨by rw [List.length_map]; exact h, fun e he => by
  obtain ⟨r, hr, rfl⟩ := List.mem_map.mp he
  exact ⟨by rw [List.length_map]; exact hl r hr, fun e he => by
    obtain ⟨x, _, rfl⟩ := List.mem_map.mp he
    exact trivial⟩⟩
theorem ans_non {H : Hp} {z : V} {o : Option (List (List Int))} (h : DT K H z (ansD o)) : decide (z = V.non) = o.isNone := by
  cases o with
  | none =>
    have e : z = .non := by
      cases h
      rfl
    rw [e]
    simp
  | some t =>
    obtain ⟨a, xs, e, _⟩ := DT.tup_invS (ds := t.map rowD) h
    rw [e]
    simp
theorem least_eq {sz k ar : Nat} {tab : List Int} {rows r1 r2 : List (List Int)} (h1 : Least sz k tab ar rows r1) (h2 : Least sz k tab ar rows r2) (R1 : RelOk sz ar r1) (R2 : RelOk sz ar r2) : r1 = r2 :=
  asc_unique R1.asc R2.asc fun x => ⟨fun h => h1.least _ ⟨h2.sub, h2.shut⟩ x h, fun h => h2.least _ ⟨h1.sub, h1.shut⟩ x h⟩
theorem no_break_shut {sz k ar : Nat} {tab : List Int} {rows : List (List Int)} (h : breakOf sz tab k ar rows = none) : Shut sz k tab ar rows := fun t tl tr => by
  have := List.find?_eq_none.mp h t (tuples_mem tl tr)
  exact Decidable.byContradiction fun z => this (decide_eq_true z)
structure LawSt (T : Txt K mg base) (H : Hp) (r c : Addr) (L : List (V × PyData)) : Prop where
  row : RowSt K H r c
  live : Lv K H c
  tabs : TT T.tabs H
  dat : ∀ p ∈ L, DT K H p.1 p.2
theorem LawSt.gx {T : Txt K mg base} {H H' : Hp} {r c : Addr} {L : List (V × PyData)} (h : LawSt T H r c L) (g : Gx [r] H H') (hR : RowSt K H' r c) : LawSt T H' r c L :=
  ⟨hR, Lv.gx g hR h.live, g.ttS h.row.ls h.tabs, fun p hp => (h.dat p hp).gx g h.row.ls⟩
theorem LawSt.gr {T : Txt K mg base} {H H' : Hp} {r c : Addr} {L : List (V × PyData)} (h : LawSt T H r c L) (g : Gr H H') : LawSt T H' r c L := h.gx g.x (h.row.gr g)
theorem LawSt.add {T : Txt K mg base} {H : Hp} {r c : Addr} {L : List (V × PyData)} {v : V} {d : PyData} (h : LawSt T H r c L) (hd : DT K H v d) : LawSt T H r c ((v, d) :: L) :=
  ⟨h.row, h.live, h.tabs, fun p hp => (List.mem_cons.mp hp).elim (fun e => by rw [e]; exact hd) (h.dat p)⟩
theorem LawSt.d0 {T : Txt K mg base} {H : Hp} {r c : Addr} {L : List (V × PyData)} {v : V} {d : PyData} (h : LawSt T H r c ((v, d) :: L)) : DT K H v d := h.dat _ List.mem_cons_self
theorem LawSt.tl {T : Txt K mg base} {H : Hp} {r c : Addr} {L : List (V × PyData)} {p : V × PyData} (h : LawSt T H r c (p :: L)) : LawSt T H r c L := ⟨h.row, h.live, h.tabs, fun q hq => h.dat q (List.mem_cons_of_mem _ hq)⟩
/-- tuple(sorted(d)) -/
theorem sorted_kd {σ : L2.St} {H' : Hp} {i : Nat} {d : Addr} {n : Nat} {keys : List (List Int)} {Q : VK} (hσ : σ[i]? = some (some (.ref d))) (hd : H' d = some (.dT (kd keys))) (nd : keys.Nodup) (hl : keys.length < 64) (h1 : 1 ≤ n) (ok : ∀ r ∈ keys, r.length = n ∧ TS.Bd 4 r)
    (q : ∀ v rs H2, Gr H' H2 → DT K H2 v (.tuple (rs.map rowD)) → Asc rs → rs.Perm keys → Q v H2) : tCB (rTupleOf K) (tCons (tCB rSortedDX (tCons (tVar i) tNil)) tNil) σ H' Q := by
  refine ⟨.ref d, hσ, n, 4, h1, d, kd keys, rfl, hd, by rw [kd_len]; omega, fun p hp => ?_, fun bs ys p2 hk pm pw np2 => ?_⟩
  · obtain ⟨r, hr, rfl⟩ := List.mem_map.mp hp
    exact ⟨r, rfl, ok r hr⟩
  · obtain ⟨qs, qd, qp, qw⟩ := sorted_rows (B := 4) (d := n) (keys_DTs (K := K) hk) pm nd ok pw
    refine ⟨p2, ys, rfl, .inl ⟨.inl (.inl upd_same), fun l nl => ?_⟩⟩
    have g2 : Gr H' (upd (upd H' p2 (.lst ys)) l (.tup ys)) := (Gx.new np2).trans (Gx.new nl)
    exact q _ qs _ g2 (.mk upd_same (qd.gr g2)) qw qp
/-- what the law's loops have made of the pairs so far -/
structure Shn (H : Hp) (d1 d2 : Addr) (fs : List Fk) (ks : List (List Int)) : Prop where
  ne : d1 ≠ d2
  hd1 : H d1 = some (.dT (kd (fs.map (·.1))))
  hd2 : H d2 = some (.dT (kd ks))
  nd : ks.Nodup
  mem : ∀ r, r ∈ ks ↔ r ∈ shownR fs
theorem Shn.gr {H H' : Hp} {d1 d2 : Addr} {fs : List Fk} {ks : List (List Int)} (h : Shn H d1 d2 fs ks) (g : Gr H H') : Shn H' d1 d2 fs ks :=
  ⟨h.ne, Gx.at g (by simp) h.hd1 (fun _ z => by cases z), Gx.at g (by simp) h.hd2 (fun _ z => by cases z), h.nd, h.mem⟩
theorem Shn.tups {H : Hp} {d1 d2 : Addr} {fs : List Fk} {ks : List (List Int)} (h : Shn H d1 d2 fs ks) {o1 o2 o3 : HO} : ∀ x ys, H x = some (.tup ys) → (upd (upd (upd H d1 o1) d2 o2) d2 o3) x = some (.tup ys) := fun x ys e => by
  have n1 : x ≠ d1 := fun z => by rw [z, h.hd1] at e; cases e
  have n2 : x ≠ d2 := fun z => by rw [z, h.hd2] at e; cases e
  rw [upd_ne n2, upd_ne n2, upd_ne n1]
  exact e
theorem Shn.put {H : Hp} {d1 d2 : Addr} {fs : List Fk} {ks : List (List Int)} (h : Shn H d1 d2 fs ks) {k a b : List Int} {o2 : HO} : Shn (upd (upd (upd H d1 (.dT (kd (fs.map (·.1) ++ [k])))) d2 o2) d2 (.dT (kd (addK (addK ks a) b)))) d1 d2 (fs ++ [(k, a, b)]) (addK (addK ks a) b) := by
  refine ⟨h.ne, ?_, upd_same, nd_addK (nd_addK h.nd), fun r => ?_⟩
  · rw [upd_ne h.ne, upd_ne h.ne, upd_same, List.map_append]
    rfl
  · rw [mem_addK, mem_addK, h.mem, shownR_snoc, List.mem_append]
    simp only [List.mem_cons, List.not_mem_nil, or_false]
    exact ⟨fun h => h.elim (fun h => h.elim .inl fun e => .inr (.inl e)) fun e => .inr (.inr e), fun h => h.elim (fun h => .inl (.inl h)) fun h => h.elim (fun e => .inl (.inr e)) .inr⟩
def sp_law (T : Txt K mg base) : Sp := fun vs H Q _ => ∃ (c : Addr) (ns : List Int), vs = [.ref c] ∧ SqL K H c (ns.map V.int) ∧ (H c ≠ none ∨ SqL K (fun _ => none) c (ns.map V.int)) ∧ TT T.tabs H ∧ ∀ H', Q (.bl true) H'
theorem ok_law (T : Txt K mg base) : FnOk P w K mg base CX0 10 T.law.f T.law.fd p_law (sp_law T) := by
  refine T.law.F.ok sc_law (fun vs H Q E h => ?_) (fun A outer s H vs Q E hr h => ?_)
  · obtain ⟨_, _, rfl, _⟩ := h
    rfl
  · obtain ⟨c, ns, rfl, hS, hc, hT, q⟩ := h
    have hu1 : (A.deeper (envOfC "law" (defScope s_law) s.heap.objs.size T.law.f (.ref T.law.c))).units + 1 < cLine := by have := hr.un; omega
    refine ⟨_, (pss_cons (ps_set (i := 1) sc_law.nd rfl (by first | exact .inl rfl | exact .inr rfl) (pe_lst (pa_cons (pv 0) (pa_cons (pe_int) (pa_cons (pe_int) (pa_cons (pe_int) pa_nil)))))) (pss_cons (ps_par (i := 2) (j := 3) (by rfl) sc_law.nd rfl rfl (by decide) rfl rfl (pa_cons (pe_op op_add pe_int (pe_call (ok_law_taken T) (hr.mono (by decide)) (by rfl) T.law_taken.g T.law_taken.F.kp T.law_taken.b .nil pass0 (pa_cons (pv 1) (pa_cons (pe_int) pa_nil)))) (pa_cons (pe_op op_add pe_int (pe_call (ok_law_taken T) (hr.mono (by decide)) (by rfl) T.law_taken.g T.law_taken.F.kp T.law_taken.b .nil pass0 (pa_cons (pv 1) (pa_cons (pe_int) pa_nil)))) pa_nil)) (by rfl)) (pss_cons (ps_set (i := 4) sc_law.nd rfl (by first | exact .inl rfl | exact .inr rfl) (pe_ix (ix_listK K) (pe_call (ok_law_named T) (hr.mono (by decide)) (by rfl) T.law_named.g T.law_named.F.kp T.law_named.b .nil pass0 (pa_cons (pv 2) pa_nil)) pe_int (fun _ _ => rfl))) (pss_cons (ps_if (pt_cmpR op_eq (pe_call (ok_law_taken T) (hr.mono (by decide)) (by rfl) T.law_taken.g T.law_taken.F.kp T.law_taken.b .nil pass0 (pa_cons (pv 1) (pa_cons (pe_int) pa_nil))) pe_int (nomark _)) (pss_one (ps_set (i := 5) sc_law.nd rfl (by first | exact .inl rfl | exact .inr rfl) (pe_call (ok_law_keptS T) (hr.mono (by decide)) (by rfl) T.law_kept.g T.law_kept.F.kp T.law_kept.b .nil pass0 (pa_cons (pv 1) (pa_cons (pv 2) (pa_cons (pv 4) (pa_cons (pv 3) pa_nil))))))) (pss_one (ps_set (i := 5) sc_law.nd rfl (by first | exact .inl rfl | exact .inr rfl) (pe_tup (pa_cons (pv 3) (pa_cons ((pe_call (ok_law_some_rows T) (hr.mono (by decide)) (by rfl) T.law_some_rows.g T.law_some_rows.F.kp T.law_some_rows.b .nil pass0 (pa_cons (pv 1) (pa_cons (pv 2) (pa_cons (pv 3) (pa_cons (pe_int) pa_nil)))))) pa_nil)))))) (pss_cons (ps_par (i := 6) (j := 7) (by rfl) sc_law.nd rfl rfl (by decide) rfl rfl (pa_cons (pe_dnewT) (pa_cons (pe_dnewT) pa_nil)) (by rfl)) (pss_cons (ps_for PassesOwn.never rfl (pi_tupK K (pe_ix (ix_tupK K) (pv 5) pe_int (fun _ _ => rfl))) (pg_name (i := 8) sc_law.nd rfl (by first | exact .inl rfl | exact .inr rfl))
        (pss_one (ps_for PassesOwn.never rfl (pi_tupK K (pe_ix (ix_tupK K) (pv 5) pe_int (fun _ _ => rfl))) (pg_name (i := 9) sc_law.nd rfl (by first | exact .inl rfl | exact .inr rfl))
          (pss_one (ps_for PassesOwn.never rfl (pi_range1 (by rfl) T.b_range (pa_cons (pv 3) pa_nil)) (pg_name (i := 10) sc_law.nd rfl (by first | exact .inl rfl | exact .inr rfl))
            (pss_one (ps_if (PW.pt (pw_and (pt_cmpR (op_eqD hr.units) (pe_slice (sl_tupAK K) (pv 8) po_none (po_some (pv 10))) (pe_slice (sl_tupAK K) (pv 9) po_none (po_some (pv 10))) (nomark _)) (pw_and1 (pt_cmp (pc_dnotin hu1 (pe_tup (pa_cons (pv 10) (pa_cons (pe_ix (ix_tupK K) (pv 8) (pv 10) (fun _ _ => rfl)) (pa_cons (pe_ix (ix_tupK K) (pv 9) (pv 10) (fun _ _ => rfl)) pa_nil)))) (pv 6))))))
              (pss_cons (ps_dput hu1 (pv 6) (pe_tup (pa_cons (pv 10) (pa_cons (pe_ix (ix_tupK K) (pv 8) (pv 10) (fun _ _ => rfl)) (pa_cons (pe_ix (ix_tupK K) (pv 9) (pv 10) (fun _ _ => rfl)) pa_nil)))) pe_bl rfl) (pss_cons (ps_dput hu1 (pv 7) (pv 8) pe_bl rfl) (pss_one (ps_dput hu1 (pv 7) (pv 9) pe_bl rfl)))) pss_nil))))))) (pss_cons (ps_if (pt_not (pt_val (pe_call (ok_law_alike T 4) (hr.mono (by decide)) (by rfl) T.law_alike.g T.law_alike.F.kp T.law_alike.b .nil pass0 (pa_cons ((pe_call (ok_forks T) hr (by rfl) T.forks.g T.forks.F.kp T.forks.b .nil pass0 (pa_cons (pv 2) (pa_cons (pv 5) pa_nil)))) (pa_cons ((pe_callTy (call_tuple_ofK K) (by rfl) T.b_tuple boot_tuple (pa_cons (pe_callB (cr_sortedDX (by rfl)) (by rfl) T.b_sorted boot_sorted (pa_cons (pv 6) pa_nil)) pa_nil))) pa_nil))))) (pss_one (ps_never)) pss_nil) (pss_cons (ps_set (i := 11) sc_law.nd rfl (by first | exact .inl rfl | exact .inr rfl) (pe_call (ok_compact T) hr (by rfl) T.compact.g T.compact.F.kp T.compact.b .nil pass0 (pa_cons (pv 2) (pa_cons (pv 5) pa_nil)))) (pss_cons (ps_if (pt_not (pt_val (pe_call (ok_law_alike T 4) (hr.mono (by decide)) (by rfl) T.law_alike.g T.law_alike.F.kp T.law_alike.b .nil pass0 (pa_cons (pv 11) (pa_cons (pe_tup (pa_cons (pv 3) (pa_cons ((pe_callTy (call_tuple_ofK K) (by rfl) T.b_tuple boot_tuple (pa_cons (pe_callB (cr_sortedDX (by rfl)) (by rfl) T.b_sorted boot_sorted (pa_cons (pv 7) pa_nil)) pa_nil))) pa_nil))) pa_nil))))) (pss_one (ps_never)) pss_nil) (pss_cons (ps_if (pt_cmpR op_isN (pe_call (ok_law_breaks T) (hr.mono (by decide)) (by rfl) T.law_breaks.g T.law_breaks.F.kp T.law_breaks.b .nil pass0 (pa_cons (pv 2) (pa_cons (pv 4) (pa_cons (pv 5) pa_nil)))) pe_non (nomark _)) (pss_one (ps_ret (pe_call (ok_law_alike T 4) (hr.mono (by decide)) (by rfl) T.law_alike.g T.law_alike.F.kp T.law_alike.b .nil pass0 (pa_cons ((pe_call (ok_closure T) hr (by rfl) T.closure.g T.closure.F.kp T.closure.b .nil pass0 (pa_cons (pv 2) (pa_cons (pv 4) (pa_cons (pv 11) pa_nil))))) (pa_cons (pv 5) pa_nil))))) pss_nil) (pss_cons (ps_set (i := 12) sc_law.nd rfl (by first | exact .inl rfl | exact .inr rfl) (pe_call (ok_law_closedS T) (hr.mono (by decide)) (by rfl) T.law_closed.g T.law_closed.F.kp T.law_closed.b .nil pass0 (pa_cons (pv 2) (pa_cons (pv 4) (pa_cons (pv 3) (pa_cons (pe_ix (ix_tupK K) (pv 5) pe_int (fun _ _ => rfl)) pa_nil)))))) (pss_one (ps_ret (pe_or (pe_cmpR op_isN (pv 12) pe_non (nomark _)) (pe_one (pe_call (ok_law_alike T 4) (hr.mono (by decide)) (by rfl) T.law_alike.g T.law_alike.F.kp T.law_alike.b .nil pass0 (pa_cons ((pe_call (ok_closure T) hr (by rfl) T.closure.g T.closure.F.kp T.closure.b .nil pass0 (pa_cons (pv 2) (pa_cons (pv 4) (pa_cons (pv 5) pa_nil))))) (pa_cons (pv 12) pa_nil)))))))))))))))))), ?_⟩
    -- row
    refine ⟨.ref c, rfl, by show 4 ≤ sizeLine; decide, fun r nr => ?_⟩
    have hcr : Sep K c r ns := hc.imp_left fun h z => h (by rw [z]; exact nr)
    have g1 : Gr H (upd H r (.lst [.ref c, .int 0, .int 3235, .int 0])) := Gx.new nr
    have hR1 : RowSt K (upd H r (.lst [.ref c, .int 0, .int 3235, .int 0])) r c := ⟨ns, 0, 3235, 0, upd_same, seqL_upd hS hcr, hcr, by omega, by omega, by omega⟩
    have hc1 := Lv.gx g1.x hR1 (show Lv K H c from hc.imp_right fun h => ⟨ns, h⟩)
    have hT1 := g1.tt hT
    generalize upd H r (.lst [.ref c, .int 0, .int 3235, .int 0]) = H1 at *
    have L1 : LawSt T H1 r c [] := ⟨hR1, hc1, hT1, fun p hp => by simp at hp⟩
    -- size, arity
    refine ⟨.ref r, rfl, r, c, 2, rfl, hR1, by omega, by omega, fun x H2 hx0 hx1 g2 hR2 => ⟨_, _, rfl, rfl, ?_⟩⟩
    have L2 := L1.gx g2 hR2
    obtain ⟨sz, esz⟩ := nat_add2 hx0
    dsimp only
    rw [esz]
    have hsz : 2 ≤ sz ∧ sz ≤ 3 := by omega
    refine ⟨.ref r, rfl, r, c, 4, rfl, hR2, by omega, by omega, fun y H3 hy0 hy1 g3 hR3 => ⟨_, _, rfl, rfl, _, _, rfl, ?_⟩⟩
    have L3 := L2.gx g3 hR3
    obtain ⟨ar, ear⟩ := nat_add1 hy0
    dsimp only
    rw [ear]
    have har : 1 ≤ ar ∧ ar ≤ 4 := by omega
    clear L1 L2 g1 g2 g3 hR1 hR2 hc1 hT1 hcr hS hc hT nr
    -- minus
    refine ⟨.int sz, rfl, sz, rfl, by omega, by omega, fun p H4 g4 np hLO => ?_⟩
    obtain ⟨os, hp, hos⟩ := hLO
    obtain ⟨v4, e4, d4⟩ := hos.at (i := 3) (d := opD 3 (minusT sz)) rfl
    refine ⟨p, os, 3, v4, rfl, rfl, .inl (.inl hp), atI_nat (j := 3) e4, ?_⟩
    have L4 : LawSt T H4 r c [(v4, opD 3 (minusT sz))] := (L3.gr g4).add d4
    have O3 : OpOk sz 3 (minusT sz) := named_ok (by omega) (by omega) (3, minusT sz) (List.mem_of_getElem? (i := 3) rfl)
    clear hos hp e4 d4 g4 np hR3 L3
    have MM : Malt sz (minusT sz) := minus_malt (by omega) (by omega)
    generalize minusT sz = tab at *
    -- relation
    refine' joinX (α := V × List (List Int) × Hp) (hp := fun a => a.2.2) (st := fun a => [some (.ref c), some (.ref r), some (.int sz), some (.int ar), some v4, some a.1, none, none, none, none, none, none, none]) (Pa := fun a => LawSt T a.2.2 r c [(a.1, relD ar a.2.1), (v4, opD 3 tab)] ∧ RelOk sz ar a.2.1 ∧ a.2.1 ≠ [] ∧ a.2.1.length ≤ 8) (fun key => ?step) (fun a ha => ?rest)
    case step =>
      refine ⟨.ref r, rfl, r, c, 2, rfl, L4.row, by omega, by omega, fun x H5 hx0 hx1 g5 hR5 => ⟨rfl, _, rfl, ?_⟩⟩
      have L5 := L4.gx g5 hR5
      refine ite2 (fun _ => ?_) (fun _ => ?_)
      · refine ⟨.ref r, rfl, .int sz, rfl, v4, rfl, .int ar, rfl, r, c, sz, ar, 3, v4, tab, rfl, hR5, L5.live, by omega, har, L5.d0, O3, fun z rs H6 g6 hR6 dz nz lz Rz _ => ?_⟩
        exact key (z, rs, H6) ⟨(L5.gx g6 hR6).add dz, Rz, nz, lz⟩
      · refine ⟨.int ar, rfl, .ref r, rfl, .int sz, rfl, .int ar, rfl, r, c, sz, ar, 6, rfl, hR5, L5.live, by omega, har, by omega, fun u rs H6 g6 hR6 du nu lu Ru => ⟨by show 2 ≤ sizeLine; decide, fun t nt => ?_⟩⟩
        have L6 := L5.gx g6 hR6
        exact key (.ref t, rs, _) ⟨(L6.gr (Gx.new nt)).add (rel_laid du nt), Ru, nu, (by show rs.length ≤ 8; omega)⟩
    case rest =>
    obtain ⟨v5, rows, H5⟩ := a
    obtain ⟨L5, R, ne, l8⟩ := ha
    dsimp only at L5 R ne l8 ⊢
    have good := RelOk.good R
    have nd := asc_nodup R.asc
    clear L4
    -- shown, rows
    refine fun d1 nd1 => ?_
    refine fun d2 nd2 => ⟨_, _, rfl, ?_⟩
    have ne12 : d1 ≠ d2 := fun z => by
      rw [← z, upd_same] at nd2
      cases nd2
    have nd20 : H5 d2 = none := Gr.free (Gx.new nd1) nd2
    have g6 : Gr H5 (upd (upd H5 d1 (.dT [])) d2 (.dT [])) := (Gx.new nd1).trans (Gx.new nd2)
    have S6 : Shn (upd (upd H5 d1 (.dT [])) d2 (.dT [])) d1 d2 [] [] := ⟨ne12, by rw [upd_ne ne12, upd_same]; rfl, by rw [upd_same]; rfl, List.nodup_nil, fun r => by simp [shownR]⟩
    generalize upd (upd H5 d1 (.dT [])) d2 (.dT []) = H6 at *
    have hu5 := L5.d0
    refine ixr1 rfl (hu5.gr g6) fun b xs hb6 hx6 => ⟨b, rfl, ⟨_, .inl (.inl hb6)⟩, ?_⟩
    have xl : xs.length = rows.length := by rw [hx6.1, List.length_map]
    refine for_tup (K := K) (a := b) (xs := xs) (fun i σ H' => ∃ y8 y9 y10 ks, σ = [some (.ref c), some (.ref r), some (.int sz), some (.int ar), some v4, some v5, some (.ref d1), some (.ref d2), y8, y9, y10, none, none] ∧ Gr H5 H' ∧ DTs K H' xs (rows.map rowD) ∧ H' b = some (.tup xs) ∧ Shn H' d1 d2 ((allF (rows.take i) rows ar).foldl addF []) ks)
      ⟨none, none, none, [], rfl, g6, hx6, hb6, S6⟩ (fun i σ H' _ hp => by
        obtain ⟨_, _, _, _, _, _, _, h, _⟩ := hp
        exact .inl (.inl h)) (fun i xa σ H' ex hp => ?_) (fun σ H' hp => ?_)
    · obtain ⟨y8, y9, y10, ks0, rfl, g0, hx0, hb0, S0⟩ := hp
      obtain ⟨da, eda, dva0⟩ := hx0.at' ex
      rw [List.getElem?_map] at eda
      obtain ⟨a, ea, rfl⟩ := Option.map_eq_some_iff.mp eda
      have am := List.mem_of_getElem? ea
      obtain ⟨al, av⟩ := good a am
      refine ixr1 rfl (hu5.gr g0) fun b' xs' hb' hx' => ⟨b', rfl, ⟨_, .inl (.inl hb')⟩, ?_⟩
      have xl' : xs'.length = rows.length := by rw [hx'.1, List.length_map]
      refine for_tup (K := K) (a := b') (xs := xs') (fun j σ H' => ∃ y9 y10 ks, σ = [some (.ref c), some (.ref r), some (.int sz), some (.int ar), some v4, some v5, some (.ref d1), some (.ref d2), some xa, y9, y10, none, none] ∧ Gr H5 H' ∧ DTs K H' xs (rows.map rowD) ∧ H' b = some (.tup xs) ∧ DTs K H' xs' (rows.map rowD) ∧ H' b' = some (.tup xs') ∧ Shn H' d1 d2 ((allF (rows.take i) rows ar ++ rowF a (rows.take j) ar).foldl addF []) ks)
        ⟨y9, y10, ks0, rfl, g0, hx0, hb0, hx', hb', by
          have e : rowF a (rows.take 0) ar = [] := rfl
          rw [e, List.append_nil]
          exact S0⟩ (fun j σ H' _ hp => by
          obtain ⟨_, _, _, _, _, _, _, _, h, _⟩ := hp
          exact .inl (.inl h)) (fun j xb σ H' exb hp => ?_) (fun σ H' hp => ?_)
      · obtain ⟨y9, y10, ks1, rfl, g1, hx1, hb1, hx1', hb1', S1⟩ := hp
        obtain ⟨db, edb, dvb1⟩ := hx1'.at' exb
        rw [List.getElem?_map] at edb
        obtain ⟨bb, eb, rfl⟩ := Option.map_eq_some_iff.mp edb
        have bm := List.mem_of_getElem? eb
        obtain ⟨bl, bv⟩ := good bb bm
        have next : allF (rows.take i) rows ar ++ rowF a (rows.take (j + 1)) ar = allF (rows.take i) rows ar ++ rowF a (rows.take j) ar ++ plF a bb ar := by
          rw [List.take_add_one, eb]
          show _ ++ rowF a (rows.take j ++ [bb]) ar = _
          rw [rowF_snoc, List.append_assoc]
        have cand : ∀ p, p ≤ ar → ∀ x ∈ allF (rows.take i) rows ar ++ rowF a (rows.take j) ar ++ plF a bb p, ∃ a ∈ rows, ∃ b ∈ rows, ∃ i, i < ar ∧ agr i a b ∧ x = (tr i a b, a, b) := fun p hp x hx => by
          rcases List.mem_append.mp hx with hx | hx
          · rcases List.mem_append.mp hx with hx | hx
            · obtain ⟨a', ha', r⟩ := mem_allF.mp hx
              exact ⟨a', List.mem_of_mem_take ha', r⟩
            · have : x ∈ allF [a] (rows.take j) ar := by
                unfold allF
                simpa using hx
              obtain ⟨a', ha', b', hb', r⟩ := mem_allF.mp this
              rw [List.mem_singleton.mp ha'] at r
              exact ⟨a, am, b', List.mem_of_mem_take hb', r⟩
          · unfold plF at hx
            obtain ⟨q, hq, rfl⟩ := List.mem_map.mp hx
            obtain ⟨h1, h2⟩ := List.mem_filter.mp hq
            exact ⟨a, am, bb, bm, q, by have := List.mem_range.mp h1; omega, agrB_iff.mp h2, rfl⟩
        generalize allF (rows.take i) rows ar ++ rowF a (rows.take j) ar = base0 at *
        refine ⟨.int ar, rfl, ar, rfl, by omega, by omega, ?_⟩
        refine for_range (n := ((ar : Nat) : Int).toNat) (fun p σ H' => ∃ y10 ks, σ = [some (.ref c), some (.ref r), some (.int sz), some (.int ar), some v4, some v5, some (.ref d1), some (.ref d2), some xa, some xb, y10, none, none] ∧ Gr H5 H' ∧ DTs K H' xs (rows.map rowD) ∧ H' b = some (.tup xs) ∧ DTs K H' xs' (rows.map rowD) ∧ H' b' = some (.tup xs') ∧ Shn H' d1 d2 ((base0 ++ plF a bb p).foldl addF []) ks)
          ⟨y10, ks1, rfl, g1, hx1, hb1, hx1', hb1', by
            have e : plF a bb 0 = [] := rfl
            rw [e, List.append_nil]
            exact S1⟩ (fun p σ H' hpa hp => ?_) (fun σ H' hp => ?_)
        · obtain ⟨y10, ks2, rfl, g2, hx2, hb2, hx2', hb2', S2⟩ := hp
          have hp4 : p < ar := by omega
          have few := few_of rfl (cand p (by omega)) har.2 fun r hr x hx => by have := (good r hr).2 x hx; omega
          have dva : DT K H' xa (rowD a) := hx2.2 i _ _ ex (by rw [List.getElem?_map, ea]; rfl)
          have dvb : DT K H' xb (rowD bb) := hx2'.2 j _ _ exb (by rw [List.getElem?_map, eb]; rfl)
          obtain ⟨aa, ea', haa⟩ := id dva.row_invS
          obtain ⟨ab, eb', hab⟩ := id dvb.row_invS
          have hz : (0 : Int) + (p : Int) = (p : Int) := Int.zero_add _
          have kl : ks2.length ≤ 8 := Nat.le_trans (len_le_of_sub S2.nd fun r hr => by
            obtain ⟨x, hx, h⟩ := List.mem_flatMap.mp ((S2.mem r).mp hr)
            obtain ⟨a', ha', b', hb', _, _, _, rfl⟩ := cand p (by omega) x ((mem_fold hx).elim (fun z => by simp at z) id)
            simp only [List.mem_cons, List.not_mem_nil, or_false] at h
            rcases h with rfl | rfl
            · exact ha'
            · exact hb') l8
          refine ⟨xa, rfl, .int (0 + (p : Int)), rfl, _, rfl, ?_⟩
          rw [ea']
          refine sl_any haa fun p1 H3 g3 hp1 => ?_
          refine ⟨xb, rfl, .int (0 + (p : Int)), rfl, _, rfl, ?_⟩
          rw [eb']
          refine sl_any (Gx.tupS g3 .nil hab) fun p2 H4 g4 hp2 => ?_
          have hp1' := Gx.tupS g4 .nil hp1
          rw [hz, cut_to (by rw [List.length_map]; omega)] at hp1' hp2
          rw [← ea', ← eb']
          have dp1 : DT K H4 (.ref p1) (rowD (a.take p)) := .row (by rw [List.map_take]; exact hp1')
          have dp2 : DT K H4 (.ref p2) (rowD (bb.take p)) := .row (by rw [List.map_take]; exact hp2)
          refine ⟨rowD (a.take p), rowD (bb.take p), dp1.dp, dp2.dp, row_shaped _, row_shaped _, _, rfl, ?_⟩
          rw [row_eqv]
          have g34 := g3.trans g4
          have S4 := S2.gr g34
          have g04 := g2.trans g34
          refine ite2 (fun h => ?_) (fun h => ?_)
          · have ag := (take_agr (by omega) (by omega)).mp (of_decide_eq_true h)
            have step : (base0 ++ plF a bb (p + 1)).foldl addF [] = addF ((base0 ++ plF a bb p).foldl addF []) (tr p a bb, a, bb) := by
              rw [plF_agr ag, ← List.append_assoc, List.foldl_append]
              rfl
            generalize (base0 ++ plF a bb p).foldl addF [] = fs at *
            refine ⟨.int (0 + (p : Int)), rfl, xa, rfl, .int (0 + (p : Int)), rfl, row_ix (dva.gr g34) (a := p) (by omega) (by omega) ⟨xb, rfl, .int (0 + (p : Int)), rfl, row_ix (dvb.gr g34) (a := p) (by omega) (by omega) ⟨by show 3 ≤ sizeLine; decide, fun t1 nt1 => ?_⟩⟩⟩
            have g5 : Gr H4 (upd H4 t1 (.tup [.int (0 + (p : Int)), .int (a.getD p 0), .int (bb.getD p 0)])) := Gx.new nt1
            have ht1 : (upd H4 t1 (.tup [.int (0 + (p : Int)), .int (a.getD p 0), .int (bb.getD p 0)])) t1 = some (.tup ((tr p a bb).map V.int)) := by
              rw [upd_same, hz]
              rfl
            generalize upd H4 t1 (.tup [.int (0 + (p : Int)), .int (a.getD p 0), .int (bb.getD p 0)]) = H5' at *
            have S5 := S4.gr g5
            have g05 := g04.trans g5
            have g25 : Gr H' H5' := g34.trans g5
            refine ⟨.ref d1, rfl, d1, _, rfl, get_row S5.hd1 ht1, _, rfl, ?_⟩
            rw [kd_has]
            refine ite2 (fun hn => ?_) (fun hn => ?_)
            · have hn : tr p a bb ∉ fs.map (·.1) := by simpa using hn
              refine ⟨.ref d1, rfl, .int (0 + (p : Int)), rfl, xa, rfl, .int (0 + (p : Int)), rfl, row_ix (dva.gr g25) (a := p) (by omega) (by omega) ⟨xb, rfl, .int (0 + (p : Int)), rfl, row_ix (dvb.gr g25) (a := p) (by omega) (by omega) ⟨by show 3 ≤ sizeLine; decide, fun t2 nt2 => ?_⟩⟩⟩
              have g6 : Gr H5' (upd H5' t2 (.tup [.int (0 + (p : Int)), .int (a.getD p 0), .int (bb.getD p 0)])) := Gx.new nt2
              have ht2 : (upd H5' t2 (.tup [.int (0 + (p : Int)), .int (a.getD p 0), .int (bb.getD p 0)])) t2 = some (.tup ((tr p a bb).map V.int)) := by
                rw [upd_same, hz]
                rfl
              generalize upd H5' t2 (.tup [.int (0 + (p : Int)), .int (a.getD p 0), .int (bb.getD p 0)]) = H6' at *
              have S6 := S5.gr g6
              have g26 : Gr H' H6' := g25.trans g6
              have g06 := g05.trans g6
              refine ⟨d1, _, rfl, put_row S6.hd1 ht2 (by rw [List.length_map]; omega), ?_⟩
              have haa6 := Gx.tupS g26 .nil haa
              have hab6 := Gx.tupS g26 .nil hab
              have na1 : aa ≠ d1 := fun z => by rw [z, S6.hd1] at haa6; cases haa6
              have nb1 : ab ≠ d1 := fun z => by rw [z, S6.hd1] at hab6; cases hab6
              have nb2 : ab ≠ d2 := fun z => by rw [z, S6.hd2] at hab6; cases hab6
              rw [kd_new hn]
              refine ⟨.ref d2, rfl, xa, rfl, d2, _, rfl, put_any ea' (by rw [upd_ne S6.ne.symm]; exact S6.hd2) (by rw [upd_ne na1]; exact haa6) (by omega), ?_⟩
              refine ⟨.ref d2, rfl, xb, rfl, d2, _, rfl, put_any eb' upd_same (by rw [upd_ne nb2, upd_ne nb1]; exact hab6) (by have := len_addK1 ks2 a; omega), ?_⟩
              have kp := S6.tups (o1 := .dT (kd (fs.map (·.1) ++ [tr p a bb]))) (o2 := .dT (kd (addK ks2 a))) (o3 := .dT (kd (addK (addK ks2 a) bb)))
              refine ⟨_, addK (addK ks2 a) bb, rfl, ((g06.wr nd1).wr nd20).wr nd20, DTs.keep kp (hx2.gr g26), kp _ _ (Gx.tupS g26 .nil hb2), DTs.keep kp (hx2'.gr g26), kp _ _ (Gx.tupS g26 .nil hb2'), ?_⟩
              rw [step]
              show Shn _ d1 d2 (addF fs (tr p a bb, a, bb)) _
              rw [show addF fs (tr p a bb, a, bb) = fs ++ [(tr p a bb, a, bb)] from if_neg hn]
              exact S6.put
            · have hn : tr p a bb ∈ fs.map (·.1) := by simpa using hn
              refine ⟨_, ks2, rfl, g05, hx2.gr g25, Gx.tupS g25 .nil hb2, hx2'.gr g25, Gx.tupS g25 .nil hb2', ?_⟩
              rw [step, show addF fs (tr p a bb, a, bb) = fs from if_pos hn]
              exact S5
          · have nag : ¬ agr p a bb := fun z => h (decide_eq_true ((take_agr (by omega) (by omega)).mpr z))
            refine iteF ⟨_, ks2, rfl, g04, hx2.gr g34, Gx.tupS g34 .nil hb2, hx2'.gr g34, Gx.tupS g34 .nil hb2', ?_⟩
            rw [plF_not nag]
            exact S4
        · obtain ⟨y10, ks2, rfl, g2, hx2, hb2, hx2', hb2', S2⟩ := hp
          refine ⟨_, _, ks2, rfl, g2, hx2, hb2, hx2', hb2', ?_⟩
          rw [next]
          exact S2
      · obtain ⟨y9, y10, ks1, rfl, g1, hx1, hb1, hx1', hb1', S1⟩ := hp
        refine ⟨_, _, _, ks1, rfl, g1, hx1, hb1, ?_⟩
        rw [xl', List.take_length] at S1
        rw [List.take_add_one, ea]
        show Shn H' d1 d2 ((allF (rows.take i ++ [a]) rows ar).foldl addF []) ks1
        rw [allF_snoc]
        exact S1
    · obtain ⟨y8, y9, y10, ks, rfl, g7, hx7, hb7, S7⟩ := hp
      rw [xl, List.take_length] at S7
      have S7 : Shn H' d1 d2 (forksF rows ar) ks := S7
      have L7 := L5.gr g7
      have sub := (shows_forks rows ar).2
      have few := few3 (rows := rows) har.2 fun r hr x hx => by have := (good r hr).2 x hx; omega
      have rl : ∀ r ∈ rows, r.length ≤ 1000 := fun r hr => by have := (good r hr).1; omega
      clear L5 hu5 g7 hx7 hb7 xl hx6 hb6 g6 S6 nd1 nd2 nd20
      -- forks
      refine ⟨.int sz, rfl, v5, rfl, sz, ar, v5, rows, rfl, ⟨by omega, hsz.2⟩, har, L7.d0, R, L7.tabs, fun z8 qs H8 g8 dz8 a8 m8 l8' => ?_⟩
      have S8 := S7.gr g8
      have L8 := L7.gr g8
      refine sorted_kd (n := 3) rfl S8.hd1 (forksF_nd rows ar) (by rw [List.length_map]; omega) (by decide) (fun k hk => fork_bd (sz := sz) (by omega) har.2 (fun r hr => (good r hr).2) (forksF_key.mp hk)) fun v9 rs9 H9 g9 dv9 a9 pm9 => ?_
      have er9 : rs9 = qs := asc_unique a9 a8 fun k => by
        rw [pm9.mem_iff, m8]
        exact forksF_key
      subst er9
      have b9 : ∀ k ∈ rs9, k.length ≤ 1000 := fun k hk => by
        have := (fork_bd (sz := sz) (by omega) har.2 (fun r hr => (good r hr).2) ((m8 k).mp hk)).1
        omega
      refine ⟨z8, v9, _, rfl, dz8.gr g9, dv9, it_rows (by omega) b9, fun H10 g10 => ⟨true, rfl, iteF ?_⟩⟩
      have L10 := (L8.gr g9).gr g10
      have S10 := (S8.gr g9).gr g10
      clear L8 S8 dz8 dv9 g8 g9 g10 L7 S7
      -- compact
      refine ⟨.int sz, rfl, v5, rfl, sz, ar, v5, rows, rfl, ⟨by omega, hsz.2⟩, har, L10.d0, R, by omega, L10.tabs, fun z11 rs11 H11 g11 dz11 a11 m11 => ?_⟩
      have L11 := L10.gr g11
      have S11 := S10.gr g11
      have in11 : ∀ r ∈ rs11, r ∈ rows := fun r hr => sub r ((m11 r).mp hr)
      have l11 : rs11.length ≤ 8 := Nat.le_trans (len_le_of_sub (asc_nodup a11) in11) l8
      have R11 : RelOk sz ar rs11 := ⟨R.ar1, R.ar4, fun r hr => R.len r (in11 r hr), fun r hr => R.val r (in11 r hr), a11, by omega⟩
      have kin : ∀ r ∈ ks, r ∈ rows := fun r hr => sub r ((S11.mem r).mp hr)
      have kl : ks.length ≤ 8 := Nat.le_trans (len_le_of_sub S11.nd kin) l8
      refine ⟨z11, rfl, .int ar, rfl, sorted_kd (n := ar) rfl S11.hd2 S11.nd (by omega) har.1 (fun k hk => (good k (kin k hk)).bd (by omega)) fun v12 rs12 H12 g12 dv12 a12 pm12 => ⟨by show 2 ≤ sizeLine; decide, fun t nt => ?_⟩⟩
      have er12 : rs12 = rs11 := asc_unique a12 a11 fun k => by rw [pm12.mem_iff, S11.mem, m11]
      subst er12
      have gt : Gr H12 (upd H12 t (.tup [.int ar, v12])) := Gx.new nt
      refine ⟨z11, .ref t, _, rfl, (dz11.gr g12).gr gt, rel_laid dv12 nt, it_rel (by omega) (fun r hr => rl r (in11 r hr)), fun H13 g13 => ⟨true, rfl, iteF ?_⟩⟩
      have L13 := ((L11.gr g12).gr gt).gr g13
      have dz13 := ((dz11.gr g12).gr gt).gr g13
      clear L10 S10 L11 S11 dz11 dv12 g11 g12 gt g13 nt
      -- breaks
      refine ⟨.int sz, rfl, v4, rfl, v5, rfl, sz, 3, ar, v4, v5, tab, rows, rfl, by omega, L13.tl.d0, by omega, O3.len, L13.d0, R, by omega, fun z14 H14 g14 dz14 => ⟨rfl, _, rfl, ?_⟩⟩
      have L14 := L13.gr g14
      have dz13' := dz13.gr g14
      have F : Fit sz 3 ar tab := ⟨by omega, by omega, by omega, by omega, har.1, har.2, O3.len, O3.val⟩
      rw [ans_non dz14]
      refine ite2 (fun hb => ?_) (fun hb => ?_)
      · have sh : Shut sz 3 tab ar rows := no_break_shut (Option.isNone_iff_eq_none.mp hb)
        refine ⟨.int sz, rfl, v4, rfl, z11, rfl, sz, 3, ar, v4, z11, tab, rs12, rfl, F, L14.tl.d0, dz13', R11, ⟨rows, ⟨in11, sh⟩, l8⟩, L14.tabs, fun z15 rs15 H15 g15 dz15 R15 l15 le15 => ⟨v5, rfl, ?_⟩⟩
        have er15 : rs15 = rows := asc_unique R15.asc R.asc fun k => ⟨le15.least rows ⟨in11, sh⟩ k, compact_makes (by omega) MM good sh sub har.1 (shows_forks rows ar).1 rs15 ⟨fun r hr => le15.sub r ((m11 r).mpr hr), le15.shut⟩ k⟩
        subst er15
        exact ⟨z15, v5, _, rfl, dz15, L14.d0.gr g15, it_rel (by omega) rl, fun H16 _ => q H16⟩
      · refine ⟨.int sz, rfl, v4, rfl, .int ar, rfl, ixr1 rfl L14.d0 fun b' xs' hb' hx' => ⟨sz, ar, 3, v4, .ref b', tab, rows, rfl, by omega, har, L14.tl.d0, .of O3, .mk hb' hx', ne, l8, R, fun H15 g15 no => ?_, fun z15 rs15 H15 g15 dz15 R15 l15 n15 le15 => ?_⟩⟩
        · refine ⟨.non, rfl, rfl, _, rfl, ?_⟩
          rw [show decide (V.non = V.non) = true by simp]
          exact iteT (q H15)
        · have L15 := L14.gr g15
          obtain ⟨az, xz, ez, _, _⟩ := dz15.tup_inv
          refine ⟨z15, rfl, rfl, _, rfl, ?_⟩
          rw [show decide (z15 = V.non) = false by rw [ez]; simp]
          refine iteF ?_
          refine ⟨.int sz, rfl, v4, rfl, v5, rfl, sz, 3, ar, v4, v5, tab, rows, rfl, F, L15.tl.d0, L15.d0, R, ⟨rs15, ⟨le15.sub, le15.shut⟩, l15⟩, L15.tabs, fun z16 rs16 H16 g16 dz16 R16 l16 le16 => ⟨z15, rfl, ?_⟩⟩
          have er16 := least_eq le16 le15 R16 R15
          subst er16
          exact ⟨z16, z15, _, rfl, dz16, dz15.gr g16, it_rel (by omega) (fun r hr => by have := R16.len r hr; omega), fun H17 _ => q H17⟩
end K35

set_option Elab.async false
set_option linter.all false
set_option maxRecDepth 100000
set_option maxHeartbeats 4000000
namespace K35
open PySem PySem.Spec PyProof.Rows L2 TK MR
/-- walk_ofTs, with the empty tables of the defs of these names -/
theorem walk_ofAll {l : PySem.W.OpenLaw} {n k : Nat} {q : Program} {loose : List Str} {XP : (Str → Option Value) → Heap → Prop} {YP : World → Heap → Prop} {d : DefRec} {K : Params → PySem.W.Frag} {CX : World → CXT} {x : Str} (names : List Str)
    (hn : l.most = some n) (hn2 : n ≤ sizeLine) (hdf : d.params.defaults = []) (hr : Room k callerA) (hrec : (names.all fun y => (recsOf q).any fun e => e.name == y) = true) (hY : ∀ (w : World) (h : Heap), YP w h → (K w.params).In h)
    (F : ∀ (w : World) (mg : Str → Option Value) (fa : Addr) (h : Heap), YP w h → (K w.params).In h → h.Ns mainGlobals mg → mg d.name = some (.ref fa) → (∀ y ∈ names, ∀ fb, mg y = some (.ref fb) → LamX.OwnTab (K w.params) fb h) → LamX.LawAtS l w (K w.params) (CX w) k n x mg fa h)
    (hCX : ∀ (w : World) (H : Hp) (s : Shared) (e : Value) (s' : Shared), CX w [] H s (fun _ _ _ => False) e s' → False) :
    PySem.W.WalkO q loose XP YP l.row.toRowW d [] (fun f vs => PySem.call f vs) := by
  refine Att.attach_callB hn hdf fun w s₀ s₁ mg mb fa o pm cd doc a vs ns G Y ho hd hcd hmg hobj hints hlen hbits hg => ?_
  have KX := hY w _ Y
  have own : ∀ y ∈ names, ∀ fb, mg y = some (.ref fb) → LamX.OwnTab (K w.params) fb s₁.heap := fun y hy fb hfb c P o1 fd1 e dd vs1 sl k1 k2 k3 k4 k5 => by
    obtain ⟨dL, hm, hn1⟩ := List.any_eq_true.mp (List.all_eq_true.mp hrec y hy)
    have hn2 : dL.name = y := beq_iff_eq.mp hn1
    obtain ⟨a', o', fd', c', P', h1, h2, h3, h4, h5, h6⟩ := G.T.tab dL hm
    rw [hn2, hfb] at h1
    cases h1
    have g1 := KX _ _ k1
    rw [g1] at h2
    cases h2
    rw [k2] at h3
    cases h3
    rw [k3] at h4
    cases h4
    obtain ⟨⟨oc, vc, e1, _, e3, e4⟩, hP⟩ := h6
    have g2 := KX _ _ k4
    rw [g2] at e1
    cases e1
    cases e3
    rw [k5] at e4
    cases e4
    exact hP
  obtain ⟨fd, cs, sp, hT, nT, C, hb, hsp, hF⟩ := F w mg fa _ Y KX G.T.g hmg own
  exact LamX.law_callTs KX G.T.g G.T.b G.T.builtins G.T.nolimit hg hT nT C G.T.bmain hobj hints (Nat.le_trans hlen hn2) hr hF hb (fun H hH hS => hsp H a ns hlen hbits hH hS) fun H e s' => hCX w H s₁ e s'

abbrev tabNames : List Str := ["is_row", "is_relation"]
theorem law_at {l : PySem.W.OpenLaw} {w : World} {K : PySem.W.Frag} {h : Heap} {mg : Str → Option Value} {fa : Addr} (X : K.In h) (G : h.Ns mainGlobals mg) (hfa : mg "law" = some (.ref fa)) (own : ∀ y ∈ tabNames, ∀ fb, mg y = some (.ref fb) → LamX.OwnTab K fb h)
    {f0 c0 : Addr} {oc0 kV0 dc0 pm0 ct0 : Value} {od0 an0 : Option Addr} {sl0 : Array (Option Value)}
    {f1 c1 : Addr} {oc1 kV1 dc1 pm1 ct1 : Value} {od1 an1 : Option Addr} {sl1 : Array (Option Value)}
    {f2 c2 : Addr} {oc2 kV2 dc2 pm2 ct2 : Value} {od2 an2 : Option Addr} {sl2 : Array (Option Value)}
    {f3 c3 : Addr} {oc3 kV3 dc3 pm3 ct3 : Value} {od3 an3 : Option Addr} {sl3 : Array (Option Value)}
    {f4 c4 : Addr} {oc4 kV4 dc4 pm4 ct4 : Value} {od4 an4 : Option Addr} {sl4 : Array (Option Value)}
    {f5 c5 : Addr} {oc5 kV5 dc5 pm5 ct5 : Value} {od5 an5 : Option Addr} {sl5 : Array (Option Value)}
    {f6 c6 : Addr} {oc6 kV6 dc6 pm6 ct6 : Value} {od6 an6 : Option Addr} {sl6 : Array (Option Value)}
    {f7 c7 : Addr} {oc7 kV7 dc7 pm7 ct7 : Value} {od7 an7 : Option Addr} {sl7 : Array (Option Value)}
    {f8 c8 : Addr} {oc8 kV8 dc8 pm8 ct8 : Value} {od8 an8 : Option Addr} {sl8 : Array (Option Value)}
    {f9 c9 : Addr} {oc9 kV9 dc9 pm9 ct9 : Value} {od9 an9 : Option Addr} {sl9 : Array (Option Value)}
    {f10 c10 : Addr} {oc10 kV10 dc10 pm10 ct10 : Value} {od10 an10 : Option Addr} {sl10 : Array (Option Value)}
    {f11 c11 : Addr} {oc11 kV11 dc11 pm11 ct11 : Value} {od11 an11 : Option Addr} {sl11 : Array (Option Value)}
    {f12 c12 : Addr} {oc12 kV12 dc12 pm12 ct12 : Value} {od12 an12 : Option Addr} {sl12 : Array (Option Value)}
    {f13 c13 : Addr} {oc13 kV13 dc13 pm13 ct13 : Value} {od13 an13 : Option Addr} {sl13 : Array (Option Value)}
    {f14 c14 : Addr} {oc14 kV14 dc14 pm14 ct14 : Value} {od14 an14 : Option Addr} {sl14 : Array (Option Value)}
    {f15 c15 : Addr} {oc15 kV15 dc15 pm15 ct15 : Value} {od15 an15 : Option Addr} {sl15 : Array (Option Value)}
    {f16 c16 : Addr} {oc16 kV16 dc16 pm16 ct16 : Value} {od16 an16 : Option Addr} {sl16 : Array (Option Value)}
    {f17 c17 : Addr} {oc17 kV17 dc17 pm17 ct17 : Value} {od17 an17 : Option Addr} {sl17 : Array (Option Value)}
    {f18 c18 : Addr} {oc18 kV18 dc18 pm18 ct18 : Value} {od18 an18 : Option Addr} {sl18 : Array (Option Value)}
    {f19 c19 : Addr} {oc19 kV19 dc19 pm19 ct19 : Value} {od19 an19 : Option Addr} {sl19 : Array (Option Value)}
    {f20 c20 : Addr} {oc20 kV20 dc20 pm20 ct20 : Value} {od20 an20 : Option Addr} {sl20 : Array (Option Value)}
    {f21 c21 : Addr} {oc21 kV21 dc21 pm21 ct21 : Value} {od21 an21 : Option Addr} {sl21 : Array (Option Value)}
    {f22 c22 : Addr} {oc22 kV22 dc22 pm22 ct22 : Value} {od22 an22 : Option Addr} {sl22 : Array (Option Value)}
    {f23 c23 : Addr} {oc23 kV23 dc23 pm23 ct23 : Value} {od23 an23 : Option Addr} {sl23 : Array (Option Value)}
    {f24 c24 : Addr} {oc24 kV24 dc24 pm24 ct24 : Value} {od24 an24 : Option Addr} {sl24 : Array (Option Value)}
    {f25 c25 : Addr} {oc25 kV25 dc25 pm25 ct25 : Value} {od25 an25 : Option Addr} {sl25 : Array (Option Value)}
    {f26 c26 : Addr} {oc26 kV26 dc26 pm26 ct26 : Value} {od26 an26 : Option Addr} {sl26 : Array (Option Value)}
    {f27 c27 : Addr} {oc27 kV27 dc27 pm27 ct27 : Value} {od27 an27 : Option Addr} {sl27 : Array (Option Value)}
    {f28 c28 : Addr} {oc28 kV28 dc28 pm28 ct28 : Value} {od28 an28 : Option Addr} {sl28 : Array (Option Value)}
    {f29 c29 : Addr} {oc29 kV29 dc29 pm29 ct29 : Value} {od29 an29 : Option Addr} {sl29 : Array (Option Value)}
    {P3 : Addr} {e3 : Value} {dd3 : Option Addr} {vs3 : Array Value} {ss3 : Array (Option Value)}
    {P4 : Addr} {e4 : Value} {dd4 : Option Addr} {vs4 : Array Value} {ss4 : Array (Option Value)}
    {K0C : Addr}
    {K0m0f : Addr} {K0m0oc K0m0kV K0m0dc K0m0pm K0m0cd K0m0ct : Value} {K0m0od K0m0an : Option Addr} {K0m0sl : Array (Option Value)}
    {K0m1f : Addr} {K0m1oc K0m1kV K0m1dc K0m1pm K0m1cd K0m1ct : Value} {K0m1od K0m1an : Option Addr} {K0m1sl : Array (Option Value)}
    {K0m2f : Addr} {K0m2oc K0m2kV K0m2dc K0m2pm K0m2cd K0m2ct : Value} {K0m2od K0m2an : Option Addr} {K0m2sl : Array (Option Value)}
    {K0m3f : Addr} {K0m3oc K0m3kV K0m3dc K0m3pm K0m3cd K0m3ct : Value} {K0m3od K0m3an : Option Addr} {K0m3sl : Array (Option Value)}
    {K0m4f : Addr} {K0m4oc K0m4kV K0m4dc K0m4pm K0m4cd K0m4ct : Value} {K0m4od K0m4an : Option Addr} {K0m4sl : Array (Option Value)}
    {tMOST_VALUES : Tok}
    {tMOST_PLACES : Tok}
    {tMOST_ARGUMENTS : Tok}
    {tLONGEST_TABLE : Tok}
    (a0 : PySem.W.nsIn K mainGlobals "power_of" = some (some (.ref f0)))
    (l0 : K.lookup f0 = some ⟨oc0, od0, .func (PySem.W.fnOf "power_of" "power_of" (defArgs s_power_of) (defBody s_power_of) (defScope s_power_of) .none kV0 dc0 pm0 an0 (.ref c0) ct0), sl0⟩)
    (d0 : PySem.W.codeIn K (.ref c0) "power_of" = true)
    (k0 : PySem.W.keepIn K (.ref f0) = true)
    (a1 : PySem.W.nsIn K mainGlobals "is_integer" = some (some (.ref f1)))
    (l1 : K.lookup f1 = some ⟨oc1, od1, .func (PySem.W.fnOf "is_integer" "is_integer" (defArgs s_is_integer) (defBody s_is_integer) (defScope s_is_integer) .none kV1 dc1 pm1 an1 (.ref c1) ct1), sl1⟩)
    (d1 : PySem.W.codeIn K (.ref c1) "is_integer" = true)
    (k1 : PySem.W.keepIn K (.ref f1) = true)
    (a2 : PySem.W.nsIn K mainGlobals "is_tuple" = some (some (.ref f2)))
    (l2 : K.lookup f2 = some ⟨oc2, od2, .func (PySem.W.fnOf "is_tuple" "is_tuple" (defArgs s_is_tuple) (defBody s_is_tuple) (defScope s_is_tuple) .none kV2 dc2 pm2 an2 (.ref c2) ct2), sl2⟩)
    (d2 : PySem.W.codeIn K (.ref c2) "is_tuple" = true)
    (k2 : PySem.W.keepIn K (.ref f2) = true)
    (a3 : PySem.W.nsIn K mainGlobals "is_row" = some (some (.ref f3)))
    (l3 : K.lookup f3 = some ⟨oc3, od3, .func (PySem.W.fnOf "is_row" "is_row" (defArgs s_is_row) (defBody s_is_row) (defScope s_is_row) .none kV3 dc3 pm3 an3 (.ref c3) ct3), sl3⟩)
    (d3 : PySem.W.codeIn K (.ref c3) "is_row" = true)
    (k3 : PySem.W.keepIn K (.ref f3) = true)
    (a4 : PySem.W.nsIn K mainGlobals "is_relation" = some (some (.ref f4)))
    (l4 : K.lookup f4 = some ⟨oc4, od4, .func (PySem.W.fnOf "is_relation" "is_relation" (defArgs s_is_relation) (defBody s_is_relation) (defScope s_is_relation) .none kV4 dc4 pm4 an4 (.ref c4) ct4), sl4⟩)
    (d4 : PySem.W.codeIn K (.ref c4) "is_relation" = true)
    (k4 : PySem.W.keepIn K (.ref f4) = true)
    (a5 : PySem.W.nsIn K mainGlobals "is_operation_arity" = some (some (.ref f5)))
    (l5 : K.lookup f5 = some ⟨oc5, od5, .func (PySem.W.fnOf "is_operation_arity" "is_operation_arity" (defArgs s_is_operation_arity) (defBody s_is_operation_arity) (defScope s_is_operation_arity) .none kV5 dc5 pm5 an5 (.ref c5) ct5), sl5⟩)
    (d5 : PySem.W.codeIn K (.ref c5) "is_operation_arity" = true)
    (k5 : PySem.W.keepIn K (.ref f5) = true)
    (a6 : PySem.W.nsIn K mainGlobals "is_operation" = some (some (.ref f6)))
    (l6 : K.lookup f6 = some ⟨oc6, od6, .func (PySem.W.fnOf "is_operation" "is_operation" (defArgs s_is_operation) (defBody s_is_operation) (defScope s_is_operation) .none kV6 dc6 pm6 an6 (.ref c6) ct6), sl6⟩)
    (d6 : PySem.W.codeIn K (.ref c6) "is_operation" = true)
    (k6 : PySem.W.keepIn K (.ref f6) = true)
    (a7 : PySem.W.nsIn K mainGlobals "check_size" = some (some (.ref f7)))
    (l7 : K.lookup f7 = some ⟨oc7, od7, .func (PySem.W.fnOf "check_size" "check_size" (defArgs s_check_size) (defBody s_check_size) (defScope s_check_size) .none kV7 dc7 pm7 an7 (.ref c7) ct7), sl7⟩)
    (d7 : PySem.W.codeIn K (.ref c7) "check_size" = true)
    (k7 : PySem.W.keepIn K (.ref f7) = true)
    (a8 : PySem.W.nsIn K mainGlobals "check_relation" = some (some (.ref f8)))
    (l8 : K.lookup f8 = some ⟨oc8, od8, .func (PySem.W.fnOf "check_relation" "check_relation" (defArgs s_check_relation) (defBody s_check_relation) (defScope s_check_relation) .none kV8 dc8 pm8 an8 (.ref c8) ct8), sl8⟩)
    (d8 : PySem.W.codeIn K (.ref c8) "check_relation" = true)
    (k8 : PySem.W.keepIn K (.ref f8) = true)
    (a9 : PySem.W.nsIn K mainGlobals "check_operation" = some (some (.ref f9)))
    (l9 : K.lookup f9 = some ⟨oc9, od9, .func (PySem.W.fnOf "check_operation" "check_operation" (defArgs s_check_operation) (defBody s_check_operation) (defScope s_check_operation) .none kV9 dc9 pm9 an9 (.ref c9) ct9), sl9⟩)
    (d9 : PySem.W.codeIn K (.ref c9) "check_operation" = true)
    (k9 : PySem.W.keepIn K (.ref f9) = true)
    (a10 : PySem.W.nsIn K mainGlobals "argument_steps" = some (some (.ref f10)))
    (l10 : K.lookup f10 = some ⟨oc10, od10, .func (PySem.W.fnOf "argument_steps" "argument_steps" (defArgs s_argument_steps) (defBody s_argument_steps) (defScope s_argument_steps) .none kV10 dc10 pm10 an10 (.ref c10) ct10), sl10⟩)
    (d10 : PySem.W.codeIn K (.ref c10) "argument_steps" = true)
    (k10 : PySem.W.keepIn K (.ref f10) = true)
    (a11 : PySem.W.nsIn K mainGlobals "_parts" = some (some (.ref f11)))
    (l11 : K.lookup f11 = some ⟨oc11, od11, .func (PySem.W.fnOf "_parts" "_parts" (defArgs s_parts) (defBody s_parts) (defScope s_parts) .none kV11 dc11 pm11 an11 (.ref c11) ct11), sl11⟩)
    (d11 : PySem.W.codeIn K (.ref c11) "_parts" = true)
    (k11 : PySem.W.keepIn K (.ref f11) = true)
    (a12 : PySem.W.nsIn K mainGlobals "_numbered" = some (some (.ref f12)))
    (l12 : K.lookup f12 = some ⟨oc12, od12, .func (PySem.W.fnOf "_numbered" "_numbered" (defArgs s_numbered) (defBody s_numbered) (defScope s_numbered) .none kV12 dc12 pm12 an12 (.ref c12) ct12), sl12⟩)
    (d12 : PySem.W.codeIn K (.ref c12) "_numbered" = true)
    (k12 : PySem.W.keepIn K (.ref f12) = true)
    (a13 : PySem.W.nsIn K mainGlobals "forks" = some (some (.ref f13)))
    (l13 : K.lookup f13 = some ⟨oc13, od13, .func (PySem.W.fnOf "forks" "forks" (defArgs s_forks) (defBody s_forks) (defScope s_forks) .none kV13 dc13 pm13 an13 (.ref c13) ct13), sl13⟩)
    (d13 : PySem.W.codeIn K (.ref c13) "forks" = true)
    (k13 : PySem.W.keepIn K (.ref f13) = true)
    (a14 : PySem.W.nsIn K mainGlobals "compact" = some (some (.ref f14)))
    (l14 : K.lookup f14 = some ⟨oc14, od14, .func (PySem.W.fnOf "compact" "compact" (defArgs s_compact) (defBody s_compact) (defScope s_compact) .none kV14 dc14 pm14 an14 (.ref c14) ct14), sl14⟩)
    (d14 : PySem.W.codeIn K (.ref c14) "compact" = true)
    (k14 : PySem.W.keepIn K (.ref f14) = true)
    (a15 : PySem.W.nsIn K mainGlobals "_showing_pairs" = some (some (.ref f15)))
    (l15 : K.lookup f15 = some ⟨oc15, od15, .func (PySem.W.fnOf "_showing_pairs" "_showing_pairs" (defArgs s_showing_pairs) (defBody s_showing_pairs) (defScope s_showing_pairs) .none kV15 dc15 pm15 an15 (.ref c15) ct15), sl15⟩)
    (d15 : PySem.W.codeIn K (.ref c15) "_showing_pairs" = true)
    (k15 : PySem.W.keepIn K (.ref f15) = true)
    (a16 : PySem.W.nsIn K mainGlobals "closure" = some (some (.ref f16)))
    (l16 : K.lookup f16 = some ⟨oc16, od16, .func (PySem.W.fnOf "closure" "closure" (defArgs s_closure) (defBody s_closure) (defScope s_closure) .none kV16 dc16 pm16 an16 (.ref c16) ct16), sl16⟩)
    (d16 : PySem.W.codeIn K (.ref c16) "closure" = true)
    (k16 : PySem.W.keepIn K (.ref f16) = true)
    (a17 : PySem.W.nsIn K mainGlobals "_law_taken" = some (some (.ref f17)))
    (l17 : K.lookup f17 = some ⟨oc17, od17, .func (PySem.W.fnOf "_law_taken" "_law_taken" (defArgs s_law_taken) (defBody s_law_taken) (defScope s_law_taken) .none kV17 dc17 pm17 an17 (.ref c17) ct17), sl17⟩)
    (d17 : PySem.W.codeIn K (.ref c17) "_law_taken" = true)
    (k17 : PySem.W.keepIn K (.ref f17) = true)
    (a18 : PySem.W.nsIn K mainGlobals "_law_pick" = some (some (.ref f18)))
    (l18 : K.lookup f18 = some ⟨oc18, od18, .func (PySem.W.fnOf "_law_pick" "_law_pick" (defArgs s_law_pick) (defBody s_law_pick) (defScope s_law_pick) .none kV18 dc18 pm18 an18 (.ref c18) ct18), sl18⟩)
    (d18 : PySem.W.codeIn K (.ref c18) "_law_pick" = true)
    (k18 : PySem.W.keepIn K (.ref f18) = true)
    (a19 : PySem.W.nsIn K mainGlobals "_law_alike" = some (some (.ref f19)))
    (l19 : K.lookup f19 = some ⟨oc19, od19, .func (PySem.W.fnOf "_law_alike" "_law_alike" (defArgs s_law_alike) (defBody s_law_alike) (defScope s_law_alike) .none kV19 dc19 pm19 an19 (.ref c19) ct19), sl19⟩)
    (d19 : PySem.W.codeIn K (.ref c19) "_law_alike" = true)
    (k19 : PySem.W.keepIn K (.ref f19) = true)
    (a20 : PySem.W.nsIn K mainGlobals "_law_rows" = some (some (.ref f20)))
    (l20 : K.lookup f20 = some ⟨oc20, od20, .func (PySem.W.fnOf "_law_rows" "_law_rows" (defArgs s_law_rows) (defBody s_law_rows) (defScope s_law_rows) .none kV20 dc20 pm20 an20 (.ref c20) ct20), sl20⟩)
    (d20 : PySem.W.codeIn K (.ref c20) "_law_rows" = true)
    (k20 : PySem.W.keepIn K (.ref f20) = true)
    (a21 : PySem.W.nsIn K mainGlobals "_law_tuples" = some (some (.ref f21)))
    (l21 : K.lookup f21 = some ⟨oc21, od21, .func (PySem.W.fnOf "_law_tuples" "_law_tuples" (defArgs s_law_tuples) (defBody s_law_tuples) (defScope s_law_tuples) .none kV21 dc21 pm21 an21 (.ref c21) ct21), sl21⟩)
    (d21 : PySem.W.codeIn K (.ref c21) "_law_tuples" = true)
    (k21 : PySem.W.keepIn K (.ref f21) = true)
    (a22 : PySem.W.nsIn K mainGlobals "_law_value" = some (some (.ref f22)))
    (l22 : K.lookup f22 = some ⟨oc22, od22, .func (PySem.W.fnOf "_law_value" "_law_value" (defArgs s_law_value) (defBody s_law_value) (defScope s_law_value) .none kV22 dc22 pm22 an22 (.ref c22) ct22), sl22⟩)
    (d22 : PySem.W.codeIn K (.ref c22) "_law_value" = true)
    (k22 : PySem.W.keepIn K (.ref f22) = true)
    (a23 : PySem.W.nsIn K mainGlobals "_law_carried" = some (some (.ref f23)))
    (l23 : K.lookup f23 = some ⟨oc23, od23, .func (PySem.W.fnOf "_law_carried" "_law_carried" (defArgs s_law_carried) (defBody s_law_carried) (defScope s_law_carried) .none kV23 dc23 pm23 an23 (.ref c23) ct23), sl23⟩)
    (d23 : PySem.W.codeIn K (.ref c23) "_law_carried" = true)
    (k23 : PySem.W.keepIn K (.ref f23) = true)
    (a24 : PySem.W.nsIn K mainGlobals "_law_breaks" = some (some (.ref f24)))
    (l24 : K.lookup f24 = some ⟨oc24, od24, .func (PySem.W.fnOf "_law_breaks" "_law_breaks" (defArgs s_law_breaks) (defBody s_law_breaks) (defScope s_law_breaks) .none kV24 dc24 pm24 an24 (.ref c24) ct24), sl24⟩)
    (d24 : PySem.W.codeIn K (.ref c24) "_law_breaks" = true)
    (k24 : PySem.W.keepIn K (.ref f24) = true)
    (a25 : PySem.W.nsIn K mainGlobals "_law_closed" = some (some (.ref f25)))
    (l25 : K.lookup f25 = some ⟨oc25, od25, .func (PySem.W.fnOf "_law_closed" "_law_closed" (defArgs s_law_closed) (defBody s_law_closed) (defScope s_law_closed) .none kV25 dc25 pm25 an25 (.ref c25) ct25), sl25⟩)
    (d25 : PySem.W.codeIn K (.ref c25) "_law_closed" = true)
    (k25 : PySem.W.keepIn K (.ref f25) = true)
    (a26 : PySem.W.nsIn K mainGlobals "_law_kept" = some (some (.ref f26)))
    (l26 : K.lookup f26 = some ⟨oc26, od26, .func (PySem.W.fnOf "_law_kept" "_law_kept" (defArgs s_law_kept) (defBody s_law_kept) (defScope s_law_kept) .none kV26 dc26 pm26 an26 (.ref c26) ct26), sl26⟩)
    (d26 : PySem.W.codeIn K (.ref c26) "_law_kept" = true)
    (k26 : PySem.W.keepIn K (.ref f26) = true)
    (a27 : PySem.W.nsIn K mainGlobals "_law_named" = some (some (.ref f27)))
    (l27 : K.lookup f27 = some ⟨oc27, od27, .func (PySem.W.fnOf "_law_named" "_law_named" (defArgs s_law_named) (defBody s_law_named) (defScope s_law_named) .none kV27 dc27 pm27 an27 (.ref c27) ct27), sl27⟩)
    (d27 : PySem.W.codeIn K (.ref c27) "_law_named" = true)
    (k27 : PySem.W.keepIn K (.ref f27) = true)
    (a28 : PySem.W.nsIn K mainGlobals "_law_some_rows" = some (some (.ref f28)))
    (l28 : K.lookup f28 = some ⟨oc28, od28, .func (PySem.W.fnOf "_law_some_rows" "_law_some_rows" (defArgs s_law_some_rows) (defBody s_law_some_rows) (defScope s_law_some_rows) .none kV28 dc28 pm28 an28 (.ref c28) ct28), sl28⟩)
    (d28 : PySem.W.codeIn K (.ref c28) "_law_some_rows" = true)
    (k28 : PySem.W.keepIn K (.ref f28) = true)
    (a29 : PySem.W.nsIn K mainGlobals "law" = some (some (.ref f29)))
    (l29 : K.lookup f29 = some ⟨oc29, od29, .func (PySem.W.fnOf "law" "law" (defArgs s_law) (defBody s_law) (defScope s_law) .none kV29 dc29 pm29 an29 (.ref c29) ct29), sl29⟩)
    (d29 : PySem.W.codeIn K (.ref c29) "law" = true)
    (k29 : PySem.W.keepIn K (.ref f29) = true)
    (m3 : K.lookup c3 = some ⟨e3, dd3, .fields vs3, ss3⟩)
    (v3 : vs3[11]? = some (.ref P3))
    (h3 : PySem.W.codeHdIn K c3 P3 = true)
    (n3 : K.lookup P3 = none)
    (m4 : K.lookup c4 = some ⟨e4, dd4, .fields vs4, ss4⟩)
    (v4 : vs4[11]? = some (.ref P4))
    (h4 : PySem.W.codeHdIn K c4 P4 = true)
    (n4 : K.lookup P4 = none)
    (K0A : PySem.W.nsIn K mainGlobals "Closing" = some (some (.ref K0C)))
    (K0m0a : PySem.W.findIn K (.ref K0C) "__init__" = some (some (.ref K0m0f)))
    (K0m0i : PySem.W.isFn K (.ref K0m0f) = true)
    (K0m0l : K.lookup K0m0f = some ⟨K0m0oc, K0m0od, .func (PySem.W.fnOf "__init__" "Closing.__init__" (defArgs s_Closing_init) (defBody s_Closing_init) (defScope s_Closing_init) .none K0m0kV K0m0dc K0m0pm K0m0an K0m0cd K0m0ct), K0m0sl⟩)
    (K0m0c : PySem.W.codeIn K K0m0cd "Closing.__init__" = true)
    (K0m0k : PySem.W.keepIn K (.ref K0m0f) = true)
    (K0m1a : PySem.W.findIn K (.ref K0C) "keep" = some (some (.ref K0m1f)))
    (K0m1i : PySem.W.isFn K (.ref K0m1f) = true)
    (K0m1l : K.lookup K0m1f = some ⟨K0m1oc, K0m1od, .func (PySem.W.fnOf "keep" "Closing.keep" (defArgs s_Closing_keep) (defBody s_Closing_keep) (defScope s_Closing_keep) .none K0m1kV K0m1dc K0m1pm K0m1an K0m1cd K0m1ct), K0m1sl⟩)
    (K0m1c : PySem.W.codeIn K K0m1cd "Closing.keep" = true)
    (K0m1k : PySem.W.keepIn K (.ref K0m1f) = true)
    (K0m2a : PySem.W.findIn K (.ref K0C) "close" = some (some (.ref K0m2f)))
    (K0m2i : PySem.W.isFn K (.ref K0m2f) = true)
    (K0m2l : K.lookup K0m2f = some ⟨K0m2oc, K0m2od, .func (PySem.W.fnOf "close" "Closing.close" (defArgs s_Closing_close) (defBody s_Closing_close) (defScope s_Closing_close) .none K0m2kV K0m2dc K0m2pm K0m2an K0m2cd K0m2ct), K0m2sl⟩)
    (K0m2c : PySem.W.codeIn K K0m2cd "Closing.close" = true)
    (K0m2k : PySem.W.keepIn K (.ref K0m2f) = true)
    (K0m3a : PySem.W.findIn K (.ref K0C) "_use" = some (some (.ref K0m3f)))
    (K0m3i : PySem.W.isFn K (.ref K0m3f) = true)
    (K0m3l : K.lookup K0m3f = some ⟨K0m3oc, K0m3od, .func (PySem.W.fnOf "_use" "Closing._use" (defArgs s_Closing_use) (defBody s_Closing_use) (defScope s_Closing_use) .none K0m3kV K0m3dc K0m3pm K0m3an K0m3cd K0m3ct), K0m3sl⟩)
    (K0m3c : PySem.W.codeIn K K0m3cd "Closing._use" = true)
    (K0m3k : PySem.W.keepIn K (.ref K0m3f) = true)
    (K0m4a : PySem.W.findIn K (.ref K0C) "_extend" = some (some (.ref K0m4f)))
    (K0m4i : PySem.W.isFn K (.ref K0m4f) = true)
    (K0m4l : K.lookup K0m4f = some ⟨K0m4oc, K0m4od, .func (PySem.W.fnOf "_extend" "Closing._extend" (defArgs s_Closing_extend) (defBody s_Closing_extend) (defScope s_Closing_extend) .none K0m4kV K0m4dc K0m4pm K0m4an K0m4cd K0m4ct), K0m4sl⟩)
    (K0m4c : PySem.W.codeIn K K0m4cd "Closing._extend" = true)
    (K0m4k : PySem.W.keepIn K (.ref K0m4f) = true)
    (K0pg : PySem.W.plainGet K K0C Str.empty = true) (K0hd : PySem.W.hasDictIn K K0C = true) (K0po : PySem.W.plainOver K K0C = true) (K0sa : PySem.W.findIn K (.ref K0C) "__setattr__" = some (some (.builtin "object.__setattr__"))) (K0mk : PySem.W.makesIn K K0C = true) (K0kc : PySem.W.keepIn K (.ref K0C) = true)
    (K0nsteps : PySem.W.findIn K (.ref K0C) "steps" = some none)
    (K0nrows : PySem.W.findIn K (.ref K0C) "rows" = some none)
    (K0nknown : PySem.W.findIn K (.ref K0C) "known" = some none)
    (K0nstates : PySem.W.findIn K (.ref K0C) "states" = some none)
    (qMOST_VALUES : PySem.W.nsIn K mainGlobals "MOST_VALUES" = some (some (.int 4 tMOST_VALUES)))
    (qMOST_PLACES : PySem.W.nsIn K mainGlobals "MOST_PLACES" = some (some (.int 4 tMOST_PLACES)))
    (qMOST_ARGUMENTS : PySem.W.nsIn K mainGlobals "MOST_ARGUMENTS" = some (some (.int 8 tMOST_ARGUMENTS)))
    (qLONGEST_TABLE : PySem.W.nsIn K mainGlobals "LONGEST_TABLE" = some (some (.int 256 tLONGEST_TABLE)))
    (zall : PySem.W.nsIn K mainGlobals "all" = some none)
    (zbool : PySem.W.nsIn K mainGlobals "bool" = some none)
    (zenumerate : PySem.W.nsIn K mainGlobals "enumerate" = some none)
    (zint : PySem.W.nsIn K mainGlobals "int" = some none)
    (zisinstance : PySem.W.nsIn K mainGlobals "isinstance" = some none)
    (zlen : PySem.W.nsIn K mainGlobals "len" = some none)
    (zlist : PySem.W.nsIn K mainGlobals "list" = some none)
    (zmax : PySem.W.nsIn K mainGlobals "max" = some none)
    (zmin : PySem.W.nsIn K mainGlobals "min" = some none)
    (zrange : PySem.W.nsIn K mainGlobals "range" = some none)
    (zreversed : PySem.W.nsIn K mainGlobals "reversed" = some none)
    (zset : PySem.W.nsIn K mainGlobals "set" = some none)
    (zsorted : PySem.W.nsIn K mainGlobals "sorted" = some none)
    (zstr : PySem.W.nsIn K mainGlobals "str" = some none)
    (ztuple : PySem.W.nsIn K mainGlobals "tuple" = some none)
    (zzip : PySem.W.nsIn K mainGlobals "zip" = some none) : LamX.LawAtS l w K CX0 10 63 "script" mg fa h := by
  have e : f29 = fa := by
    have z := (PySem.W.mg_of X G a29).symm.trans hfa
    cases z
    rfl
  subst e
  have F0 : FunC K "power_of" s_power_of f0 (PySem.W.fnOf "power_of" "power_of" (defArgs s_power_of) (defBody s_power_of) (defScope s_power_of) .none kV0 dc0 pm0 an0 (.ref c0) ct0) c0 := ⟨⟨oc0, od0, kV0, dc0, pm0, an0, ct0, sl0, rfl, l0, d0⟩, k0⟩
  have b0 := F0.binds (ps := p_power_of) fun _ _ _ _ _ _ us hl => match us, hl with | [_, _], _ => rfl
  have F1 : FunC K "is_integer" s_is_integer f1 (PySem.W.fnOf "is_integer" "is_integer" (defArgs s_is_integer) (defBody s_is_integer) (defScope s_is_integer) .none kV1 dc1 pm1 an1 (.ref c1) ct1) c1 := ⟨⟨oc1, od1, kV1, dc1, pm1, an1, ct1, sl1, rfl, l1, d1⟩, k1⟩
  have b1 := F1.binds (ps := p_is_integer) fun _ _ _ _ _ _ us hl => match us, hl with | [_, _, _], _ => rfl
  have F2 : FunC K "is_tuple" s_is_tuple f2 (PySem.W.fnOf "is_tuple" "is_tuple" (defArgs s_is_tuple) (defBody s_is_tuple) (defScope s_is_tuple) .none kV2 dc2 pm2 an2 (.ref c2) ct2) c2 := ⟨⟨oc2, od2, kV2, dc2, pm2, an2, ct2, sl2, rfl, l2, d2⟩, k2⟩
  have b2 := F2.binds (ps := p_is_tuple) fun _ _ _ _ _ _ us hl => match us, hl with | [_, _, _], _ => rfl
  have F3 : FunC K "is_row" s_is_row f3 (PySem.W.fnOf "is_row" "is_row" (defArgs s_is_row) (defBody s_is_row) (defScope s_is_row) .none kV3 dc3 pm3 an3 (.ref c3) ct3) c3 := ⟨⟨oc3, od3, kV3, dc3, pm3, an3, ct3, sl3, rfl, l3, d3⟩, k3⟩
  have b3 := F3.binds (ps := p_is_row) fun _ _ _ _ _ _ us hl => match us, hl with | [_, _, _], _ => rfl
  have F4 : FunC K "is_relation" s_is_relation f4 (PySem.W.fnOf "is_relation" "is_relation" (defArgs s_is_relation) (defBody s_is_relation) (defScope s_is_relation) .none kV4 dc4 pm4 an4 (.ref c4) ct4) c4 := ⟨⟨oc4, od4, kV4, dc4, pm4, an4, ct4, sl4, rfl, l4, d4⟩, k4⟩
  have b4 := F4.binds (ps := p_is_relation) fun _ _ _ _ _ _ us hl => match us, hl with | [_, _], _ => rfl
  have F5 : FunC K "is_operation_arity" s_is_operation_arity f5 (PySem.W.fnOf "is_operation_arity" "is_operation_arity" (defArgs s_is_operation_arity) (defBody s_is_operation_arity) (defScope s_is_operation_arity) .none kV5 dc5 pm5 an5 (.ref c5) ct5) c5 := ⟨⟨oc5, od5, kV5, dc5, pm5, an5, ct5, sl5, rfl, l5, d5⟩, k5⟩
  have b5 := F5.binds (ps := p_is_operation_arity) fun _ _ _ _ _ _ us hl => match us, hl with | [_, _], _ => rfl
  have F6 : FunC K "is_operation" s_is_operation f6 (PySem.W.fnOf "is_operation" "is_operation" (defArgs s_is_operation) (defBody s_is_operation) (defScope s_is_operation) .none kV6 dc6 pm6 an6 (.ref c6) ct6) c6 := ⟨⟨oc6, od6, kV6, dc6, pm6, an6, ct6, sl6, rfl, l6, d6⟩, k6⟩
  have b6 := F6.binds (ps := p_is_operation) fun _ _ _ _ _ _ us hl => match us, hl with | [_, _], _ => rfl
  have F7 : FunC K "check_size" s_check_size f7 (PySem.W.fnOf "check_size" "check_size" (defArgs s_check_size) (defBody s_check_size) (defScope s_check_size) .none kV7 dc7 pm7 an7 (.ref c7) ct7) c7 := ⟨⟨oc7, od7, kV7, dc7, pm7, an7, ct7, sl7, rfl, l7, d7⟩, k7⟩
  have b7 := F7.binds (ps := p_check_size) fun _ _ _ _ _ _ us hl => match us, hl with | [_], _ => rfl
  have F8 : FunC K "check_relation" s_check_relation f8 (PySem.W.fnOf "check_relation" "check_relation" (defArgs s_check_relation) (defBody s_check_relation) (defScope s_check_relation) .none kV8 dc8 pm8 an8 (.ref c8) ct8) c8 := ⟨⟨oc8, od8, kV8, dc8, pm8, an8, ct8, sl8, rfl, l8, d8⟩, k8⟩
  have b8 := F8.binds (ps := p_check_relation) fun _ _ _ _ _ _ us hl => match us, hl with | [_, _], _ => rfl
  have F9 : FunC K "check_operation" s_check_operation f9 (PySem.W.fnOf "check_operation" "check_operation" (defArgs s_check_operation) (defBody s_check_operation) (defScope s_check_operation) .none kV9 dc9 pm9 an9 (.ref c9) ct9) c9 := ⟨⟨oc9, od9, kV9, dc9, pm9, an9, ct9, sl9, rfl, l9, d9⟩, k9⟩
  have b9 := F9.binds (ps := p_check_operation) fun _ _ _ _ _ _ us hl => match us, hl with | [_, _], _ => rfl
  have F10 : FunC K "argument_steps" s_argument_steps f10 (PySem.W.fnOf "argument_steps" "argument_steps" (defArgs s_argument_steps) (defBody s_argument_steps) (defScope s_argument_steps) .none kV10 dc10 pm10 an10 (.ref c10) ct10) c10 := ⟨⟨oc10, od10, kV10, dc10, pm10, an10, ct10, sl10, rfl, l10, d10⟩, k10⟩
  have b10 := F10.binds (ps := p_argument_steps) fun _ _ _ _ _ _ us hl => match us, hl with | [_, _], _ => rfl
  have F11 : FunC K "_parts" s_parts f11 (PySem.W.fnOf "_parts" "_parts" (defArgs s_parts) (defBody s_parts) (defScope s_parts) .none kV11 dc11 pm11 an11 (.ref c11) ct11) c11 := ⟨⟨oc11, od11, kV11, dc11, pm11, an11, ct11, sl11, rfl, l11, d11⟩, k11⟩
  have b11 := F11.binds (ps := p_parts) fun _ _ _ _ _ _ us hl => match us, hl with | [_, _], _ => rfl
  have F12 : FunC K "_numbered" s_numbered f12 (PySem.W.fnOf "_numbered" "_numbered" (defArgs s_numbered) (defBody s_numbered) (defScope s_numbered) .none kV12 dc12 pm12 an12 (.ref c12) ct12) c12 := ⟨⟨oc12, od12, kV12, dc12, pm12, an12, ct12, sl12, rfl, l12, d12⟩, k12⟩
  have b12 := F12.binds (ps := p_numbered) fun _ _ _ _ _ _ us hl => match us, hl with | [_], _ => rfl
  have F13 : FunC K "forks" s_forks f13 (PySem.W.fnOf "forks" "forks" (defArgs s_forks) (defBody s_forks) (defScope s_forks) .none kV13 dc13 pm13 an13 (.ref c13) ct13) c13 := ⟨⟨oc13, od13, kV13, dc13, pm13, an13, ct13, sl13, rfl, l13, d13⟩, k13⟩
  have b13 := F13.binds (ps := p_forks) fun _ _ _ _ _ _ us hl => match us, hl with | [_, _], _ => rfl
  have F14 : FunC K "compact" s_compact f14 (PySem.W.fnOf "compact" "compact" (defArgs s_compact) (defBody s_compact) (defScope s_compact) .none kV14 dc14 pm14 an14 (.ref c14) ct14) c14 := ⟨⟨oc14, od14, kV14, dc14, pm14, an14, ct14, sl14, rfl, l14, d14⟩, k14⟩
  have b14 := F14.binds (ps := p_compact) fun _ _ _ _ _ _ us hl => match us, hl with | [_, _], _ => rfl
  have F15 : FunC K "_showing_pairs" s_showing_pairs f15 (PySem.W.fnOf "_showing_pairs" "_showing_pairs" (defArgs s_showing_pairs) (defBody s_showing_pairs) (defScope s_showing_pairs) .none kV15 dc15 pm15 an15 (.ref c15) ct15) c15 := ⟨⟨oc15, od15, kV15, dc15, pm15, an15, ct15, sl15, rfl, l15, d15⟩, k15⟩
  have b15 := F15.binds (ps := p_showing_pairs) fun _ _ _ _ _ _ us hl => match us, hl with | [_], _ => rfl
  have F16 : FunC K "closure" s_closure f16 (PySem.W.fnOf "closure" "closure" (defArgs s_closure) (defBody s_closure) (defScope s_closure) .none kV16 dc16 pm16 an16 (.ref c16) ct16) c16 := ⟨⟨oc16, od16, kV16, dc16, pm16, an16, ct16, sl16, rfl, l16, d16⟩, k16⟩
  have b16 := F16.binds (ps := p_closure) fun _ _ _ _ _ _ us hl => match us, hl with | [_, _, _], _ => rfl
  have F17 : FunC K "_law_taken" s_law_taken f17 (PySem.W.fnOf "_law_taken" "_law_taken" (defArgs s_law_taken) (defBody s_law_taken) (defScope s_law_taken) .none kV17 dc17 pm17 an17 (.ref c17) ct17) c17 := ⟨⟨oc17, od17, kV17, dc17, pm17, an17, ct17, sl17, rfl, l17, d17⟩, k17⟩
  have b17 := F17.binds (ps := p_law_taken) fun _ _ _ _ _ _ us hl => match us, hl with | [_, _], _ => rfl
  have F18 : FunC K "_law_pick" s_law_pick f18 (PySem.W.fnOf "_law_pick" "_law_pick" (defArgs s_law_pick) (defBody s_law_pick) (defScope s_law_pick) .none kV18 dc18 pm18 an18 (.ref c18) ct18) c18 := ⟨⟨oc18, od18, kV18, dc18, pm18, an18, ct18, sl18, rfl, l18, d18⟩, k18⟩
  have b18 := F18.binds (ps := p_law_pick) fun _ _ _ _ _ _ us hl => match us, hl with | [_, _], _ => rfl
  have F19 : FunC K "_law_alike" s_law_alike f19 (PySem.W.fnOf "_law_alike" "_law_alike" (defArgs s_law_alike) (defBody s_law_alike) (defScope s_law_alike) .none kV19 dc19 pm19 an19 (.ref c19) ct19) c19 := ⟨⟨oc19, od19, kV19, dc19, pm19, an19, ct19, sl19, rfl, l19, d19⟩, k19⟩
  have b19 := F19.binds (ps := p_law_alike) fun _ _ _ _ _ _ us hl => match us, hl with | [_, _], _ => rfl
  have F20 : FunC K "_law_rows" s_law_rows f20 (PySem.W.fnOf "_law_rows" "_law_rows" (defArgs s_law_rows) (defBody s_law_rows) (defScope s_law_rows) .none kV20 dc20 pm20 an20 (.ref c20) ct20) c20 := ⟨⟨oc20, od20, kV20, dc20, pm20, an20, ct20, sl20, rfl, l20, d20⟩, k20⟩
  have b20 := F20.binds (ps := p_law_rows) fun _ _ _ _ _ _ us hl => match us, hl with | [_, _], _ => rfl
  have F21 : FunC K "_law_tuples" s_law_tuples f21 (PySem.W.fnOf "_law_tuples" "_law_tuples" (defArgs s_law_tuples) (defBody s_law_tuples) (defScope s_law_tuples) .none kV21 dc21 pm21 an21 (.ref c21) ct21) c21 := ⟨⟨oc21, od21, kV21, dc21, pm21, an21, ct21, sl21, rfl, l21, d21⟩, k21⟩
  have b21 := F21.binds (ps := p_law_tuples) fun _ _ _ _ _ _ us hl => match us, hl with | [_, _], _ => rfl
  have F22 : FunC K "_law_value" s_law_value f22 (PySem.W.fnOf "_law_value" "_law_value" (defArgs s_law_value) (defBody s_law_value) (defScope s_law_value) .none kV22 dc22 pm22 an22 (.ref c22) ct22) c22 := ⟨⟨oc22, od22, kV22, dc22, pm22, an22, ct22, sl22, rfl, l22, d22⟩, k22⟩
  have b22 := F22.binds (ps := p_law_value) fun _ _ _ _ _ _ us hl => match us, hl with | [_, _, _], _ => rfl
  have F23 : FunC K "_law_carried" s_law_carried f23 (PySem.W.fnOf "_law_carried" "_law_carried" (defArgs s_law_carried) (defBody s_law_carried) (defScope s_law_carried) .none kV23 dc23 pm23 an23 (.ref c23) ct23) c23 := ⟨⟨oc23, od23, kV23, dc23, pm23, an23, ct23, sl23, rfl, l23, d23⟩, k23⟩
  have b23 := F23.binds (ps := p_law_carried) fun _ _ _ _ _ _ us hl => match us, hl with | [_, _, _], _ => rfl
  have F24 : FunC K "_law_breaks" s_law_breaks f24 (PySem.W.fnOf "_law_breaks" "_law_breaks" (defArgs s_law_breaks) (defBody s_law_breaks) (defScope s_law_breaks) .none kV24 dc24 pm24 an24 (.ref c24) ct24) c24 := ⟨⟨oc24, od24, kV24, dc24, pm24, an24, ct24, sl24, rfl, l24, d24⟩, k24⟩
  have b24 := F24.binds (ps := p_law_breaks) fun _ _ _ _ _ _ us hl => match us, hl with | [_, _, _], _ => rfl
  have F25 : FunC K "_law_closed" s_law_closed f25 (PySem.W.fnOf "_law_closed" "_law_closed" (defArgs s_law_closed) (defBody s_law_closed) (defScope s_law_closed) .none kV25 dc25 pm25 an25 (.ref c25) ct25) c25 := ⟨⟨oc25, od25, kV25, dc25, pm25, an25, ct25, sl25, rfl, l25, d25⟩, k25⟩
  have b25 := F25.binds (ps := p_law_closed) fun _ _ _ _ _ _ us hl => match us, hl with | [_, _, _, _], _ => rfl
  have F26 : FunC K "_law_kept" s_law_kept f26 (PySem.W.fnOf "_law_kept" "_law_kept" (defArgs s_law_kept) (defBody s_law_kept) (defScope s_law_kept) .none kV26 dc26 pm26 an26 (.ref c26) ct26) c26 := ⟨⟨oc26, od26, kV26, dc26, pm26, an26, ct26, sl26, rfl, l26, d26⟩, k26⟩
  have b26 := F26.binds (ps := p_law_kept) fun _ _ _ _ _ _ us hl => match us, hl with | [_, _, _, _], _ => rfl
  have F27 : FunC K "_law_named" s_law_named f27 (PySem.W.fnOf "_law_named" "_law_named" (defArgs s_law_named) (defBody s_law_named) (defScope s_law_named) .none kV27 dc27 pm27 an27 (.ref c27) ct27) c27 := ⟨⟨oc27, od27, kV27, dc27, pm27, an27, ct27, sl27, rfl, l27, d27⟩, k27⟩
  have b27 := F27.binds (ps := p_law_named) fun _ _ _ _ _ _ us hl => match us, hl with | [_], _ => rfl
  have F28 : FunC K "_law_some_rows" s_law_some_rows f28 (PySem.W.fnOf "_law_some_rows" "_law_some_rows" (defArgs s_law_some_rows) (defBody s_law_some_rows) (defScope s_law_some_rows) .none kV28 dc28 pm28 an28 (.ref c28) ct28) c28 := ⟨⟨oc28, od28, kV28, dc28, pm28, an28, ct28, sl28, rfl, l28, d28⟩, k28⟩
  have b28 := F28.binds (ps := p_law_some_rows) fun _ _ _ _ _ _ us hl => match us, hl with | [_, _, _, _], _ => rfl
  have F29 : FunC K "law" s_law f29 (PySem.W.fnOf "law" "law" (defArgs s_law) (defBody s_law) (defScope s_law) .none kV29 dc29 pm29 an29 (.ref c29) ct29) c29 := ⟨⟨oc29, od29, kV29, dc29, pm29, an29, ct29, sl29, rfl, l29, d29⟩, k29⟩
  have b29 := F29.binds (ps := p_law) fun _ _ _ _ _ _ us hl => match us, hl with | [_], _ => rfl
  have w3 : h.get? P3 = some { cls := .none, data := .fields #[] } := own "is_row" (by simp [tabNames]) f3 (PySem.W.mg_of X G a3) c3 P3 _ _ _ _ _ _ l3 rfl rfl m3 v3
  have w4 : h.get? P4 = some { cls := .none, data := .fields #[] } := own "is_relation" (by simp [tabNames]) f4 (PySem.W.mg_of X G a4) c4 P4 _ _ _ _ _ _ l4 rfl rfl m4 v4
  have three : ∀ {R : Addr × Addr → Prop}, R (c3, P3) → R (c4, P4) → ∀ p ∈ ([(c3, P3), (c4, P4)] : List (Addr × Addr)), R p := fun r3 r4 p hp => by
    simp only [List.mem_cons, List.not_mem_nil, or_false] at hp
    rcases hp with rfl | rfl
    · exact r3
    · exact r4
  refine ⟨(PySem.W.fnOf "law" "law" (defArgs s_law) (defBody s_law) (defScope s_law) .none kV29 dc29 pm29 an29 (.ref c29) ct29), [(c3, P3), (c4, P4)], fun vs H Q _ => ∃ (c : Addr) (ns : List Int), vs = [.ref c] ∧ SqL K H c (ns.map V.int) ∧ (H c ≠ none ∨ SqL K (fun _ => none) c (ns.map V.int)) ∧ TT [P3, P4] H ∧ ∀ H', Q (.bl true) H', three w3 w4, three n3 n4, three (PySem.W.codeHd_of_K X h3) (PySem.W.codeHd_of_K X h4), fun s v => .of_eq rfl, fun H a ns _ _ hH hS => ⟨a, ns, rfl, hS, ?_, ?_, fun _ => rfl⟩, fun base kb nb hT => ?_⟩
  · rcases hS with (hS | ⟨o', hS⟩) | hS
    · exact .inl (by rw [hS]; intro z; cases z)
    · exact .inl (by rw [hS]; intro z; cases z)
    · exact .inr (.inr hS)
  · intro P hP
    obtain ⟨p, hp, rfl⟩ : ∃ p ∈ ([(c3, P3), (c4, P4)] : List (Addr × Addr)), p.2 = P := by
      simp only [List.mem_cons, List.not_mem_nil, or_false] at hP
      rcases hP with rfl | rfl
      · exact ⟨_, List.mem_cons_self, rfl⟩
      · exact ⟨_, (List.mem_cons_of_mem _ List.mem_cons_self), rfl⟩
    exact ⟨#[], hH p hp, by first | exact trivial | constructor⟩
  · exact ok_law (P := l.prog) (w := w) {
      power_of := { f := f0, fd := _, c := c0, F := F0, b := b0, g := PySem.W.mg_of X G a0 }
      is_integer := { f := f1, fd := _, c := c1, F := F1, b := b1, g := PySem.W.mg_of X G a1 }
      is_tuple := { f := f2, fd := _, c := c2, F := F2, b := b2, g := PySem.W.mg_of X G a2 }
      is_row := { f := f3, fd := _, c := c3, F := F3, b := b3, g := PySem.W.mg_of X G a3, P := P3, TB := hT (c3, P3) (List.mem_cons_self) }
      is_relation := { f := f4, fd := _, c := c4, F := F4, b := b4, g := PySem.W.mg_of X G a4, P := P4, TB := hT (c4, P4) ((List.mem_cons_of_mem _ List.mem_cons_self)) }
      is_operation_arity := { f := f5, fd := _, c := c5, F := F5, b := b5, g := PySem.W.mg_of X G a5 }
      is_operation := { f := f6, fd := _, c := c6, F := F6, b := b6, g := PySem.W.mg_of X G a6 }
      check_size := { f := f7, fd := _, c := c7, F := F7, b := b7, g := PySem.W.mg_of X G a7 }
      check_relation := { f := f8, fd := _, c := c8, F := F8, b := b8, g := PySem.W.mg_of X G a8 }
      check_operation := { f := f9, fd := _, c := c9, F := F9, b := b9, g := PySem.W.mg_of X G a9 }
      argument_steps := { f := f10, fd := _, c := c10, F := F10, b := b10, g := PySem.W.mg_of X G a10 }
      parts := { f := f11, fd := _, c := c11, F := F11, b := b11, g := PySem.W.mg_of X G a11 }
      numbered := { f := f12, fd := _, c := c12, F := F12, b := b12, g := PySem.W.mg_of X G a12 }
      forks := { f := f13, fd := _, c := c13, F := F13, b := b13, g := PySem.W.mg_of X G a13 }
      compact := { f := f14, fd := _, c := c14, F := F14, b := b14, g := PySem.W.mg_of X G a14 }
      showing_pairs := { f := f15, fd := _, c := c15, F := F15, b := b15, g := PySem.W.mg_of X G a15 }
      closure := { f := f16, fd := _, c := c16, F := F16, b := b16, g := PySem.W.mg_of X G a16 }
      law_taken := { f := f17, fd := _, c := c17, F := F17, b := b17, g := PySem.W.mg_of X G a17 }
      law_pick := { f := f18, fd := _, c := c18, F := F18, b := b18, g := PySem.W.mg_of X G a18 }
      law_alike := { f := f19, fd := _, c := c19, F := F19, b := b19, g := PySem.W.mg_of X G a19 }
      law_rows := { f := f20, fd := _, c := c20, F := F20, b := b20, g := PySem.W.mg_of X G a20 }
      law_tuples := { f := f21, fd := _, c := c21, F := F21, b := b21, g := PySem.W.mg_of X G a21 }
      law_value := { f := f22, fd := _, c := c22, F := F22, b := b22, g := PySem.W.mg_of X G a22 }
      law_carried := { f := f23, fd := _, c := c23, F := F23, b := b23, g := PySem.W.mg_of X G a23 }
      law_breaks := { f := f24, fd := _, c := c24, F := F24, b := b24, g := PySem.W.mg_of X G a24 }
      law_closed := { f := f25, fd := _, c := c25, F := F25, b := b25, g := PySem.W.mg_of X G a25 }
      law_kept := { f := f26, fd := _, c := c26, F := F26, b := b26, g := PySem.W.mg_of X G a26 }
      law_named := { f := f27, fd := _, c := c27, F := F27, b := b27, g := PySem.W.mg_of X G a27 }
      law_some_rows := { f := f28, fd := _, c := c28, F := F28, b := b28, g := PySem.W.mg_of X G a28 }
      law := { f := f29, fd := _, c := c29, F := F29, b := b29, g := PySem.W.mg_of X G a29 }
      Closing := { C := K0C, g := PySem.W.mg_of X G K0A, cl := ⟨K0pg, K0hd, K0po, K0sa⟩, f_init := K0m0f, fd_init := _, F_init := fun_mk (st := s_Closing_init) K0m0l K0m0c K0m0k, b_init := (fun_mk (st := s_Closing_init) K0m0l K0m0c K0m0k).binds (ps := p_Closing_init) fun _ _ _ _ _ _ us hl => match us, hl with | [_, _, _], _ => rfl, make := ⟨K0mk, K0m0a, K0m0i, K0kc⟩, f_keep := K0m1f, fd_keep := _, F_keep := fun_mk (st := s_Closing_keep) K0m1l K0m1c K0m1k, b_keep := (fun_mk (st := s_Closing_keep) K0m1l K0m1c K0m1k).binds (ps := p_Closing_keep) fun _ _ _ _ _ _ us hl => match us, hl with | [_, _], _ => rfl, h_keep := ⟨K0m1a, K0m1i, K0m1k⟩, f_close := K0m2f, fd_close := _, F_close := fun_mk (st := s_Closing_close) K0m2l K0m2c K0m2k, b_close := (fun_mk (st := s_Closing_close) K0m2l K0m2c K0m2k).binds (ps := p_Closing_close) fun _ _ _ _ _ _ us hl => match us, hl with | [_, _], _ => rfl, h_close := ⟨K0m2a, K0m2i, K0m2k⟩, f_use := K0m3f, fd_use := _, F_use := fun_mk (st := s_Closing_use) K0m3l K0m3c K0m3k, b_use := (fun_mk (st := s_Closing_use) K0m3l K0m3c K0m3k).binds (ps := p_Closing_use) fun _ _ _ _ _ _ us hl => match us, hl with | [_, _], _ => rfl, h_use := ⟨K0m3a, K0m3i, K0m3k⟩, f_extend := K0m4f, fd_extend := _, F_extend := fun_mk (st := s_Closing_extend) K0m4l K0m4c K0m4k, b_extend := (fun_mk (st := s_Closing_extend) K0m4l K0m4c K0m4k).binds (ps := p_Closing_extend) fun _ _ _ _ _ _ us hl => match us, hl with | [_, _, _, _], _ => rfl, h_extend := ⟨K0m4a, K0m4i, K0m4k⟩, n_steps := K0nsteps, n_rows := K0nrows, n_known := K0nknown, n_states := K0nstates }
      c_MOST_VALUES := ⟨_, PySem.W.mg_of X G qMOST_VALUES⟩
      c_MOST_PLACES := ⟨_, PySem.W.mg_of X G qMOST_PLACES⟩
      c_MOST_ARGUMENTS := ⟨_, PySem.W.mg_of X G qMOST_ARGUMENTS⟩
      c_LONGEST_TABLE := ⟨_, PySem.W.mg_of X G qLONGEST_TABLE⟩
      b_all := PySem.W.mg_none_of X G zall
      b_bool := PySem.W.mg_none_of X G zbool
      b_enumerate := PySem.W.mg_none_of X G zenumerate
      b_int := PySem.W.mg_none_of X G zint
      b_isinstance := PySem.W.mg_none_of X G zisinstance
      b_len := PySem.W.mg_none_of X G zlen
      b_list := PySem.W.mg_none_of X G zlist
      b_max := PySem.W.mg_none_of X G zmax
      b_min := PySem.W.mg_none_of X G zmin
      b_range := PySem.W.mg_none_of X G zrange
      b_reversed := PySem.W.mg_none_of X G zreversed
      b_set := PySem.W.mg_none_of X G zset
      b_sorted := PySem.W.mg_none_of X G zsorted
      b_str := PySem.W.mg_none_of X G zstr
      b_tuple := PySem.W.mg_none_of X G ztuple
      b_zip := PySem.W.mg_none_of X G zzip
    }
end K35

set_option Elab.async false
set_option linter.all false
open PySem PySem.W PyProof.Rows
set_option maxRecDepth 100000 in
set_option maxHeartbeats 0 in
theorem PySem.Challenge.cw_templates_k35_whole_forks_holds : PySem.Challenge.rw_templates_k35_whole_forks.Holds := by
  w_on; o_law; k_head; (case hw => w_witness2)
  k_fill
  refine K35.walk_ofAll (l := PySem.Challenge.rw_templates_k35_whole_forks) (n := 63) (k := 10) (x := "script") (CX := fun _ => L2.CX0) K35.tabNames rfl (by decide) rfl ⟨rfl, by decide, by decide⟩ (by decide +kernel) (fun w h Y => PySem.W.kIn_of Y) ?F (fun _ _ _ _ _ h => h)
  case F =>
    intro w mg fa h Y KX G hmg own
    refine' K35.law_at KX G hmg own ?a0 ?l0 ?d0 ?k0 ?a1 ?l1 ?d1 ?k1 ?a2 ?l2 ?d2 ?k2 ?a3 ?l3 ?d3 ?k3 ?a4 ?l4 ?d4 ?k4 ?a5 ?l5 ?d5 ?k5 ?a6 ?l6 ?d6 ?k6 ?a7 ?l7 ?d7 ?k7 ?a8 ?l8 ?d8 ?k8 ?a9 ?l9 ?d9 ?k9 ?a10 ?l10 ?d10 ?k10 ?a11 ?l11 ?d11 ?k11 ?a12 ?l12 ?d12 ?k12 ?a13 ?l13 ?d13 ?k13 ?a14 ?l14 ?d14 ?k14 ?a15 ?l15 ?d15 ?k15 ?a16 ?l16 ?d16 ?k16 ?a17 ?l17 ?d17 ?k17 ?a18 ?l18 ?d18 ?k18 ?a19 ?l19 ?d19 ?k19 ?a20 ?l20 ?d20 ?k20 ?a21 ?l21 ?d21 ?k21 ?a22 ?l22 ?d22 ?k22 ?a23 ?l23 ?d23 ?k23 ?a24 ?l24 ?d24 ?k24 ?a25 ?l25 ?d25 ?k25 ?a26 ?l26 ?d26 ?k26 ?a27 ?l27 ?d27 ?k27 ?a28 ?l28 ?d28 ?k28 ?a29 ?l29 ?d29 ?k29 ?m3 ?v3 ?h3 ?n3 ?m4 ?v4 ?h4 ?n4 ?K0A ?K0m0a ?K0m0i ?K0m0l ?K0m0c ?K0m0k ?K0m1a ?K0m1i ?K0m1l ?K0m1c ?K0m1k ?K0m2a ?K0m2i ?K0m2l ?K0m2c ?K0m2k ?K0m3a ?K0m3i ?K0m3l ?K0m3c ?K0m3k ?K0m4a ?K0m4i ?K0m4l ?K0m4c ?K0m4k ?K0pg ?K0hd ?K0po ?K0sa ?K0mk ?K0kc ?K0nsteps ?K0nrows ?K0nknown ?K0nstates ?qMOST_VALUES ?qMOST_PLACES ?qMOST_ARGUMENTS ?qLONGEST_TABLE ?zall ?zbool ?zenumerate ?zint ?zisinstance ?zlen ?zlist ?zmax ?zmin ?zrange ?zreversed ?zset ?zsorted ?zstr ?ztuple ?zzip
    (case a0 => k_is); (case l0 => k_is); (case d0 => k_is); (case k0 => k_is); (case a1 => k_is); (case l1 => k_is); (case d1 => k_is); (case k1 => k_is); (case a2 => k_is); (case l2 => k_is); (case d2 => k_is); (case k2 => k_is); (case a3 => k_is); (case l3 => k_is); (case d3 => k_is); (case k3 => k_is); (case a4 => k_is); (case l4 => k_is); (case d4 => k_is); (case k4 => k_is); (case a5 => k_is); (case l5 => k_is); (case d5 => k_is); (case k5 => k_is); (case a6 => k_is); (case l6 => k_is); (case d6 => k_is); (case k6 => k_is); (case a7 => k_is); (case l7 => k_is); (case d7 => k_is); (case k7 => k_is); (case a8 => k_is); (case l8 => k_is); (case d8 => k_is); (case k8 => k_is); (case a9 => k_is); (case l9 => k_is); (case d9 => k_is); (case k9 => k_is); (case a10 => k_is); (case l10 => k_is); (case d10 => k_is); (case k10 => k_is); (case a11 => k_is); (case l11 => k_is); (case d11 => k_is); (case k11 => k_is); (case a12 => k_is); (case l12 => k_is); (case d12 => k_is); (case k12 => k_is); (case a13 => k_is); (case l13 => k_is); (case d13 => k_is); (case k13 => k_is); (case a14 => k_is); (case l14 => k_is); (case d14 => k_is); (case k14 => k_is); (case a15 => k_is); (case l15 => k_is); (case d15 => k_is); (case k15 => k_is); (case a16 => k_is); (case l16 => k_is); (case d16 => k_is); (case k16 => k_is); (case a17 => k_is); (case l17 => k_is); (case d17 => k_is); (case k17 => k_is); (case a18 => k_is); (case l18 => k_is); (case d18 => k_is); (case k18 => k_is); (case a19 => k_is); (case l19 => k_is); (case d19 => k_is); (case k19 => k_is); (case a20 => k_is); (case l20 => k_is); (case d20 => k_is); (case k20 => k_is); (case a21 => k_is); (case l21 => k_is); (case d21 => k_is); (case k21 => k_is); (case a22 => k_is); (case l22 => k_is); (case d22 => k_is); (case k22 => k_is); (case a23 => k_is); (case l23 => k_is); (case d23 => k_is); (case k23 => k_is); (case a24 => k_is); (case l24 => k_is); (case d24 => k_is); (case k24 => k_is); (case a25 => k_is); (case l25 => k_is); (case d25 => k_is); (case k25 => k_is); (case a26 => k_is); (case l26 => k_is); (case d26 => k_is); (case k26 => k_is); (case a27 => k_is); (case l27 => k_is); (case d27 => k_is); (case k27 => k_is); (case a28 => k_is); (case l28 => k_is); (case d28 => k_is); (case k28 => k_is); (case a29 => k_is); (case l29 => k_is); (case d29 => k_is); (case k29 => k_is); (case m3 => k_is); (case v3 => rfl); (case h3 => first | kernel_rfl | rfl); (case n3 => first | kernel_rfl | rfl); (case m4 => k_is); (case v4 => rfl); (case h4 => first | kernel_rfl | rfl); (case n4 => first | kernel_rfl | rfl); (case K0A => k_is); (case K0m0a => k_is); (case K0m0i => k_is); (case K0m0l => k_is); (case K0m0c => k_is); (case K0m0k => k_is); (case K0m1a => k_is); (case K0m1i => k_is); (case K0m1l => k_is); (case K0m1c => k_is); (case K0m1k => k_is); (case K0m2a => k_is); (case K0m2i => k_is); (case K0m2l => k_is); (case K0m2c => k_is); (case K0m2k => k_is); (case K0m3a => k_is); (case K0m3i => k_is); (case K0m3l => k_is); (case K0m3c => k_is); (case K0m3k => k_is); (case K0m4a => k_is); (case K0m4i => k_is); (case K0m4l => k_is); (case K0m4c => k_is); (case K0m4k => k_is); (case K0pg => k_is); (case K0hd => k_is); (case K0po => k_is); (case K0sa => k_is); (case K0mk => k_is); (case K0kc => k_is); (case K0nsteps => k_is); (case K0nrows => k_is); (case K0nknown => k_is); (case K0nstates => k_is); (case qMOST_VALUES => k_is); (case qMOST_PLACES => k_is); (case qMOST_ARGUMENTS => k_is); (case qLONGEST_TABLE => k_is); (case zall => k_is); (case zbool => k_is); (case zenumerate => k_is); (case zint => k_is); (case zisinstance => k_is); (case zlen => k_is); (case zlist => k_is); (case zmax => k_is); (case zmin => k_is); (case zrange => k_is); (case zreversed => k_is); (case zset => k_is); (case zsorted => k_is); (case zstr => k_is); (case ztuple => k_is); (case zzip => k_is)
