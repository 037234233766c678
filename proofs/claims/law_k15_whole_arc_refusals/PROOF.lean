import PyProof.Rows.All
import Wide.All
import OpenK.AllK
import Wide.FinOn
import HandS.Comp
import HandS.AnyAll
import HandS.GenList
import HandS.EndTab
import HandS.ForMost
import HandS.IsInst
import HandS.TupAny
import HandS.Zip
import HandS.TupSets
import HandS.Deep
import HandS.DictTup
import HandS.List
import KE.DataMinMax
import HandS.TupMul
import HandS.TupLen
import HandS.Conv
import HandS.SetFor
import HandS.Dict
import HandS.Iter
import KE.GoesMore
import PyProof.EnumMake
import HandS.Walk
import HandS.WideBits
import HandS.BoundList
import HandS.DictComp
import HandS.RevRange
import HandS.Style
import HandS.TupLe
import HandS.EndOwn
import PySem.Challenge.RW_templates_k15_whole_arc_refusals
set_option Elab.async false
set_option linter.all false
set_option maxRecDepth 100000
set_option maxHeartbeats 4000000
/-! all(test for x in walk), any(test for x in walk): the element any expression that raises nothing. -/
namespace GA
open PySem PySem.Spec PyProof.Rows L2

/-- woken again: all objects kept -/
structure Wok (s s' : Shared) : Prop where
  os : s'.os = s.os
  bare : AllBare s'.gens
  keep : ∀ b o, s.heap.get? b = some o → s'.heap.get? b = some o
/-- an item is handed out: true goes on, false ends (for all); the other way round for any -/
def YA (st : Bool) (R : Bool → Shared → Prop) (a g : Nat) : Protocol := fun _ _ v s kap =>
  s.heap.NoLimit ∧ AllBare s.gens ∧ s.heap.IsGen a g ∧ ∃ b : Bool, v = .bool b ∧ (b ≠ st → ∀ s', Wok s s' → kap (.send .none) s') ∧ (b = st → ∀ s', Wok s s' → R st s')
def RA (st : Bool) (R : Bool → Shared → Prop) : Nat → Shared → Shared → Prop := fun _ _ s => AllBare s.gens ∧ ∀ s', Wok s s' → R (!st) s'

section
variable {P : Program} {w : World} {A : Around} {R : Bool → Shared → Prop} {R' : Result → Shared → Prop} {a : Addr} {g : Nat}
theorem all_loop (hh : A.handled = none) (hd : A.depth < recursionLimit) (hR : ∀ b s, R b s → R' (.ok (.ret (.bool b))) s) :
    ∀ (m : Nat) (s : Shared), s.heap.IsGen a g → s.heap.NoLimit →
      (∃ gs, s.gens[g]? = some gs ∧ gs.Goes (model P w) A.in1.in1 (fun n s₀ r s₁ => r = .ok .next ∧ RA false R n s₀ s₁) (YA false R a g) m (.send .none) (s.setGen g .running)) →
      codeAny (model P w) A (.builtin "all.loop" ⟨[.ref a], []⟩) R' s := by
  intro m
  induction m with
  | zero =>
    intro s hg hl ⟨gs, hgs, hgo⟩
    refine codeAny_builtin F.entry_all_loop ?_
    rw [Around.under_plainId F.plain_all_loop _]
    show wpAny _ A.in1 (pyNext (.ref a) >>= _) _ _ s
    refine wpAny_bind (wpAny_pyNext_genexpQ (A := A.in1) hh hl hd hg hgs hgo (fun v s₁ gs' hb hv => ?_) fun s₁ hp h' hk => ?_)
    · obtain ⟨hl1, hb1, hg1, b, rfl, ht, hf⟩ := hv
      cases b with
      | true => exact (ht (by decide) s₁ ⟨rfl, hb1, fun _ _ e => e⟩).elim
      | false =>
        refine wpAny_bind (wpAny_holding (wpAny_truthy_bool ?_))
        refine wpAny_bind (wpAny_letGo ?_)
        simp only [Bool.false_eq_true, if_false]
        exact wpAny_bind (wpAny_rule (wpAny_pure (hR _ _ (hf rfl _ ⟨rfl, allBare_setGen hb1 hb, fun _ _ e => e⟩))))
    · obtain ⟨hb1, hq⟩ := hp
      exact wpAny_bind (wpAny_rule (wpAny_pure (hR _ _ (hq _ ⟨rfl, allBare_setGen (s := s₁) hb1 rfl, hk⟩))))
  | succ m ih =>
    intro s hg hl ⟨gs, hgs, hgo⟩
    have hgl : g < s.gens.size := (Array.getElem?_eq_some_iff.mp hgs).1
    refine codeAny_builtin F.entry_all_loop ?_
    rw [Around.under_plainId F.plain_all_loop _]
    show wpAny _ A.in1 (pyNext (.ref a) >>= _) _ _ s
    refine wpAny_bind (GenW.wpAny_gsz (n := g + 1) hgl (wpAny_pyNext_genexpQ (A := A.in1) hh hl hd hg hgs hgo (fun v s₁ gs' hb hv => ?_) fun s₁ hp h' hk => ?_))
    · intro hsz
      obtain ⟨hl1, hb1, hg1, b, rfl, ht, hf⟩ := hv
      refine wpAny_bind (wpAny_holding (wpAny_truthy_bool ?_))
      refine wpAny_bind (wpAny_letGo ?_)
      cases b with
      | true =>
        simp only [if_true]
        have hsz1 : g < s₁.gens.size := by
          have q : (s₁.setGen g gs').gens.size = s₁.gens.size := GenW.setGen_size _ _ _
          have hsz' : g + 1 ≤ (s₁.setGen g gs').gens.size := hsz
          omega
        refine wpAny_pure ⟨plainId_quiet F.plain_all_loop _, ih (s₁.setGen g gs') hg1 hl1 ⟨gs', setGen_at hsz1, ?_⟩⟩
        exact ht (by decide) _ ⟨rfl, allBare_setGen (s := s₁.setGen g gs') (allBare_setGen hb1 hb) rfl, fun _ _ e => e⟩
      | false =>
        simp only [Bool.false_eq_true, if_false]
        exact wpAny_bind (wpAny_rule (wpAny_pure (hR _ _ (hf rfl _ ⟨rfl, allBare_setGen hb1 hb, fun _ _ e => e⟩))))
    · intro hsz
      obtain ⟨hb1, hq⟩ := hp
      exact wpAny_bind (wpAny_rule (wpAny_pure (hR _ _ (hq _ ⟨rfl, allBare_setGen (s := s₁) hb1 rfl, hk⟩))))
theorem any_loop (hh : A.handled = none) (hd : A.depth < recursionLimit) (hR : ∀ b s, R b s → R' (.ok (.ret (.bool b))) s) :
    ∀ (m : Nat) (s : Shared), s.heap.IsGen a g → s.heap.NoLimit →
      (∃ gs, s.gens[g]? = some gs ∧ gs.Goes (model P w) A.in1.in1 (fun n s₀ r s₁ => r = .ok .next ∧ RA true R n s₀ s₁) (YA true R a g) m (.send .none) (s.setGen g .running)) →
      codeAny (model P w) A (.builtin "any.loop" ⟨[.ref a], []⟩) R' s := by
  intro m
  induction m with
  | zero =>
    intro s hg hl ⟨gs, hgs, hgo⟩
    refine codeAny_builtin F.entry_any_loop ?_
    rw [Around.under_plainId F.plain_any_loop _]
    show wpAny _ A.in1 (pyNext (.ref a) >>= _) _ _ s
    refine wpAny_bind (wpAny_pyNext_genexpQ (A := A.in1) hh hl hd hg hgs hgo (fun v s₁ gs' hb hv => ?_) fun s₁ hp h' hk => ?_)
    · obtain ⟨hl1, hb1, hg1, b, rfl, ht, hf⟩ := hv
      cases b with
      | false => exact (ht (by decide) s₁ ⟨rfl, hb1, fun _ _ e => e⟩).elim
      | true =>
        refine wpAny_bind (wpAny_holding (wpAny_truthy_bool ?_))
        refine wpAny_bind (wpAny_letGo ?_)
        simp only [if_true]
        exact wpAny_bind (wpAny_rule (wpAny_pure (hR _ _ (hf rfl _ ⟨rfl, allBare_setGen hb1 hb, fun _ _ e => e⟩))))
    · obtain ⟨hb1, hq⟩ := hp
      exact wpAny_bind (wpAny_rule (wpAny_pure (hR _ _ (hq _ ⟨rfl, allBare_setGen (s := s₁) hb1 rfl, hk⟩))))
  | succ m ih =>
    intro s hg hl ⟨gs, hgs, hgo⟩
    have hgl : g < s.gens.size := (Array.getElem?_eq_some_iff.mp hgs).1
    refine codeAny_builtin F.entry_any_loop ?_
    rw [Around.under_plainId F.plain_any_loop _]
    show wpAny _ A.in1 (pyNext (.ref a) >>= _) _ _ s
    refine wpAny_bind (GenW.wpAny_gsz (n := g + 1) hgl (wpAny_pyNext_genexpQ (A := A.in1) hh hl hd hg hgs hgo (fun v s₁ gs' hb hv => ?_) fun s₁ hp h' hk => ?_))
    · intro hsz
      obtain ⟨hl1, hb1, hg1, b, rfl, ht, hf⟩ := hv
      refine wpAny_bind (wpAny_holding (wpAny_truthy_bool ?_))
      refine wpAny_bind (wpAny_letGo ?_)
      cases b with
      | false =>
        simp only [Bool.false_eq_true, if_false]
        have hsz1 : g < s₁.gens.size := by
          have q : (s₁.setGen g gs').gens.size = s₁.gens.size := GenW.setGen_size _ _ _
          have hsz' : g + 1 ≤ (s₁.setGen g gs').gens.size := hsz
          omega
        refine wpAny_pure ⟨plainId_quiet F.plain_any_loop _, ih (s₁.setGen g gs') hg1 hl1 ⟨gs', setGen_at hsz1, ?_⟩⟩
        exact ht (by decide) _ ⟨rfl, allBare_setGen (s := s₁.setGen g gs') (allBare_setGen hb1 hb) rfl, fun _ _ e => e⟩
      | true =>
        simp only [if_true]
        exact wpAny_bind (wpAny_rule (wpAny_pure (hR _ _ (hf rfl _ ⟨rfl, allBare_setGen hb1 hb, fun _ _ e => e⟩))))
    · intro hsz
      obtain ⟨hb1, hq⟩ := hp
      exact wpAny_bind (wpAny_rule (wpAny_pure (hR _ _ (hq _ ⟨rfl, allBare_setGen (s := s₁) hb1 rfl, hk⟩))))
end

/-! ### the generator's own context -/
/-- a generator expression's names: its own, captured ones. M: the slots within: those of N (a name that it has itself is renamed there), then its own x -/
structure GNames (N M : List Str) (sc scope : Scope) (x : Str) : Prop where
  kind : scope.kind = .function
  co : scope.isCoroutine = false
  cell : ∀ y ∈ scope.names, y.2 ≠ .cell
  dot : scope.names.lookup (".0" : Str) = some NameKind.local
  loc : scope.names.lookup x = some .local
  len : M.length = N.length + 1
  last : M[N.length]? = some x
  nd : M.Nodup
  old : ∀ (i : Nat) y, i < N.length → M[i]? = some y → N[i]? = some y ∨ scope.names.lookup y = none
  own : ∀ y ∈ scope.names, y.2 = .local → y.1 = x ∨ y.1 ∉ M
  free : ∀ y ∈ scope.names, y.2 = .free → sc.names.lookup y.1 = some .cell ∨ sc.names.lookup y.1 = some .free
def gNamesB (N M : List Str) (sc scope : Scope) (x : Str) : Bool :=
  decide (scope.kind = .function) && !scope.isCoroutine && decide (scope.names.lookup (".0" : Str) = some NameKind.local) && decide (scope.names.lookup x = some NameKind.local) &&
  decide (M.length = N.length + 1) && decide (M[N.length]? = some x) && decide M.Nodup && ((List.range N.length).all fun i => decide (M[i]? = N[i]?) || (match M[i]? with | some y => decide (scope.names.lookup y = none) | none => true)) &&
  scope.names.all fun y => !decide (y.2 = .cell) && (!decide (y.2 = .local) || decide (y.1 = x) || !M.contains y.1) && (!decide (y.2 = .free) || decide (sc.names.lookup y.1 = some .cell) || decide (sc.names.lookup y.1 = some .free))
theorem gNames_by {N M : List Str} {sc scope : Scope} {x : Str} (h : gNamesB N M sc scope x = true) : GNames N M sc scope x := by
  unfold gNamesB at h
  simp only [Bool.and_eq_true, Bool.or_eq_true, Bool.not_eq_true', decide_eq_true_eq, decide_eq_false_iff_not, List.all_eq_true, List.contains_eq_mem, List.mem_range] at h
  obtain ⟨⟨⟨⟨⟨⟨⟨⟨h1, h2⟩, h3⟩, h4⟩, h5⟩, h7⟩, h8⟩, h9⟩, h6⟩ := h
  refine ⟨h1, h2, fun y hy => (h6 y hy).1.1, h3, h4, h5, h7, h8, fun i y hi e => ?_, fun y hy e => ?_, fun y hy e => ?_⟩
  · rcases h9 i hi with z | z
    · exact .inl (z ▸ e)
    · rw [e] at z
      exact .inr (of_decide_eq_true z)
  · rcases (h6 y hy).1.2 with (z | z) | z
    · exact absurd e z
    · exact .inl z
    · exact .inr z
  · rcases (h6 y hy).2 with (z | z) | z
    · exact absurd e z
    · exact .inl z
    · exact .inr z
abbrev gnv (X : Cx) (scope : Scope) (C : Addr) (code : Value) : Env := genEnv scope (cloFrom X.env.cells scope.names []) C code builtinsNs X.env
/-- the context of the element -/
def gcx (X : Cx) (A : Around) (s : Shared) (H : Hp) (env : Env) (M : List Str) (fp : List Addr) (pn : List (Addr × Obj)) : Cx :=
  { X with A := A, N := M, s_0 := s, H_0 := H, env := env, outer := X.stack, stack := env :: X.stack, ex := fp, fn := fun _ => false, calm := true, pn := pn, xe := fun _ _ => False }
section
variable {X : Cx} {pins : List (Addr × Obj)} {σ : L2.St} {H : Hp} {s : Shared}
theorem GNames.has {M : List Str} {scope : Scope} {x : Str} (L : GNames X.N M X.env.scope scope x) (ok : X.Ok) : ∀ y ∈ scope.names, y.2 = .free → ∃ c, X.env.cells.lookup y.1 = some c := fun y hy e => by
  rcases L.free y hy e with k | k
  · exact ok.has _ (.inl k)
  · exact ok.has _ (.inr k)
theorem gstart {A : Around} {M : List Str} {scope : Scope} {x : Str} {code itv : Value} {fp : List Addr} {pn : List (Addr × Obj)} {h5 : Heap} {g5 : Array GenState} {t5 : Nat} (I : Inv X pins σ H s) (L : GNames X.N M X.env.scope scope x) (hd : A.handled = none)
    (hfr : A.frames = some (gnv X scope s.heap.objs.size code :: X.stack)) (hfp : ∀ b ∈ fp, FpOk X pins H b ∧ b < s.heap.objs.size) (kp : ∀ b o, s.heap.get? b = some o → h5.get? b = some o)
    (hns : h5.Ns s.heap.objs.size (fun y => if y = ".0" then some itv else none)) (hb : AllBare g5) (hpn : ∀ p ∈ pn, h5.get? p.1 = some p.2 ∧ H p.1 = none ∧ p.1 ≠ s.heap.objs.size ∧ p.1 ∉ frs X.stack ∧ ∀ v, p.2.data ≠ .cell v) :
    Inv (gcx X A s H (gnv X scope s.heap.objs.size code) M fp pn) [] (σ ++ [none]) H { s with heap := h5, gens := g5, toks := t5 } := by
  have hfree := L.has I.ok
  have cm : ∀ {y c}, (cloFrom X.env.cells scope.names []).lookup y = some c → X.env.cells.lookup y = some c := fun {y c} e => by
    rcases cloFrom_mem (PySem.mem_of_lookup e) with hm | ⟨h1, h2⟩
    · cases hm
    · obtain ⟨c1, hc⟩ := hfree _ h1 rfl
      have hc : X.env.cells.lookup y = some c1 := hc
      have e2 : c = c1 := by
        rw [h2, hc] <;> rfl
      rw [e2]
      exact hc
  have look : ∀ {y}, scope.names.lookup y = some .free → ∃ c, (cloFrom X.env.cells scope.names []).lookup y = some c := fun {y} hl => by
    have hy : (y, NameKind.free) ∈ scope.names := PySem.mem_of_lookup hl
    exact mem_lookup (cloFrom_has (cells := X.env.cells) (acc := []) hy)
  have ltC : ∀ {y c}, X.env.cells.lookup y = some c → c < s.heap.objs.size := fun {y c} e => let ⟨_, z⟩ := I.cell y c e; z.lt
  refine ⟨⟨I.ok.mod, L.kind, I.ok.glob, rfl, Nat.le_refl _, fun y z c e1 e2 => I.ok.inj y z c (cm e1) (cm e2), fun y hy => ?_, fun y c z _ => ?_, fun _ => hd, hfr, .inr ⟨rfl, rfl⟩, fun b hb => ⟨?_, fun y c e z => ?_⟩, I.bs, Nat.le_trans I.ok.bsz I.sz, fun b o e hb => ?_, fun b hb z => ?_, I.stack, I.stkFree⟩,
    rfl, hb, Un.kept kp, ⟨_, hns, fun i y v e1 e2 e3 => ?_⟩, fun y c e => ?_, I.hok.fresh (Nat.le_refl _), fun y c e => I.freeC y c (cm e), fun p hp => ?_, I.hok.kept kp, ?_⟩
  · have hy : scope.names.lookup y = some .cell ∨ scope.names.lookup y = some .free := hy
    rcases hy with hy | hy
    · exact absurd rfl (L.cell _ (PySem.mem_of_lookup hy))
    · exact look hy
  · have z : false = true := z
    cases z
  · exact Nat.ne_of_lt (hfp b hb).2
  · exact (hfp b hb).1.2.2.2.2.1 y c (cm e) z
  · rcases (hfp b hb).1.2.2.2.1 with z | z
    · exact I.ok.noex b o e z
    · exact absurd (Nat.lt_of_lt_of_le (Heap.lt_size e) (Nat.le_trans I.ok.bsz z)) (Nat.lt_irrefl _)
  · rcases List.mem_cons.mp (I.stkSub b z) with z | z
    · exact (hfp b hb).1.2.1 z
    · exact (hfp b hb).1.2.2.1 z
  · have e2 : (σ ++ [none])[i]? = some (some v) := e2
    have e1 : M[i]? = some y := e1
    have hi : i < σ.length := by
      by_cases hi : i < σ.length
      · exact hi
      · rw [List.getElem?_append_right (by omega)] at e2
        cases q : i - σ.length with
        | zero => rw [q] at e2; cases e2
        | succ n => rw [q] at e2; cases e2
    rw [List.getElem?_append_left hi] at e2
    have e3 : Vis scope y := e3
    have hiN : i < X.N.length := by rw [← I.len]; exact hi
    have hfree : scope.names.lookup y = some .free := by
      rcases e3 with k | k | k
      · rcases L.own _ (PySem.mem_of_lookup k) rfl with z | z
        · have z : y = x := z
          subst z
          exact absurd (nodup_ix L.nd e1 L.last) (Nat.ne_of_lt hiN)
        · exact absurd (List.mem_of_getElem? e1) z
      · exact absurd rfl (L.cell _ (PySem.mem_of_lookup k))
      · exact k
    have e1 : X.N[i]? = some y := (L.old i y hiN e1).elim id fun z => by rw [z] at hfree; cases hfree
    obtain ⟨m, hn, hl⟩ := I.loc
    have hvis : Vis X.env.scope y := (L.free _ (PySem.mem_of_lookup hfree) rfl).elim (fun k => .inr (.inl k)) (fun k => .inr (.inr k))
    obtain ⟨w', r, q⟩ := hl i y v e1 e2 hvis
    obtain ⟨c2, h2⟩ := look hfree
    refine ⟨w', r, .inr ⟨.inr hfree, c2, h2, ?_⟩⟩
    have c1 := cm h2
    rcases q with ⟨k', _⟩ | ⟨_, c3, e', z⟩
    · have k' : X.env.scope.names.lookup y = some .local := k'
      rcases L.free _ (PySem.mem_of_lookup hfree) rfl with k2 | k2 <;> rw [show X.env.scope.names.lookup y = _ from k2] at k' <;> cases k'
    · rw [c1] at e'
      cases e'
      exact z.keeps kp
  · obtain ⟨w', z⟩ := I.cell y c (cm e)
    exact ⟨w', z.keeps kp⟩
  · rcases List.mem_append.mp hp with hp | hp
    · exact hpn p hp
    · cases hp
  · show (σ ++ [none]).length = M.length
    rw [List.length_append, I.len, L.len]
    rfl

theorem Inv.wok {s' : Shared} (I : Inv X pins σ H s) (h : Wok s s') : Inv X pins σ H s' :=
  I.call' (ch := []) h.os (Un.kept h.keep) (I.hok.kept h.keep) h.bare fun b z => by simp at z
end

/-! ### the loop -/
/-- what is asked of the walk and of the element: st: the answer that ends it (false for all, true for any) -/
structure Asks (st : Bool) (J : It) (n : Nat) (telt : TE) (σ : L2.St) (W : Nat → Hp → Prop) (Qb : Bool → Hp → Prop) : Prop where
  turn : ∀ i H, i < n → W i H → J.go i H ∧ ∀ x H', J.yld i H x H' → telt (σ ++ [some x]) H' fun v H'' => ∃ b, v = .bl b ∧ (b ≠ st → W (i + 1) H'') ∧ (b = st → Qb st H'')
  stop : ∀ H, W n H → J.stop n H ∧ Qb (!st) H
theorem seg_loop {X : Cx} {A : Around} {sz : Shared} {Hz : Hp} {code : Value} {M : List Str} {scope : Scope} {x : Str} {px : Pos} {fp : List Addr} {pn : List (Addr × Obj)} {a g : Addr} {it : Addr} {tn : Nat → Heap → Prop} {J : It} {elt iter : Expr} {gpos : Pos} {telt : TE} {σ : L2.St}
    {W : Nat → Hp → Prop} {R : Bool → Shared → Prop} {QH : Bool → Hp → Prop} {st : Bool} {n : Nat} (L : GNames X.N M X.env.scope scope x) (hσ : σ.length = X.N.length) (hh : A.handled = none)
    (T : Turn X.prog X.w X.K (.Name x px) J fp it tn) (hpf : ∀ p ∈ pn, p.1 ∉ fp) (hgen : ∃ go, (a, go) ∈ pn ∧ ∀ h : Heap, h.get? a = some go → h.IsGen a g)
    (he : PE (gcx X (A.over (.compLoop (.GeneratorExp elt [⟨.Name x px, iter, [], 0⟩] scope gpos) 0 (.ref it) .none (gnv X scope sz.heap.objs.size code)) []) sz Hz (gnv X scope sz.heap.objs.size code) M fp pn) elt telt)
    (hq : Asks st J n telt σ W QH)
    (hR : ∀ b σ' H s s', Inv (gcx X (A.over (.compLoop (.GeneratorExp elt [⟨.Name x px, iter, [], 0⟩] scope gpos) 0 (.ref it) .none (gnv X scope sz.heap.objs.size code)) []) sz Hz (gnv X scope sz.heap.objs.size code) M fp pn) [] σ' H s → QH b H → Wok s s' → R b s') :
    ∀ (k i : Nat) (s₀ s : Shared) (y : Option V) (H : Hp), n - i = k → i ≤ n → Inv (gcx X (A.over (.compLoop (.GeneratorExp elt [⟨.Name x px, iter, [], 0⟩] scope gpos) 0 (.ref it) .none (gnv X scope sz.heap.objs.size code)) []) sz Hz (gnv X scope sz.heap.objs.size code) M fp pn) [] (σ ++ [y]) H s →
      tn i s.heap → (∀ b ∈ fp, H b = none) → W i H →
      Seg (model X.prog X.w) A (fun n s₀ r s₁ => r = .ok .next ∧ RA st R n s₀ s₁) (YA st R a g) k s₀
        (.compLoop (.GeneratorExp elt [⟨.Name x px, iter, [], 0⟩] scope gpos) 0 (.ref it) .none (gnv X scope sz.heap.objs.size code))
        ((model X.prog X.w).den (.compLoop (.GeneratorExp elt [⟨.Name x px, iter, [], 0⟩] scope gpos) 0 (.ref it) .none (gnv X scope sz.heap.objs.size code))) [] s := by
  generalize hcode : (Code.compLoop (.GeneratorExp elt [⟨.Name x px, iter, [], 0⟩] scope gpos) 0 (.ref it) .none (gnv X scope sz.heap.objs.size code)) = cd at *
  generalize hG : gcx X (A.over cd []) sz Hz (gnv X scope sz.heap.objs.size code) M fp pn = G at *
  have gp : G.prog = X.prog := by rw [← hG]; rfl
  have gw : G.w = X.w := by rw [← hG]; rfl
  have gK : G.K = X.K := by rw [← hG]; rfl
  have gA : G.A = A.over cd [] := by rw [← hG]; rfl
  have gc : G.calm = true := by rw [← hG]; rfl
  have gN : G.N = M := by rw [← hG]; rfl
  have gE : G.env = gnv X scope sz.heap.objs.size code := by rw [← hG]; rfl
  have gex : G.ex = fp := by rw [← hG]; rfl
  have gpn : G.pn = pn := by rw [← hG]; rfl
  have gxe : ∀ e s, ¬ G.xe e s := by rw [← hG]; exact fun _ _ h => h
  have stat : ∀ {s : Shared} {σ' : L2.St} {H : Hp}, Inv G [] σ' H s → (∀ b ∈ fp, H b = none) → ∀ b ∈ fp, FpOk G [] H b := fun {s σ' H} I hn b hb => by
    have hb' : b ∈ G.ex := by rw [gex]; exact hb
    refine ⟨hn b hb, (I.ok.exf b hb').1, I.ok.exfs b hb', .inl hb', (I.ok.exf b hb').2, fun p hp z => ?_⟩
    rcases List.mem_append.mp hp with hp | hp
    · rw [gpn] at hp
      exact hpf p hp (by rw [z]; exact hb)
    · cases hp
  have isg : ∀ {s : Shared} {σ' : L2.St} {H : Hp} {pl : List (Addr × Obj)}, Inv G pl σ' H s → s.heap.IsGen a g := fun {s σ' H pl} I => by
    obtain ⟨go, hm, hh⟩ := hgen
    exact hh _ (I.pin (a, go) (List.mem_append_left _ (by rw [gpn]; exact hm))).1
  intro k
  induction k with
  | zero =>
    intro i s₀ s y H hk hi I ht hf hw
    have hin : i = n := by omega
    subst hin
    obtain ⟨hstop, hq1⟩ := hq.stop H hw
    subst hcode
    show Seg _ A _ _ _ s₀ _ ((compTurn (.GeneratorExp elt [⟨.Name x px, iter, [], 0⟩] scope gpos) 0 (.ref it) .none (gnv X scope sz.heap.objs.size code)).onRaise (leaving (gnv X scope sz.heap.objs.size code))) [] s
    rw [compTurn_gen, Sem.onRaise_eq_wrap]
    refine seg_bind_wrap (wpAny_standAt ?_)
    have hd := T.done G gp gw gK gc i [] s (σ ++ [y]) H (fun _ _ => False) I (stat I hf) ht hstop
    rw [gA] at hd
    refine seg_bind_wrap (wpAny_mono hd (fun r s1 ⟨hr, I1⟩ => ?_) fun _ _ z => z.elim)
    subst hr
    exact seg_end (.ok .next) ⟨rfl, I1.bare, fun s' hs' => hR _ _ _ _ _ I1 hq1 hs'⟩
  | succ k ih =>
    intro i s₀ s y H hk hi I ht hf hw
    have hlt : i < n := by omega
    obtain ⟨hgo, hturn⟩ := hq.turn i H hlt hw
    have hcode' := hcode
    subst hcode
    show Seg _ A _ _ _ s₀ _ ((compTurn (.GeneratorExp elt [⟨.Name x px, iter, [], 0⟩] scope gpos) 0 (.ref it) .none (gnv X scope sz.heap.objs.size code)).onRaise (leaving (gnv X scope sz.heap.objs.size code))) [] s
    rw [compTurn_gen, Sem.onRaise_eq_wrap]
    refine seg_bind_wrap (wpAny_standAt ?_)
    have hd := T.item G gp gw gK gc i [] s (σ ++ [y]) H (fun _ _ => False) I (stat I hf) ht hgo
    rw [gA] at hd
    refine seg_bind_wrap (wpAny_mono hd (fun r s1 ⟨u, hr, hlet⟩ => ?_) fun _ _ z => z.elim)
    subst hr
    refine seg_bind_wrap (wpAny_mono hlet (fun _ s2 ⟨x1, H2, I2, rv, hy, ht2, hf2⟩ => ?_) fun _ _ z => z.elim)
    have hix : G.N[X.N.length]? = some x := by rw [gN]; exact L.last
    have hnd : G.N.Nodup := by rw [gN]; exact L.nd
    have hlc : G.env.scope.names.lookup x = some .local := by rw [gE]; exact L.loc
    have hst := store_ok2 (M := model X.prog X.w) (A := A.over (.compLoop (.GeneratorExp elt [⟨.Name x px, iter, [], 0⟩] scope gpos) 0 (.ref it) .none (gnv X scope sz.heap.objs.size code)) []) (E := fun _ _ => False) (Q := fun _ s3 => ∃ H2', H2' = H2 ∧ Inv G [] ((σ ++ [y]).set X.N.length (some x1)) H2' s3 ∧ tn (i + 1) s3.heap) I2 hnd hix (.inl hlc) rv (fun s3 I3 hsb => by
      obtain ⟨b, hb, hbe⟩ := hsb
      refine ⟨H2, rfl, I3, T.keep _ _ _ ht2 fun c hc o e => (hb.2 c fun z => ?_).trans e⟩
      rcases hbe with q | q
      · exact (stat I2 hf2 c hc).2.1 (z.trans q)
      · exact (stat I2 hf2 c hc).2.2.2.2.1 x b q z.symm) (.inr hlc)
    rw [gE] at hst
    refine seg_bind_wrap (wpAny_assign_Name (wpAny_mono hst (fun _ s3 ⟨H3, e3, I3, ht3⟩ => ?_) fun _ _ z => z.elim))
    subst e3
    have hset : (σ ++ [y]).set X.N.length (some x1) = σ ++ [some x1] := by
      rw [← hσ, List.set_append_right _ _ (Nat.le_refl _), Nat.sub_self]
      rfl
    rw [hset] at I3
    simp only [List.forIn_nil]
    refine seg_bind_wrap (wpAny_pure ?_)
    simp only [if_true]
    have hyo : ∀ v, yieldOut (gnv X scope sz.heap.objs.size code) v = yieldValue v := fun v => by
      have hco : (gnv X scope sz.heap.objs.size code).scope.isCoroutine = false := L.co
      simp only [yieldOut, hco, Bool.false_eq_true, if_false]
    simp only [hyo]
    rw [Sem.bind_eq_wrap', Sem.bind_eq_wrap', Sem.wrap_wrap, Sem.wrap_wrap]
    have I3' := I3.pinned (stat I3 hf2) (T.obj _ _ ht3)
    have hrun := he.run _ s3 (σ ++ [some x1]) H3 _ I3' (hturn x1 H3 hy)
    rw [gA, gE, gp, gw] at hrun
    refine seg_wrap (wpAny_mono hrun (fun u4 s4 h4 => ?_) fun e s4 z => (gxe e s4 z).elim)
    obtain ⟨v4, H4, I4, r4, b, rfl, hgo4, hst4⟩ := h4
    have e4 : u4 = .bool b := r4
    subst e4
    have keep4 : ∀ c ∈ fp, ∀ o, s3.heap.get? c = some o → s4.heap.get? c = some o ∧ H4 c = none := fun c hc o e => by
      obtain ⟨q1, q2, _⟩ := I4.pin (c, o) (List.mem_append_right _ (List.mem_append_right _ (mem_pinsAt hc e)))
      exact ⟨q1, q2⟩
    have ht4 : tn (i + 1) s4.heap := T.keep _ _ _ ht3 fun c hc o e => (keep4 c hc o e).1
    have hf4 : ∀ c ∈ fp, H4 c = none := fun c hc => by
      obtain ⟨o, e, _⟩ := T.obj _ _ ht3 c hc
      exact (keep4 c hc o e).2
    refine seg_at (seg_yield rfl rfl rfl ⟨I4.nolimit, I4.bare, isg I4, b, rfl, fun hb s'' hw => ?_, fun hb s'' hw => ?_⟩)
    · refine seg_again rfl (ih (i + 1) s'' s'' (some x1) H4 (by omega) hlt (Inv.wok I4.unpinned hw) (T.keep _ _ _ ht4 fun c _ o e => hw.keep c o e) hf4 (hgo4 hb))
    · exact hR _ _ _ _ _ I4.unpinned (hst4 hb) hw

/-! ### the making -/
def Made (X : Cx) (pins : List (Addr × Obj)) (σ : L2.St) (k : Nat) (st : Bool) (Q : VK) (u : Value) (s5 : Shared) : Prop :=
  ∃ (a g : Addr) (n : Nat) (c : Code), u = .ref a ∧ s5.heap.IsGen a g ∧ s5.heap.NoLimit ∧ s5.gens[g]? = some (.fresh c) ∧
    ∀ A : Around, Room k A → A.frames = some X.stack → Seg (model X.prog X.w) A (fun n s₀ r s₁ => r = .ok .next ∧ RA st (fun b s' => ∃ H', Inv X pins σ H' s' ∧ Q (.bl b) H') n s₀ s₁)
      (YA st (fun b s' => ∃ H', Inv X pins σ H' s' ∧ Q (.bl b) H') a g) n (s5.setGen g .running) c ((model X.prog X.w).den c) [] (s5.setGen g .running)
theorem room_gen {k : Nat} {A : Around} {e : Expr} {it v : Value} {env : Env} (h : Room (k + 1) A) (hw : (Code.compLoop e 0 it v env).weight = 1 := by rfl) (hu : (Code.compLoop e 0 it v env).cUnits ≤ 3 := by exact Nat.le_of_eq rfl) : Room k (A.over (.compLoop e 0 it v env) []) := by
  refine ⟨h.hd, ?_, ?_⟩
  · have := h.dp
    show A.depth + frameCount [] + (Code.compLoop e 0 it v env).weight + 3 * k + 5 < _
    have e0 : frameCount [] = 0 := rfl
    omega
  · have := h.un
    show A.units + unitsOf [] + (Code.compLoop e 0 it v env).cUnits + 16 * k + 200 < _
    have e0 : unitsOf [] = 0 := rfl
    omega
/-- the reading: the walk; the table at P may have grown; then what the walk and the element are asked -/
def tGen (st : Bool) (P : Addr) (wi : TI) (telt : TE) : TE := fun σ H Q => wi σ H fun J H1 => GxR.TabG H1 P ∧ ∀ H2, GxR.Tabbed P H1 H2 → ∃ (n : Nat) (W : Nat → Hp → Prop), W 0 H2 ∧ Asks st J n telt σ W fun b H' => Q (.bl b) H'
section
variable {X : Cx} {pins : List (Addr × Obj)} {σ : L2.St} {H : Hp} {s : Shared}
theorem gen_made {c P : Addr} {elt iter : Expr} {x : Str} {M : List Str} {px gpos : Pos} {scope : Scope} {wi : TI} {telt : TE} {k : Nat} {st : Bool} {Q : VK} (hr : Room (k + 1) X.A) (TB : LamX.TabB X.base X.mg c P) (hcode : X.env.code = .ref c) (L : GNames X.N M X.env.scope scope x)
    (hi : PI X (.Name x px) iter wi) (hs : ∀ v, genFold iter X.env v = pure v) (he : ∀ (A : Around) (sz : Shared) (Hz : Hp) (C : Addr) (code : Value) (fp : List Addr) (pn : List (Addr × Obj)), Room k A → PE (gcx X A sz Hz (gnv X scope C code) M fp pn) elt telt)
    (I : Inv X pins σ H s) (h : tGen st P wi telt σ H Q) :
    wpAny (model X.prog X.w) X.A (eval (.GeneratorExp elt [⟨.Name x px, iter, [], 0⟩] scope gpos) X.env) (Made X pins σ (k + 1) st Q) X.xe s := by
  refine wpAny_GeneratorExp_make L.co (closure_ok (L.has I.ok)) L.cell L.dot L.kind hr.depth ?_ hs
  refine wpAny_mono (hi.run pins s σ H _ I h) (fun xv s1 h1 => wpAny_mono h1 (fun itv s2 h2 => ?_) fun _ _ z => z) fun _ _ z => z
  obtain ⟨it, fp, tn, J, H1, rfl, I2, T, ht, hf, ⟨ps, hP, htr⟩, hA⟩ := h2
  have hPs : s2.heap.get? P = some { cls := .none, data := .fields ps } := I2.hok P _ hP
  have hPlt : P < s2.heap.objs.size := Heap.lt_size hPs
  have cd : PySem.W.CodeHd s2.heap c P := TB.code.keeps fun b u e => I2.bk b u e
  refine ⟨I2.nolimit, ?_⟩
  have nt : ∀ b u, H1 b = some u → (∀ q, u ≠ .tbl q) → b ≠ P := fun b u e q z => by
    rw [z, hP] at e
    exact q ps (Option.some.inj e).symm
  have fpP : ∀ b ∈ fp, b ≠ P := fun b hb z => by
    have q := (hf b hb).1
    rw [z, hP] at q
    cases q
  have cont : ∀ (code : Value) (h3 : Heap) (tk : Nat) (ps' : Array Value), Heap.ExtBut P s2.heap h3 → s2.heap.objs.size ≤ h3.objs.size → h3.get? P = some { cls := .none, data := .fields ps' } → (∃ more, ps' = ps ++ more) → TriplesOk ps'.toList →
      wpAny (model X.prog X.w) X.A (builtinsFor X.env.globals X.env.builtins) (fun bi s₄ =>
        ∀ h', h'.Ns s₄.heap.objs.size (fun y => if y = ".0" then some (Value.ref it) else none) → Heap.SameBut s₄.heap.objs.size (s₄.heap.push { cls := .type "frame", data := .dict #[] }) h' →
          Made X pins σ (k + 1) st Q (.ref h'.objs.size) { s₄ with
            gens := s₄.gens.push (.fresh (.compStart (.GeneratorExp elt [⟨.Name x px, iter, [], 0⟩] scope gpos) 0 (.ref it) .none (genEnv scope (cloFrom X.env.cells scope.names []) s₄.heap.objs.size code bi X.env))),
            toks := s₄.toks + 1 + 1 + 1,
            heap := h'.push { cls := .type "generator", data := .fields #[.int s₄.gens.size 0, .str "<genexpr>" (s₄.toks + 1), .str (X.env.qual ++ "<genexpr>") (s₄.toks + 1 + 1)] } }) X.xe { s2 with heap := h3, toks := tk } := by
    intro code h3 tk ps' hx hsz hP3 hmore ht3
    obtain ⟨bm, ob, e1, e2, e3, e4, e5, e6, e7, e8⟩ := TB.bm
    have keep3 : ∀ b u, b ≠ P → s2.heap.get? b = some u → h3.get? b = some u := fun b u hb e => hx b u hb e
    refine wpAny_builtinsFor (m := X.mg) (by rw [I2.ok.glob]; exact (I2.mod.glob.keeps I2.bk).extBut hx TB.gP) e1 e2 (keep3 _ _ e4 (I2.bk _ _ e5)) e6 e7 e8 ?_
    obtain ⟨more, em⟩ := hmore
    have I4 : Inv X pins σ (upd H1 P (.tbl (ps ++ more))) { s2 with heap := h3, toks := tk } :=
      GxR.inv_tab (g' := s2.gens) (d' := s2.drawn) I2 hP keep3 (by rw [← em]; exact hP3) I2.bare
    have tb4 : GxR.Tabbed P H1 (upd H1 P (.tbl (ps ++ more))) := ⟨⟨ps ++ more, upd_same, by rw [← em]; exact ht3⟩, fun b hb => upd_ne hb⟩
    have hf4 : ∀ b ∈ fp, FpOk X pins (upd H1 P (.tbl (ps ++ more))) b ∧ b < h3.objs.size := fun b hb => by
      refine ⟨⟨by rw [upd_ne (fpP b hb)]; exact (hf b hb).1, (hf b hb).2⟩, ?_⟩
      obtain ⟨o, e, _⟩ := T.obj _ _ ht b hb
      exact Heap.lt_size (keep3 b o (fpP b hb) e)
    have ht4 : tn 0 h3 := T.keep _ _ _ ht fun b hb o e => keep3 b o (fpP b hb) e
    intro h' hns hsb
    obtain ⟨n, W, hW, hasks⟩ := hA _ tb4
    have sz' : h'.objs.size = h3.objs.size + 1 := by rw [hsb.1, Heap.size_push]
    have keep' : ∀ b o, h3.get? b = some o → h'.get? b = some o := fun b o e => hsb.extBut b o (Nat.ne_of_lt (Heap.lt_size e)) (Heap.get?_push_of_some _ e)
    have keep5 : ∀ b o, h3.get? b = some o → (h'.push { cls := .type "generator", data := .fields #[.int s2.gens.size 0, .str "<genexpr>" (tk + 1), .str (X.env.qual ++ "<genexpr>") (tk + 1 + 1)] }).get? b = some o := fun b o e => Heap.get?_push_of_some _ (keep' b o e)
    have hgo : (h'.push { cls := .type "generator", data := .fields #[.int s2.gens.size 0, .str "<genexpr>" (tk + 1), .str (X.env.qual ++ "<genexpr>") (tk + 1 + 1)] }).get? h'.objs.size = some { cls := .type "generator", data := .fields #[.int s2.gens.size 0, .str "<genexpr>" (tk + 1), .str (X.env.qual ++ "<genexpr>") (tk + 1 + 1)] } := Heap.get?_push_size _ rfl
    refine ⟨h'.objs.size, s2.gens.size, n, _, rfl, ⟨_, _, _, hgo, rfl, rfl, rfl⟩, I4.nolimit.keeps keep5, Array.getElem?_push_size .., fun A hrA hfr => ?_⟩
    have hh := hrA.hd
    have hfp0 : ∀ b ∈ fp, (upd H1 P (.tbl (ps ++ more))) b = none := fun b hb => (hf4 b hb).1.1
    -- the state in which the generator is woken
    have Ist : Inv (gcx X (A.over (.compLoop (.GeneratorExp elt [⟨.Name x px, iter, [], 0⟩] scope gpos) 0 (.ref it) .none (gnv X scope h3.objs.size code)) []) { s2 with heap := h3, toks := tk } (upd H1 P (.tbl (ps ++ more))) (gnv X scope h3.objs.size code) M fp
        [(h'.objs.size, { cls := .type "generator", data := .fields #[.int s2.gens.size 0, .str "<genexpr>" (tk + 1), .str (X.env.qual ++ "<genexpr>") (tk + 1 + 1)] })]) [] (σ ++ [none]) (upd H1 P (.tbl (ps ++ more)))
        (Shared.setGen { s2 with gens := s2.gens.push (.fresh (.compStart (.GeneratorExp elt [⟨.Name x px, iter, [], 0⟩] scope gpos) 0 (.ref it) .none (gnv X scope h3.objs.size code))), toks := tk + 1 + 1 + 1, heap := h'.push { cls := .type "generator", data := .fields #[.int s2.gens.size 0, .str "<genexpr>" (tk + 1), .str (X.env.qual ++ "<genexpr>") (tk + 1 + 1)] } } s2.gens.size .running) := by
      refine gstart (itv := .ref it) I4 L hh ?_ hf4 keep5 (hns.push _) (allBare_setGen (I2.bare.push rfl) rfl) fun p hp => ?_
      · show pushEnvs [gnv X scope h3.objs.size code] (pushEnvs (envsOf []) A.frames) = _
        rw [hfr]
        rfl
      · rw [List.mem_singleton.mp hp]
        refine ⟨hgo, ?_, ?_, ?_, fun v q => by cases q⟩
        · exact I4.hok.fresh (show h3.objs.size ≤ h'.objs.size by rw [sz']; exact Nat.le_succ _)
        · show h'.objs.size ≠ h3.objs.size
          rw [sz']
          exact Nat.succ_ne_self _
        · intro z
          have hle : h3.objs.size ≤ h'.objs.size := by rw [sz']; exact Nat.le_succ _
          rcases List.mem_cons.mp (I4.stkSub _ z) with q | q
          · have := I4.lt
            have q' : h'.objs.size = X.env.locals := q
            have this' : X.env.locals < h3.objs.size := this
            rw [q'] at hle
            exact absurd this' (Nat.not_lt.mpr hle)
          · exact I4.nofs hle q
    have loop := seg_loop (X := X) (M := M) (A := A) (st := st) (R := fun b s' => ∃ H', Inv X pins σ H' s' ∧ Q (.bl b) H') (a := h'.objs.size) (g := s2.gens.size) L I2.len hh T
      (pn := [(h'.objs.size, { cls := .type "generator", data := .fields #[.int s2.gens.size 0, .str "<genexpr>" (tk + 1), .str (X.env.qual ++ "<genexpr>") (tk + 1 + 1)] })])
      (fun p hp hm => by
        rw [List.mem_singleton.mp hp] at hm
        have := (hf4 _ hm).2
        have h9 : h'.objs.size < h3.objs.size := this
        omega)
      ⟨_, List.mem_singleton.mpr rfl, fun h e => ⟨_, _, _, e, rfl, rfl, rfl⟩⟩
      (he (A.over (.compLoop (.GeneratorExp elt [⟨.Name x px, iter, [], 0⟩] scope gpos) 0 (.ref it) .none (gnv X scope h3.objs.size code)) []) { s2 with heap := h3, toks := tk } (upd H1 P (.tbl (ps ++ more))) h3.objs.size code fp _ (room_gen hrA)) hasks
      (fun b σ' H' s s' Ig hq hw => by
        refine ⟨H', I4.call' (ch := fp) (hw.os.trans Ig.os) (Ig.base.trans (Un.kept hw.keep)) (Ig.hok.kept hw.keep) hw.bare fun b hb => ?_, hq⟩
        obtain ⟨_, f1, f2, f3, f4, f5⟩ := (hf4 b hb).1
        exact ⟨f3, f1, f4, f5⟩)
      n 0 (Shared.setGen { s2 with gens := s2.gens.push (.fresh (.compStart (.GeneratorExp elt [⟨.Name x px, iter, [], 0⟩] scope gpos) 0 (.ref it) .none (gnv X scope h3.objs.size code))), toks := tk + 1 + 1 + 1, heap := h'.push { cls := .type "generator", data := .fields #[.int s2.gens.size 0, .str "<genexpr>" (tk + 1), .str (X.env.qual ++ "<genexpr>") (tk + 1 + 1)] } } s2.gens.size .running)
      _ none _ (Nat.sub_zero _) (Nat.zero_le _) Ist (T.keep _ _ _ ht4 fun b _ o e => keep5 b o e) hfp0 hW
    show Seg _ A _ _ _ _ _ ((compStart (.GeneratorExp elt [⟨.Name x px, iter, [], 0⟩] scope gpos) 0 (.ref it) .none (gnv X scope h3.objs.size code)).onRaise (leaving (gnv X scope h3.objs.size code))) [] _
    unfold compStart
    rw [Sem.onRaise_eq_wrap]
    show Seg _ A _ _ _ _ _ ((ask >>= _).wrap _ _ _ _) [] _
    have ht5 : tn 0 (h'.push { cls := .type "generator", data := .fields #[.int s2.gens.size 0, .str "<genexpr>" (tk + 1), .str (X.env.qual ++ "<genexpr>") (tk + 1 + 1)] }) := T.keep _ _ _ ht4 fun b _ o e => keep5 b o e
    refine seg_bind_wrap (wpAny_askSetting ?_)
    split
    · exact seg_again rfl loop
    · first
        | exact seg_bind_wrap (wpAny_rule (seg_bind_wrap (wpAny_standAt (seg_bind_wrap (T.self _ 0 _ _ _ ht5 (seg_again rfl loop))))))
        | (refine seg_bind_wrap (wpAny_rule ?_); show Seg _ _ _ _ _ _ _ ((standAt iter.pos >>= _).wrap _ _ _ _) [] _; exact seg_bind_wrap (wpAny_standAt (seg_bind_wrap (T.self _ 0 _ _ _ ht5 (seg_again rfl loop)))))
  cases hfnd : codeAmong gpos ps.toList with
  | none =>
    refine wpAny_genexprCodeX hcode (cd.code hPs htr) (cd.tab hPs) hfnd fun c' h' tk hx hge hlt hco' _ htab' _ => ?_
    obtain ⟨o1, vs, f1, tf, fl, tg, inF, tx, tt, op, _, _, _, _, _, _, _, _, _, htr', _⟩ := hco'
    exact cont _ h' tk _ hx (Nat.le_trans hge (Nat.le_of_lt hlt)) htab'.2 ⟨_, rfl⟩ htr'
  | some cv =>
    refine wpAny_genexprCode_hit hcode (cd.code hPs htr) hfnd ?_
    exact cont cv s2.heap s2.toks ps (Heap.ExtBut.refl _ _) (Nat.le_refl _) hPs ⟨#[], by simp⟩ htr
theorem pe_all {c P : Addr} {elt iter : Expr} {x : Str} {M : List Str} {px p pos gpos : Pos} {scope : Scope} {wi : TI} {telt : TE} {k : Nat} (hr : Room (k + 2) X.A) (hg : Gl X "all") (hm : X.mg "all" = none) (TB : LamX.TabB X.base X.mg c P) (hcode : X.env.code = .ref c) (L : GNames X.N M X.env.scope scope x)
    (hi : PI X (.Name x px) iter wi) (he : ∀ (A : Around) (sz : Shared) (Hz : Hp) (C : Addr) (code : Value) (fp : List Addr) (pn : List (Addr × Obj)), Room k A → PE (gcx X A sz Hz (gnv X scope C code) M fp pn) elt telt)
    (hs : ∀ v, genFold iter X.env v = pure v := by intro _; rfl) (hb : bootBuiltins "all" = some (.builtin "all") := by decide +kernel)
    (he2 : starEach [.GeneratorExp elt [⟨.Name x px, iter, [], 0⟩] scope gpos] X.env = (false, eval (.GeneratorExp elt [⟨.Name x px, iter, [], 0⟩] scope gpos) X.env) :: starEach [] X.env := by rfl) :
    PE X (.Call (.Name "all" p) [.GeneratorExp elt [⟨.Name x px, iter, [], 0⟩] scope gpos] [] pos) (tGen false P wi telt) := by
  refine ⟨fun pins s σ H Q I h => ?_⟩
  refine wpAny_Call_Name_kw (ld_blt I hg hm hb ?_)
  refine PyProof.Rows.callWith_builtin1 ?_ he2 (by rfl)
  rw [he2]
  show wpAny _ _ (spliced ((false, eval (.GeneratorExp elt [⟨.Name x px, iter, [], 0⟩] scope gpos) X.env) :: backTo pos (starEach [] X.env))) _ _ s
  have hk1 : Room (k + 1) X.A := hr.mono (Nat.le_succ _)
  refine Calls.spliced_cons (thn (gen_made hk1 TB hcode L hi hs he I h) fun u s5 hM => ?_)
  obtain ⟨a, g, n, cd, rfl, hgen, hl, hgs, hseg⟩ := hM
  refine Calls.spliced_nil ?_
  refine call_function_tree F.kind_all F.plain_all F.entry_all (F.args_all1 _) ?_
  unfold Builtin.«all»
  refine wpAny_bind (m := oneArg "all" _) (wpAny_pure ?_)
  refine wpAny_bind (wpAny_pyIter_gen hgen ?_)
  refine wpAny_pure ⟨plainId_quiet F.plain_all_loop _, all_loop (A := X.A) (R := fun b s' => ∃ H', Inv X pins σ H' s' ∧ Q (.bl b) H') hr.hd hr.depth (fun b s' ⟨H', I', q⟩ => ⟨.bl b, H', I', rfl, q⟩) n s5 hgen hl ⟨_, hgs, rfl, hseg _ ?_ ?_⟩⟩
  · exact ⟨hr.hd, by have := hr.dp; show X.A.depth + 3 * (k + 1) + 5 < _; omega, by have := hr.un; show X.A.units + 1 + 1 + 16 * (k + 1) + 200 < _; omega⟩
  · exact I.ok.frames
theorem pe_any {c P : Addr} {elt iter : Expr} {x : Str} {M : List Str} {px p pos gpos : Pos} {scope : Scope} {wi : TI} {telt : TE} {k : Nat} (hr : Room (k + 2) X.A) (hg : Gl X "any") (hm : X.mg "any" = none) (TB : LamX.TabB X.base X.mg c P) (hcode : X.env.code = .ref c) (L : GNames X.N M X.env.scope scope x)
    (hi : PI X (.Name x px) iter wi) (he : ∀ (A : Around) (sz : Shared) (Hz : Hp) (C : Addr) (code : Value) (fp : List Addr) (pn : List (Addr × Obj)), Room k A → PE (gcx X A sz Hz (gnv X scope C code) M fp pn) elt telt)
    (hs : ∀ v, genFold iter X.env v = pure v := by intro _; rfl) (hb : bootBuiltins "any" = some (.builtin "any") := by decide +kernel)
    (he2 : starEach [.GeneratorExp elt [⟨.Name x px, iter, [], 0⟩] scope gpos] X.env = (false, eval (.GeneratorExp elt [⟨.Name x px, iter, [], 0⟩] scope gpos) X.env) :: starEach [] X.env := by rfl) :
    PE X (.Call (.Name "any" p) [.GeneratorExp elt [⟨.Name x px, iter, [], 0⟩] scope gpos] [] pos) (tGen true P wi telt) := by
  refine ⟨fun pins s σ H Q I h => ?_⟩
  refine wpAny_Call_Name_kw (ld_blt I hg hm hb ?_)
  refine PyProof.Rows.callWith_builtin1 ?_ he2 (by rfl)
  rw [he2]
  show wpAny _ _ (spliced ((false, eval (.GeneratorExp elt [⟨.Name x px, iter, [], 0⟩] scope gpos) X.env) :: backTo pos (starEach [] X.env))) _ _ s
  have hk1 : Room (k + 1) X.A := hr.mono (Nat.le_succ _)
  refine Calls.spliced_cons (thn (gen_made hk1 TB hcode L hi hs he I h) fun u s5 hM => ?_)
  obtain ⟨a, g, n, cd, rfl, hgen, hl, hgs, hseg⟩ := hM
  refine Calls.spliced_nil ?_
  refine call_function_tree F.kind_any F.plain_any F.entry_any (F.args_any1 _) ?_
  unfold Builtin.«any»
  refine wpAny_bind (m := oneArg "any" _) (wpAny_pure ?_)
  refine wpAny_bind (wpAny_pyIter_gen hgen ?_)
  refine wpAny_pure ⟨plainId_quiet F.plain_any_loop _, any_loop (A := X.A) (R := fun b s' => ∃ H', Inv X pins σ H' s' ∧ Q (.bl b) H') hr.hd hr.depth (fun b s' ⟨H', I', q⟩ => ⟨.bl b, H', I', rfl, q⟩) n s5 hgen hl ⟨_, hgs, rfl, hseg _ ?_ ?_⟩⟩
  · exact ⟨hr.hd, by have := hr.dp; show X.A.depth + 3 * (k + 1) + 5 < _; omega, by have := hr.un; show X.A.units + 1 + 1 + 16 * (k + 1) + 200 < _; omega⟩
  · exact I.ok.frames
end
end GA

set_option Elab.async false
set_option linter.all false
set_option maxRecDepth 100000
set_option maxHeartbeats 4000000
/-! what grows, and data without lists -/
namespace TK
open PySem PySem.Spec PyProof.Rows L2

/-- a tracked object stays, or is a table of code objects that stays one -/
def Kp (o : HO) (x : Option HO) : Prop := x = some o ∨ ∃ ps ps' : Array Value, o = .tbl ps ∧ x = some (.tbl ps') ∧ (TriplesOk ps.toList → TriplesOk ps'.toList)
/-- all that was tracked outside of S is kept, tables grow -/
def Gx (S : List Addr) (H H' : Hp) : Prop := ∀ b o, b ∉ S → H b = some o → Kp o (H' b)
abbrev Gr (H H' : Hp) : Prop := Gx [] H H'
variable {S : List Addr} {H H1 H2 H' : Hp} {K : PySem.W.Frag}
theorem Gx.refl : Gx S H H := fun _ _ _ e => .inl e
theorem Gr.refl : Gr H H := Gx.refl
theorem Kp.trans {o : HO} {x y : Option HO} (a : Kp o x) (b : ∀ u, x = some u → Kp u y) : Kp o y := by
  rcases a with a | ⟨ps, ps', rfl, a, k⟩
  · exact b o a
  · rcases b _ a with b | ⟨qs, qs', e, b, k'⟩
    · exact .inr ⟨ps, ps', rfl, b, k⟩
    · cases e
      exact .inr ⟨ps, qs', rfl, b, fun z => k' (k z)⟩
theorem Gx.trans (a : Gx S H H1) (b : Gx S H1 H2) : Gx S H H2 := fun c o hc e => (a c o hc e).trans fun u e' => b c u hc e'
theorem Gx.mono {S' : List Addr} (a : Gx S H H1) (h : ∀ b ∈ S, b ∈ S') : Gx S' H H1 := fun c o hc e => a c o (fun z => hc (h c z)) e
theorem Gr.x (a : Gr H H1) : Gx S H H1 := a.mono fun _ z => by simp at z
theorem Gx.thn (a : Gx S H H1) (b : Gr H1 H2) : Gx S H H2 := a.trans b.x
theorem Gr.thn (a : Gr H H1) (b : Gx S H1 H2) : Gx S H H2 := a.x.trans b
theorem Gx.same (a : Same H H1) : Gx S H H1 := fun b o _ e => .inl (a b o e)
theorem Gx.new {p : Addr} {o : HO} (h : H p = none) : Gx S H (upd H p o) := fun b u _ e => .inl (by rw [upd_ne (ne_of_none e h)]; exact e)
/-- an object that was not tracked at the start is written -/
theorem Gx.wr {p : Addr} {o : HO} (a : Gx S H H1) (h : H p = none) : Gx S H (upd H1 p o) := fun b u hb e => by
  rw [upd_ne (ne_of_none e h)]
  exact a b u hb e
theorem Gx.wrS {p : Addr} {o : HO} (a : Gx S H H1) (h : p ∈ S) : Gx S H (upd H1 p o) := fun b u hb e => by
  rw [upd_ne (fun z => hb (by rw [z]; exact h))]
  exact a b u hb e
theorem Kp.some {o : HO} {x : Option HO} (a : Kp o x) : x ≠ none := by
  rcases a with a | ⟨_, _, _, a, _⟩ <;> rw [a] <;> simp
theorem Gx.freeS (a : Gx S H H1) {p : Addr} (h : H1 p = none) : p ∈ S ∨ H p = none := by
  by_cases hp : p ∈ S
  · exact .inl hp
  · cases q : H p with
    | none => exact .inr rfl
    | some o => exact absurd h (a p o hp q).some
theorem Gx.free (a : Gx [] H H1) {p : Addr} (h : H1 p = none) : H p = none := (Gx.freeS a h).elim (fun z => by simp at z) id
theorem Gr.free (a : Gr H H1) {p : Addr} (h : H1 p = none) : H p = none := (Gx.freeS a h).elim (fun z => by simp at z) id
theorem Gx.at (a : Gx S H H1) {p : Addr} {o : HO} (hp : p ∉ S) (h : H p = some o) (ho : ∀ ps, o ≠ .tbl ps) : H1 p = some o := by
  rcases a p o hp h with z | ⟨ps, _, z, _⟩
  · exact z
  · exact absurd z (ho ps)
theorem Gx.lst (a : Gx [] H H1) {p : Addr} {xs : List V} (h : H p = some (.lst xs)) : H1 p = some (.lst xs) := Gx.at a (by simp) h fun _ z => by cases z
theorem Gr.lst (a : Gr H H1) {p : Addr} {xs : List V} (h : H p = some (.lst xs)) : H1 p = some (.lst xs) := Gx.at a (by simp) h fun _ z => by cases z
/-- the addresses of S hold lists -/
def LS (S : List Addr) (H : Hp) : Prop := ∀ b ∈ S, ∃ xs, H b = some (.lst xs)
theorem LS.nil : LS [] H := fun _ z => by simp at z
theorem Gx.rdT (a : Gx S H H1) (hS : LS S H) {p : Addr} {xs : List V} (h : Rd H p (.tup xs)) : Rd H1 p (.tup xs) := by
  have hp : p ∉ S := fun z => by
    obtain ⟨ys, e⟩ := hS p z
    rcases h with h | ⟨o, h⟩ <;> rw [e] at h <;> cases h
  rcases h with h | ⟨o, h⟩
  · exact .inl (a.at hp h fun _ z => by cases z)
  · exact .inr ⟨o, a.at hp h fun _ z => by cases z⟩
theorem Gx.seqTS (a : Gx S H H1) (hS : LS S H) {p : Addr} {xs : List V} (h : SqT K H p xs) : SqT K H1 p xs := h.elim (fun z => .inl (a.rdT hS z)) .inr
theorem Gx.seqT (a : Gx [] H H1) {p : Addr} {xs : List V} (h : SqT K H p xs) : SqT K H1 p xs := Gx.seqTS a .nil h
theorem Gr.seqT (a : Gr H H1) {p : Addr} {xs : List V} (h : SqT K H p xs) : SqT K H1 p xs := Gx.seqTS a .nil h
theorem Gx.seqL (a : Gx [] H H1) {p : Addr} {xs : List V} (h : SqL K H p xs) : SqL K H1 p xs := by
  rcases h with (h | ⟨o, h⟩) | h
  · exact .inl (.inl (Gx.at a (by simp) h fun _ z => by cases z))
  · exact .inl (.inr ⟨o, Gx.at a (by simp) h fun _ z => by cases z⟩)
  · exact .inr h
theorem Gr.seqL (a : Gr H H1) {p : Addr} {xs : List V} (h : SqL K H p xs) : SqL K H1 p xs := Gx.seqL a h
/-! tables -/
def TT (T : List Addr) (H : Hp) : Prop := ∀ P ∈ T, GxR.TabG H P
theorem Gx.tab {P : Addr} (a : Gx S H H1) (hP : P ∉ S) (h : GxR.TabG H P) : GxR.TabG H1 P := by
  obtain ⟨ps, e, k⟩ := h
  rcases a P _ hP e with z | ⟨qs, qs', z, z', k'⟩
  · exact ⟨ps, z, k⟩
  · cases z
    exact ⟨qs', z', k' k⟩
theorem Gx.ttS {T : List Addr} (a : Gx S H H1) (hS : LS S H) (h : TT T H) : TT T H1 := fun P hP => a.tab (fun z => by
  obtain ⟨xs, e⟩ := hS P z
  obtain ⟨ps, e', _⟩ := h P hP
  rw [e] at e'
  cases e') (h P hP)
theorem Gx.tt {T : List Addr} (a : Gx [] H H1) (h : TT T H) : TT T H1 := Gx.ttS a .nil h
theorem Gr.tt {T : List Addr} (a : Gr H H1) (h : TT T H) : TT T H1 := Gx.ttS a .nil h
theorem Gx.tabbed {P : Addr} (h : GxR.TabG H P) (t : GxR.Tabbed P H H1) : Gx S H H1 := fun b o hb e => by
  by_cases q : b = P
  · subst q
    obtain ⟨ps, e', k⟩ := h
    obtain ⟨⟨ps', e'', k'⟩, _⟩ := t
    rw [e] at e'
    cases e'
    exact .inr ⟨ps, ps', rfl, e'', fun _ => k'⟩
  · exact .inl (by rw [t.2 b q]; exact e)
theorem Gx.ls {S' : List Addr} (a : Gx S H H1) (h : LS S' H) (hd : ∀ b ∈ S', b ∉ S) : LS S' H1 := fun b hb => by
  obtain ⟨xs, e⟩ := h b hb
  exact ⟨xs, a.at (hd b hb) e fun _ z => by cases z⟩

/-! ### data: ints and tuples (None, bools, texts too), no lists -/
inductive DT (K : PySem.W.Frag) (H : Hp) : V → PyData → Prop
  | non : DT K H .non .none
  | bl (b : Bool) : DT K H (.bl b) (.bool b)
  | int (i : Int) : DT K H (.int i) (.int i)
  | str (x : Str) : DT K H (.str x) (.str x)
  | tup {a : Addr} {xs : List V} {ds : List PyData} : H a = some (.tup xs) → (hl : xs.length = ds.length) → (∀ (i : Nat) v d, xs[i]? = some v → ds[i]? = some d → DT K H v d) → DT K H (.ref a) (.tuple ds)
def DTs (K : PySem.W.Frag) (H : Hp) (vs : List V) (ds : List PyData) : Prop := vs.length = ds.length ∧ ∀ (i : Nat) v d, vs[i]? = some v → ds[i]? = some d → DT K H v d
theorem DT.mk {a : Addr} {xs : List V} {ds : List PyData} (h : H a = some (.tup xs)) (q : DTs K H xs ds) : DT K H (.ref a) (.tuple ds) := .tup h q.1 q.2
theorem DT.int_inv {v : V} {n : Int} (h : DT K H v (.int n)) : v = .int n := by
  cases h
  rfl
theorem DT.tup_invS {v : V} {ds : List PyData} (h : DT K H v (.tuple ds)) : ∃ a xs, v = .ref a ∧ H a = some (.tup xs) ∧ DTs K H xs ds := by
  cases h with
  | tup h1 h2 h3 => exact ⟨_, _, rfl, h1, h2, h3⟩
theorem DT.tup_inv {v : V} {ds : List PyData} (h : DT K H v (.tuple ds)) : ∃ a xs, v = .ref a ∧ SqT K H a xs ∧ DTs K H xs ds :=
  let ⟨a, xs, e, h1, h2⟩ := h.tup_invS
  ⟨a, xs, e, .inl (.inl h1), h2⟩
theorem Gx.tupS (a : Gx S H H1) (hS : LS S H) {p : Addr} {xs : List V} (h : H p = some (.tup xs)) : H1 p = some (.tup xs) := by
  refine a.at (fun z => ?_) h fun _ z => by cases z
  obtain ⟨ys, e⟩ := hS p z
  rw [e] at h
  cases h
theorem DT.gx (a : Gx S H H1) (hS : LS S H) {v : V} {d : PyData} (h : DT K H v d) : DT K H1 v d := by
  induction h with
  | non => exact .non
  | bl b => exact .bl b
  | int i => exact .int i
  | str x => exact .str x
  | tup h1 h2 _ ih => exact .tup (Gx.tupS a hS h1) h2 ih
theorem DT.gr (a : Gr H H1) {v : V} {d : PyData} (h : DT K H v d) : DT K H1 v d := DT.gx a .nil h
theorem DTs.gx (a : Gx S H H1) (hS : LS S H) {vs : List V} {ds : List PyData} (h : DTs K H vs ds) : DTs K H1 vs ds := ⟨h.1, fun i v d e e' => (h.2 i v d e e').gx a hS⟩
theorem DTs.gr (a : Gr H H1) {vs : List V} {ds : List PyData} (h : DTs K H vs ds) : DTs K H1 vs ds := h.gx a .nil
theorem DTs.nil : DTs K H [] [] := ⟨rfl, fun i v d e => by simp at e⟩
theorem DTs.cons {v : V} {d : PyData} {vs : List V} {ds : List PyData} (h : DT K H v d) (q : DTs K H vs ds) : DTs K H (v :: vs) (d :: ds) := by
  refine ⟨by rw [List.length_cons, List.length_cons, q.1], fun i w e h1 h2 => ?_⟩
  cases i with
  | zero =>
    cases h1
    cases h2
    exact h
  | succ i => exact q.2 i w e h1 h2
theorem DTs.cons_inv {d : PyData} {vs : List V} {ds : List PyData} (q : DTs K H vs (d :: ds)) : ∃ v vs', vs = v :: vs' ∧ DT K H v d ∧ DTs K H vs' ds := by
  cases vs with
  | nil => cases q.1
  | cons v vs' => exact ⟨v, vs', rfl, q.2 0 v d rfl rfl, by have := q.1; simp at this; exact this, fun i w e h1 h2 => q.2 (i + 1) w e h1 h2⟩
theorem DTs.nil_inv {vs : List V} (q : DTs K H vs []) : vs = [] := List.length_eq_zero_iff.mp q.1
theorem DTs.one {v : V} {d : PyData} (h : DT K H v d) : DTs K H [v] [d] := .cons h .nil
theorem DTs.app {vs ws : List V} {ds es : List PyData} (h : DTs K H vs ds) (q : DTs K H ws es) : DTs K H (vs ++ ws) (ds ++ es) := by
  refine ⟨by rw [List.length_append, List.length_append, h.1, q.1], fun i w e h1 h2 => ?_⟩
  by_cases hi : i < vs.length
  · rw [List.getElem?_append_left hi] at h1
    rw [List.getElem?_append_left (by rw [← h.1]; exact hi)] at h2
    exact h.2 i w e h1 h2
  · rw [List.getElem?_append_right (by omega)] at h1
    rw [List.getElem?_append_right (by rw [← h.1]; omega), ← h.1] at h2
    exact q.2 _ w e h1 h2
theorem DTs.at {vs : List V} {ds : List PyData} (h : DTs K H vs ds) {i : Nat} {d : PyData} (e : ds[i]? = some d) : ∃ v, vs[i]? = some v ∧ DT K H v d := by
  have hi : i < vs.length := by rw [h.1]; exact (List.getElem?_eq_some_iff.mp e).1
  exact ⟨vs[i], List.getElem?_eq_getElem hi, h.2 i _ d (List.getElem?_eq_getElem hi) e⟩
theorem DTs.at' {vs : List V} {ds : List PyData} (h : DTs K H vs ds) {i : Nat} {v : V} (e : vs[i]? = some v) : ∃ d, ds[i]? = some d ∧ DT K H v d := by
  have hi : i < ds.length := by rw [← h.1]; exact (List.getElem?_eq_some_iff.mp e).1
  exact ⟨ds[i], List.getElem?_eq_getElem hi, h.2 i v _ e (List.getElem?_eq_getElem hi)⟩
theorem DTs.ints {vs : List V} {ns : List Int} (h : DTs K H vs (ns.map PyData.int)) : vs = ns.map V.int := by
  induction ns generalizing vs with
  | nil => exact h.nil_inv
  | cons n ns ih =>
    obtain ⟨v, vs', rfl, h1, h2⟩ := h.cons_inv
    rw [h1.int_inv, ih h2]
    rfl
theorem DTs.of_ints (ns : List Int) : DTs K H (ns.map V.int) (ns.map PyData.int) := by
  induction ns with
  | nil => exact .nil
  | cons n ns ih => exact .cons (.int n) ih
/-- to the library's data -/
theorem DT.dp {v : V} {d : PyData} (h : DT K H v d) : Dp K H v d := by
  induction h with
  | non => exact .non
  | bl b => exact .bl b
  | int i => exact .int i
  | str x => exact .str x
  | @tup a xs ds h1 h2 h5 ih =>
    refine .tup (.inl (.inl h1)) ?_
    clear h1 h5
    induction ds generalizing xs with
    | nil =>
      have := List.length_eq_zero_iff.mp h2
      subst this
      exact .nil
    | cons d ds ihd =>
      cases xs with
      | nil => cases h2
      | cons v vs => exact .cons (ih 0 v d rfl rfl) (ihd (by simpa using h2) (fun i w e h3 h4 => ih (i + 1) w e h3 h4))
/-- a row: a tuple of ints -/
def rowD (ns : List Int) : PyData := .tuple (ns.map PyData.int)
def relD (ar : Int) (rows : List (List Int)) : PyData := .tuple [.int ar, .tuple (rows.map rowD)]
theorem DT.row_inv {v : V} {ns : List Int} (h : DT K H v (rowD ns)) : ∃ a, v = .ref a ∧ SqT K H a (ns.map V.int) := by
  obtain ⟨a, xs, e, h1, h2⟩ := h.tup_inv
  have := h2.ints
  subst this
  exact ⟨a, e, h1⟩
theorem DT.row_invS {v : V} {ns : List Int} (h : DT K H v (rowD ns)) : ∃ a, v = .ref a ∧ H a = some (.tup (ns.map V.int)) := by
  obtain ⟨a, xs, e, h1, h2⟩ := h.tup_invS
  have := h2.ints
  subst this
  exact ⟨a, e, h1⟩
theorem DT.row {a : Addr} {ns : List Int} (h : H a = some (.tup (ns.map V.int))) : DT K H (.ref a) (rowD ns) := .mk h (.of_ints ns)
theorem DT.rel_inv {v : V} {ar : Int} {rows : List (List Int)} (h : DT K H v (relD ar rows)) : ∃ a b xs, v = .ref a ∧ SqT K H a [.int ar, .ref b] ∧ SqT K H b xs ∧ DTs K H xs (rows.map rowD) := by
  obtain ⟨a, xs, e, h1, h2⟩ := h.tup_inv
  obtain ⟨v1, r1, rfl, h3, h4⟩ := h2.cons_inv
  obtain ⟨v2, r2, rfl, h5, h6⟩ := h4.cons_inv
  have := h6.nil_inv
  subst this
  obtain ⟨b, ys, rfl, h7, h8⟩ := h5.tup_inv
  rw [h3.int_inv] at h1
  exact ⟨a, b, ys, e, h1, h7, h8⟩
theorem DT.rel {a b : Addr} {xs : List V} {ar : Int} {rows : List (List Int)} (h : H a = some (.tup [.int ar, .ref b])) (h1 : H b = some (.tup xs)) (h2 : DTs K H xs (rows.map rowD)) : DT K H (.ref a) (relD ar rows) :=
  .mk h (.cons (.int ar) (.one (.mk h1 h2)))

/-! ### a def of the text whose code object is known -/
structure FunC (K : PySem.W.Frag) (x : Str) (st : Stmt) (f : Addr) (fd : FuncData) (c : Addr) : Prop where
  ex : ∃ (oc : Value) (od : Option Addr) (kV doc pm : Value) (an : Option Addr) (ct : Value) (osl : Array (Option Value)),
    fd = PySem.W.fnOf x x (defArgs st) (defBody st) (defScope st) .none kV doc pm an (.ref c) ct ∧ K.lookup f = some ⟨oc, od, .func fd, osl⟩ ∧ PySem.W.codeIn K (.ref c) x = true
  kp : PySem.W.keepIn K (.ref f) = true
section
variable {P : Program} {w : World} {mg : Str → Option Value} {base : Heap}
theorem FunC.ok {x : Str} {st : Stmt} {f c : Addr} {fd : FuncData} {N ps : List Str} {k : Nat} {sp : Sp} (F : FunC K x st f fd c) (S : FnScope N ps (defScope st)) (len : ∀ vs H Q E, sp vs H Q E → vs.length = ps.length)
    (hbody : ∀ (A : Around) (outer : List Env) (s : Shared) (H : Hp) (vs : List V) (Q : VK) (E : XK), Room k (A.deeper (envOfC x (defScope st) s.heap.objs.size f (.ref c))) → sp vs H Q E →
      ∃ t, PSs (cxOf CX0 P w K mg base N x (defScope st) f (.ref c) A outer s H E).nox (defBody st) t ∧ t { nx := fun _ H' => Q .non H', rt := Q } (start N vs) H) : FnOk P w K mg base CX0 (k + 1) f fd ps sp := by
  obtain ⟨oc, od, kV, doc, pm, an, ct, osl, rfl, lk, hcd⟩ := F.ex
  refine fn_of lk hcd S len fun A outer s H vs Q E hr hsp => ?_
  obtain ⟨t, h, q⟩ := hbody A outer s H vs Q E hr hsp
  exact ⟨t, h.nox, q⟩
theorem FunC.binds {x : Str} {st : Stmt} {f c : Addr} {fd : FuncData} {ps : List Str} (F : FunC K x st f fd c)
    (h : ∀ (kV doc pm : Value) (an : Option Addr) (cdv ct : Value) (us : List Value), us.length = ps.length → bindArgs (PySem.W.fnOf x x (defArgs st) (defBody st) (defScope st) .none kV doc pm an cdv ct) ⟨us, []⟩ = pure (ps.zip us)) : Binds K fd ps [] := by
  obtain ⟨oc, od, kV, doc, pm, an, ct, osl, rfl, lk, hcd⟩ := F.ex
  exact .all (h kV doc pm an (.ref c) ct)
end
/-- a def of the module: where it stands -/
structure Dfn (K : PySem.W.Frag) (mg : Str → Option Value) (x : Str) (st : Stmt) (ps : List Str) where
  f : Addr
  fd : FuncData
  c : Addr
  F : FunC K x st f fd c
  b : Binds K fd ps []
  g : mg x = some (.ref f)
/-- .. that holds generator expressions: its table -/
structure DfnG (K : PySem.W.Frag) (mg : Str → Option Value) (base : Heap) (x : Str) (st : Stmt) (ps : List Str) extends Dfn K mg x st ps where
  P : Addr
  TB : LamX.TabB base mg c P

/-! the rules that speak of the written part, it given (within comprehensions the context's own is not to be named) -/
section
variable {X : Cx}
theorem op_ltTK (K : PySem.W.Frag) (hu : X.A.units < cLine) (hK : X.K = K := by rfl) : OpR X (compareOp .Lt) (rLtT K) := hK ▸ op_ltT hu
theorem ix_tupK (K : PySem.W.Frag) (hK : X.K = K := by rfl) : IxR X (rIxT K) := hK ▸ ix_tup
theorem ix_listK (K : PySem.W.Frag) (hK : X.K = K := by rfl) : IxR X (rIxL K) := hK ▸ ix_list
theorem pi_tupK (K : PySem.W.Frag) {tg l : Expr} {tl : TE} (hl : PE X l tl) (hK : X.K = K := by rfl) : PI X tg l (iTup K tl) := hK ▸ pi_tup hl
theorem pi_listK (K : PySem.W.Frag) {tg l : Expr} {tl : TE} (hl : PE X l tl) (hK : X.K = K := by rfl) : PI X tg l (iList K tl) := hK ▸ pi_list hl
theorem op_catAK (K : PySem.W.Frag) (hK : X.K = K := by rfl) : OpR X (binaryOp .Add) (rCatA K) := hK ▸ op_catA
def rTupleOf (K : PySem.W.Frag) : List V → Hp → VK → Prop := fun xs H Q => ∃ p ys, xs = [.ref p] ∧ ((SqL K H p ys ∧ ∀ l, H l = none → Q (.ref l) (upd H l (.tup ys))) ∨ (SqT K H p ys ∧ Q (.ref p) H))
theorem call_tuple_ofK (K : PySem.W.Frag) (hK : X.K = K := by rfl) : CallR X (.type "tuple") (rTupleOf K) := hK ▸ call_tuple_of
def rLenSeq (K : PySem.W.Frag) : List V → Hp → VK → Prop := fun xs H Q => ∃ p ys, xs = [.ref p] ∧ (SqL K H p ys ∨ SqT K H p ys) ∧ Q (.int ys.length) H
theorem call_len_seqK (K : PySem.W.Frag) (hK : X.K = K := by rfl) : CallR X (.builtin "len") (rLenSeq K) := hK ▸ call_len_seq
end

/-! a comprehension over zip of two tuples -/
theorem lc_zipT {K : PySem.W.Frag} {a b : Addr} {xs ys : List V} {g : TG} {tt : L2.TT} {te : TE} {vs : List Nat} {σ : L2.St} {H1 : Hp} {D : Addr} {Qd : Hp → Prop} (n : Nat) (hx : n ≤ xs.length) (hy : n ≤ ys.length) (hn : xs.length ≤ n ∨ ys.length ≤ n) (Pv : Nat → Hp → Prop) (h0 : Pv 0 (upd H1 D (.lst []))) (hl : ∀ i H, i ≤ n → Pv i H → SqT K H a xs ∧ SqT K H b ys)
    (hs : ∀ (i : Nat) (x y : V) (T : Addr) (H : Hp), xs[i]? = some x → ys[i]? = some y → Pv i H → H T = none → g (.ref T) (wipe σ vs) (upd H T (.tup [x, y])) fun σ2 H2 => wipe σ2 vs = wipe σ vs ∧ tt σ2 H2 fun b H3 =>
      if b = true then te σ2 H3 fun y H4 => ∃ acc, H4 D = some (.lst acc) ∧ acc.length < sizeLine ∧ Pv (i + 1) (upd H4 D (.lst (acc ++ [y]))) else Pv (i + 1) H3) (hd : ∀ H, Pv n H → Qd H) :
    ∃ W : Nat → Nat → Hp → Prop, (∃ m, W 0 m (upd H1 D (.lst []))) ∧ ∀ i m H, W i m H →
      ((RZ.ItzT K a b).stop i H ∧ Qd H) ∨ ((RZ.ItzT K a b).go i H ∧ ∃ Nx : Hp → Prop, (∀ H', Nx H' → ∃ m', m' < m ∧ W (i + 1) m' H') ∧ ∀ x H', (RZ.ItzT K a b).yld i H x H' → g x (wipe σ vs) H' fun σ2 H2 => wipe σ2 vs = wipe σ vs ∧ tt σ2 H2 fun b H3 =>
        if b = true then te σ2 H3 fun y H4 => ∃ acc, H4 D = some (.lst acc) ∧ acc.length < sizeLine ∧ Nx (upd H4 D (.lst (acc ++ [y]))) else Nx H3) := by
  refine ⟨fun i m H => m = n - i ∧ i ≤ n ∧ Pv i H, ⟨n, by simp, Nat.zero_le _, h0⟩, ?_⟩
  rintro i m H ⟨rfl, hi, p⟩
  obtain ⟨q1, q2⟩ := hl i H hi p
  by_cases hlt : i < n
  · have e1 : xs[i]? = some (xs[i]'(by omega)) := List.getElem?_eq_getElem _
    have e2 : ys[i]? = some (ys[i]'(by omega)) := List.getElem?_eq_getElem _
    refine .inr ⟨⟨xs, ys, _, _, q1, q2, e1, e2⟩, Pv (i + 1), fun H' p' => ⟨n - (i + 1), by omega, rfl, hlt, p'⟩, fun v H' y => ?_⟩
    obtain ⟨T, x1, y1, rfl, hT, rfl, f1, f2⟩ := y
    exact hs i x1 y1 T H (f1 xs q1) (f2 ys q2) p hT
  · have e : i = n := by omega
    subst e
    exact .inl ⟨⟨xs, ys, q1, q2, hn⟩, hd H p⟩
theorem cut1 (xs : List V) : cutV xs (some 1) none = xs.drop 1 := by
  unfold cutV
  rw [show HT.sIx xs.length 0 (some 1) = min 1 xs.length from HT.sIx_nat xs.length 0 1, HT.sIx_none]
  cases xs with
  | nil => rfl
  | cons x r =>
    rw [show min 1 (x :: r).length = 1 by
      rw [List.length_cons]
      omega]
    show (List.take ((x :: r).length - 1) r) = r
    rw [List.length_cons, Nat.add_sub_cancel]
    exact List.take_length
theorem sixZero {n : Nat} (h : HT.sIx n 0 (some 1) = 0) : n = 0 := by
  rw [show HT.sIx n 0 (some 1) = min 1 n from HT.sIx_nat n 0 1] at h
  omega
theorem pair_at {α : Type} {R : α → α → Prop} : ∀ {l : List α}, l.Pairwise R → ∀ {i : Nat} {x y : α}, l[i]? = some x → l[i + 1]? = some y → R x y
  | [], _, _, _, _, h, _ => by simp at h
  | a :: l, h, 0, x, y, h1, h2 => by
    have e : a = x := Option.some.inj h1
    subst e
    exact (List.pairwise_cons.mp h).1 y (List.mem_of_getElem? (show l[0]? = some y from h2))
  | a :: l, h, i + 1, x, y, h1, h2 => pair_at (List.pairwise_cons.mp h).2 (i := i) h1 h2
theorem yesT {σ : L2.St} {H : Hp} {A B : Hp → Prop} (h : A H) : tYes σ H fun b H' => if b = true then A H' else B H' := iteT (A := A H) (B := B H) h
/-! a comprehension over a list, then over range(n) -/
theorem lc2_lr {K : PySem.W.Frag} {a : Addr} {xs : List V} {wi1 : TI} {te : TE} {p q : Nat} {σ : L2.St} {H1 : Hp} {D : Addr} {Qd : Hp → Prop} (n : Nat) (Pv : Nat → Nat → Hp → Prop) (h0 : Pv 0 0 (upd H1 D (.lst []))) (hl : ∀ i H, i ≤ xs.length → Pv i 0 H → SqL K H a xs)
    (hwi : ∀ x H R, R (Itr 0 n) H → wi1 ((wipe σ [p, q]).set p (some x)) H R) (hw1 : ∀ x, wipe ((wipe σ [p, q]).set p (some x)) [p, q] = wipe σ [p, q])
    (hw2 : ∀ x y, wipe ((wipe ((wipe σ [p, q]).set p (some x)) [q]).set q (some y)) [q] = wipe ((wipe σ [p, q]).set p (some x)) [q])
    (hs : ∀ (i j : Nat) x H, xs[i]? = some x → j < n → Pv i j H → te ((wipe ((wipe σ [p, q]).set p (some x)) [q]).set q (some (.int (0 + (j : Int))))) H fun y H4 => ∃ acc, H4 D = some (.lst acc) ∧ acc.length < sizeLine ∧ Pv i (j + 1) (upd H4 D (.lst (acc ++ [y]))))
    (hn : ∀ i H, i < xs.length → Pv i n H → Pv (i + 1) 0 H) (hd : ∀ H, Pv xs.length 0 H → Qd H) :
    ∃ W : Nat → Nat → Hp → Prop, (∃ m, W 0 m (upd H1 D (.lst []))) ∧ ∀ i m H, W i m H →
      ((Itl K a).stop i H ∧ Qd H) ∨ ((Itl K a).go i H ∧ ∃ Nx : Hp → Prop, (∀ H', Nx H' → ∃ m', m' < m ∧ W (i + 1) m' H') ∧ ∀ x H', (Itl K a).yld i H x H' → gName p x (wipe σ [p, q]) H' fun σ2 H2 => wipe σ2 [p, q] = wipe σ [p, q] ∧ tYes σ2 H2 fun b H3 =>
        if b = true then wi1 σ2 H3 fun J1 H4 => ∃ W1 : Nat → Nat → Hp → Prop, (∃ m, W1 0 m H4) ∧ ∀ j k H, W1 j k H →
          (J1.stop j H ∧ Nx H) ∨ (J1.go j H ∧ ∃ Nx1 : Hp → Prop, (∀ H', Nx1 H' → ∃ k', k' < k ∧ W1 (j + 1) k' H') ∧ ∀ x H', J1.yld j H x H' → gName q x (wipe σ2 [q]) H' fun σ3 H5 => wipe σ3 [q] = wipe σ2 [q] ∧ tYes σ3 H5 fun b H6 =>
            if b = true then te σ3 H6 fun y H7 => ∃ acc, H7 D = some (.lst acc) ∧ acc.length < sizeLine ∧ Nx1 (upd H7 D (.lst (acc ++ [y]))) else Nx1 H6)
        else Nx H3) := by
  refine ⟨fun i m H => m = xs.length - i ∧ i ≤ xs.length ∧ Pv i 0 H, ⟨xs.length, by simp, Nat.zero_le _, h0⟩, ?_⟩
  rintro i m H ⟨rfl, hi, pv⟩
  have qs := hl i H hi pv
  by_cases hlt : i < xs.length
  · refine .inr ⟨⟨xs, xs[i], qs, by simp [hlt]⟩, Pv (i + 1) 0, fun H' p' => ⟨xs.length - (i + 1), by omega, rfl, hlt, p'⟩, fun x H' y => ?_⟩
    obtain ⟨rfl, y⟩ := y
    have hx := y xs qs
    refine ⟨hw1 x, yesT (B := fun H3 => Pv (i + 1) 0 H3) (hwi x _ _ ⟨fun j k H => k = n - j ∧ j ≤ n ∧ Pv i j H, ⟨n, by simp, Nat.zero_le _, pv⟩, ?_⟩)⟩
    rintro j k H ⟨rfl, hj, pj⟩
    by_cases hjn : j < n
    · refine .inr ⟨hjn, Pv i (j + 1), fun H' p' => ⟨n - (j + 1), by omega, rfl, hjn, p'⟩, fun x1 H' y1 => ?_⟩
      obtain ⟨rfl, rfl⟩ := y1
      exact ⟨hw2 x _, yesT (B := fun H6 => Pv i (j + 1) H6) (hs i j x _ hx hjn pj)⟩
    · have e : j = n := by omega
      subst e
      exact .inl ⟨Nat.le_refl _, hn i H hlt pj⟩
  · have e : i = xs.length := by omega
    subst e
    exact .inl ⟨⟨xs, qs, Nat.le_refl _⟩, hd H pv⟩
/-! a list is written: data stay -/
theorem LS.one {p : Addr} {xs : List V} (h : H p = some (.lst xs)) : LS [p] H := fun b hb => by
  rw [List.mem_singleton.mp hb]
  exact ⟨xs, h⟩
theorem DT.wr {p : Addr} {xs : List V} {o : HO} (h : H p = some (.lst xs)) {v : V} {d : PyData} (q : DT K H v d) : DT K (upd H p o) v d := q.gx (S := [p]) (Gx.refl.wrS (List.mem_singleton.mpr rfl)) (.one h)
theorem DTs.wr {p : Addr} {xs : List V} {o : HO} (h : H p = some (.lst xs)) {vs : List V} {ds : List PyData} (q : DTs K H vs ds) : DTs K (upd H p o) vs ds := q.gx (S := [p]) (Gx.refl.wrS (List.mem_singleton.mpr rfl)) (.one h)
/-! a comprehension over a tuple, then over another -/
theorem lc2_tt {K : PySem.W.Frag} {a b : Addr} {xs ys : List V} {wi1 : TI} {te : TE} {p q : Nat} {σ : L2.St} {H1 : Hp} {D : Addr} {Qd : Hp → Prop} (Pv : Nat → Nat → Hp → Prop) (h0 : Pv 0 0 (upd H1 D (.lst []))) (hl : ∀ i j H, i ≤ xs.length → j ≤ ys.length → Pv i j H → SqT K H a xs ∧ SqT K H b ys)
    (hwi : ∀ (i : Nat) x H R, i < xs.length → Pv i 0 H → R (Itt K b) H → wi1 ((wipe σ [p, q]).set p (some x)) H R) (hw1 : ∀ x, wipe ((wipe σ [p, q]).set p (some x)) [p, q] = wipe σ [p, q])
    (hw2 : ∀ x y, wipe ((wipe ((wipe σ [p, q]).set p (some x)) [q]).set q (some y)) [q] = wipe ((wipe σ [p, q]).set p (some x)) [q])
    (hs : ∀ (i j : Nat) x y H, xs[i]? = some x → ys[j]? = some y → Pv i j H → te ((wipe ((wipe σ [p, q]).set p (some x)) [q]).set q (some y)) H fun y H4 => ∃ acc, H4 D = some (.lst acc) ∧ acc.length < sizeLine ∧ Pv i (j + 1) (upd H4 D (.lst (acc ++ [y]))))
    (hn : ∀ i H, i < xs.length → Pv i ys.length H → Pv (i + 1) 0 H) (hd : ∀ H, Pv xs.length 0 H → Qd H) :
    ∃ W : Nat → Nat → Hp → Prop, (∃ m, W 0 m (upd H1 D (.lst []))) ∧ ∀ i m H, W i m H →
      ((Itt K a).stop i H ∧ Qd H) ∨ ((Itt K a).go i H ∧ ∃ Nx : Hp → Prop, (∀ H', Nx H' → ∃ m', m' < m ∧ W (i + 1) m' H') ∧ ∀ x H', (Itt K a).yld i H x H' → gName p x (wipe σ [p, q]) H' fun σ2 H2 => wipe σ2 [p, q] = wipe σ [p, q] ∧ tYes σ2 H2 fun b H3 =>
        if b = true then wi1 σ2 H3 fun J1 H4 => ∃ W1 : Nat → Nat → Hp → Prop, (∃ m, W1 0 m H4) ∧ ∀ j k H, W1 j k H →
          (J1.stop j H ∧ Nx H) ∨ (J1.go j H ∧ ∃ Nx1 : Hp → Prop, (∀ H', Nx1 H' → ∃ k', k' < k ∧ W1 (j + 1) k' H') ∧ ∀ x H', J1.yld j H x H' → gName q x (wipe σ2 [q]) H' fun σ3 H5 => wipe σ3 [q] = wipe σ2 [q] ∧ tYes σ3 H5 fun b H6 =>
            if b = true then te σ3 H6 fun y H7 => ∃ acc, H7 D = some (.lst acc) ∧ acc.length < sizeLine ∧ Nx1 (upd H7 D (.lst (acc ++ [y]))) else Nx1 H6)
        else Nx H3) := by
  refine ⟨fun i m H => m = xs.length - i ∧ i ≤ xs.length ∧ Pv i 0 H, ⟨xs.length, by simp, Nat.zero_le _, h0⟩, ?_⟩
  rintro i m H ⟨rfl, hi, pv⟩
  have qs := (hl i 0 H hi (Nat.zero_le _) pv).1
  by_cases hlt : i < xs.length
  · refine .inr ⟨⟨xs, xs[i], qs, by simp [hlt]⟩, Pv (i + 1) 0, fun H' p' => ⟨xs.length - (i + 1), by omega, rfl, hlt, p'⟩, fun x H' y => ?_⟩
    obtain ⟨rfl, y⟩ := y
    have hx := y xs qs
    refine ⟨hw1 x, yesT (B := fun H3 => Pv (i + 1) 0 H3) (hwi i x _ _ hlt pv ⟨fun j k H => k = ys.length - j ∧ j ≤ ys.length ∧ Pv i j H, ⟨ys.length, by simp, Nat.zero_le _, pv⟩, ?_⟩)⟩
    rintro j k H ⟨rfl, hj, pj⟩
    have qy := (hl i j H hi hj pj).2
    by_cases hjn : j < ys.length
    · refine .inr ⟨⟨ys, ys[j], qy, by simp [hjn]⟩, Pv i (j + 1), fun H' p' => ⟨ys.length - (j + 1), by omega, rfl, hjn, p'⟩, fun x1 H' y1 => ?_⟩
      obtain ⟨rfl, y1⟩ := y1
      exact ⟨hw2 x _, yesT (B := fun H6 => Pv i (j + 1) H6) (hs i j x x1 _ hx (y1 ys qy) pj)⟩
    · have e : j = ys.length := by omega
      subst e
      exact .inl ⟨⟨ys, qy, Nat.le_refl _⟩, hn i H hlt pj⟩
  · have e : i = xs.length := by omega
    subst e
    exact .inl ⟨⟨xs, qs, Nat.le_refl _⟩, hd H pv⟩
end TK

set_option Elab.async false
set_option linter.all false
set_option maxRecDepth 100000
set_option maxHeartbeats 4000000
namespace K15
open PySem PySem.Spec PyProof.Rows L2 TK
def topS (i : Nat) : Stmt := PySem.Challenge.pw_templates_k15_whole_arc_refusals.main.body.getD i (.Pass ⟨0, 0, 0, 0⟩)
abbrev s_is_integer : Stmt := topS 6
abbrev n_is_integer : List Str := ["value", "low", "high"]
abbrev p_is_integer : List Str := ["value", "low", "high"]
theorem sc_is_integer : FnScope n_is_integer p_is_integer (defScope s_is_integer) := ⟨rfl, rfl, rfl, by decide +kernel, rfl, by decide +kernel, by decide +kernel⟩
abbrev s_is_tuple : Stmt := topS 7
abbrev n_is_tuple : List Str := ["value", "low", "high"]
abbrev p_is_tuple : List Str := ["value", "low", "high"]
theorem sc_is_tuple : FnScope n_is_tuple p_is_tuple (defScope s_is_tuple) := ⟨rfl, rfl, rfl, by decide +kernel, rfl, by decide +kernel, by decide +kernel⟩
abbrev s_is_row : Stmt := topS 8
abbrev n_is_row : List Str := ["size", "arity", "value"]
abbrev p_is_row : List Str := ["size", "arity", "value"]
theorem sc_is_row : FnScope n_is_row p_is_row (defScope s_is_row) := ⟨rfl, rfl, rfl, by decide +kernel, rfl, by decide +kernel, by decide +kernel⟩
abbrev s_is_relation : Stmt := topS 9
abbrev n_is_relation : List Str := ["size", "value", "arity", "rows", "row", "following"]
abbrev p_is_relation : List Str := ["size", "value"]
theorem sc_is_relation : FnScope n_is_relation p_is_relation (defScope s_is_relation) := ⟨rfl, rfl, rfl, by decide +kernel, rfl, by decide +kernel, by decide +kernel⟩
abbrev s_are_places : Stmt := topS 10
abbrev n_are_places : List Str := ["value", "low", "high", "bound"]
abbrev p_are_places : List Str := ["value", "low", "high", "bound"]
theorem sc_are_places : FnScope n_are_places p_are_places (defScope s_are_places) := ⟨rfl, rfl, rfl, by decide +kernel, rfl, by decide +kernel, by decide +kernel⟩
abbrev s_rows_left : Stmt := topS 12
abbrev n_rows_left : List Str := ["rows", "scope", "masks", "left", "variable", "row", "value", "mask"]
abbrev p_rows_left : List Str := ["rows", "scope", "masks"]
theorem sc_rows_left : FnScope n_rows_left p_rows_left (defScope s_rows_left) := ⟨rfl, rfl, rfl, by decide +kernel, rfl, by decide +kernel, by decide +kernel⟩
abbrev s_check_template : Stmt := topS 18
abbrev n_check_template : List Str := ["template", "size", "relations", "index", "relation"]
abbrev p_check_template : List Str := ["template"]
theorem sc_check_template : FnScope n_check_template p_check_template (defScope s_check_template) := ⟨rfl, rfl, rfl, by decide +kernel, rfl, by decide +kernel, by decide +kernel⟩
abbrev s_check_instance : Stmt := topS 19
abbrev n_check_instance : List Str := ["template", "instance", "variables", "constraints", "index", "constraint"]
abbrev p_check_instance : List Str := ["template", "instance"]
theorem sc_check_instance : FnScope n_check_instance p_check_instance (defScope s_check_instance) := ⟨rfl, rfl, rfl, by decide +kernel, rfl, by decide +kernel, by decide +kernel⟩
abbrev s_is_constraint : Stmt := topS 20
abbrev n_is_constraint : List Str := ["template", "variables", "value", "arity"]
abbrev p_is_constraint : List Str := ["template", "variables", "value"]
theorem sc_is_constraint : FnScope n_is_constraint p_is_constraint (defScope s_is_constraint) := ⟨rfl, rfl, rfl, by decide +kernel, rfl, by decide +kernel, by decide +kernel⟩
abbrev s_arc_refusal : Stmt := topS 22
abbrev n_arc_refusal : List Str := ["template", "instance", "narrowing"]
abbrev p_arc_refusal : List Str := ["template", "instance"]
theorem sc_arc_refusal : FnScope n_arc_refusal p_arc_refusal (defScope s_arc_refusal) := ⟨rfl, rfl, rfl, by decide +kernel, rfl, by decide +kernel, by decide +kernel⟩
abbrev s_shows_arc_refusal : Stmt := topS 23
abbrev n_shows_arc_refusal : List Str := ["template", "instance", "value", "masks", "step"]
abbrev p_shows_arc_refusal : List Str := ["template", "instance", "value"]
theorem sc_shows_arc_refusal : FnScope n_shows_arc_refusal p_shows_arc_refusal (defScope s_shows_arc_refusal) := ⟨rfl, rfl, rfl, by decide +kernel, rfl, by decide +kernel, by decide +kernel⟩
abbrev s_is_arc_step : Stmt := topS 24
abbrev n_is_arc_step : List Str := ["template", "instance", "step", "variable", "value", "index", "place"]
abbrev p_is_arc_step : List Str := ["template", "instance", "step"]
theorem sc_is_arc_step : FnScope n_is_arc_step p_is_arc_step (defScope s_is_arc_step) := ⟨rfl, rfl, rfl, by decide +kernel, rfl, by decide +kernel, by decide +kernel⟩
abbrev s_takes_value : Stmt := topS 25
abbrev n_takes_value : List Str := ["template", "instance", "masks", "step", "variable", "value", "number", "place", "index", "scope", "row"]
abbrev p_takes_value : List Str := ["template", "instance", "masks", "step"]
theorem sc_takes_value : FnScope n_takes_value p_takes_value (defScope s_takes_value) := ⟨rfl, rfl, rfl, by decide +kernel, rfl, by decide +kernel, by decide +kernel⟩
abbrev s_values_of : Stmt := topS 27
abbrev n_values_of : List Str := ["mask", "value"]
abbrev p_values_of : List Str := ["mask"]
theorem sc_values_of : FnScope n_values_of p_values_of (defScope s_values_of) := ⟨rfl, rfl, rfl, by decide +kernel, rfl, by decide +kernel, by decide +kernel⟩
abbrev s_arc_domains : Stmt := topS 29
abbrev n_arc_domains : List Str := ["template", "instance", "narrowing", "mask"]
abbrev p_arc_domains : List Str := ["template", "instance"]
theorem sc_arc_domains : FnScope n_arc_domains p_arc_domains (defScope s_arc_domains) := ⟨rfl, rfl, rfl, by decide +kernel, rfl, by decide +kernel, by decide +kernel⟩
abbrev s_law_taken : Stmt := topS 31
abbrev n_law_taken : List Str := ["row", "many", "found", "cell"]
abbrev p_law_taken : List Str := ["row", "many"]
theorem sc_law_taken : FnScope n_law_taken p_law_taken (defScope s_law_taken) := ⟨rfl, rfl, rfl, by decide +kernel, rfl, by decide +kernel, by decide +kernel⟩
abbrev s_law_pick : Stmt := topS 32
abbrev n_law_pick : List Str := ["row", "things"]
abbrev p_law_pick : List Str := ["row", "things"]
theorem sc_law_pick : FnScope n_law_pick p_law_pick (defScope s_law_pick) := ⟨rfl, rfl, rfl, by decide +kernel, rfl, by decide +kernel, by decide +kernel⟩
abbrev s_law_alike : Stmt := topS 33
abbrev n_law_alike : List Str := ["found", "due", "k"]
abbrev p_law_alike : List Str := ["found", "due"]
theorem sc_law_alike : FnScope n_law_alike p_law_alike (defScope s_law_alike) := ⟨rfl, rfl, rfl, by decide +kernel, rfl, by decide +kernel, by decide +kernel⟩
abbrev s_law_whole : Stmt := topS 34
abbrev n_law_whole : List Str := ["value", "least", "most"]
abbrev p_law_whole : List Str := ["value", "least", "most"]
theorem sc_law_whole : FnScope n_law_whole p_law_whole (defScope s_law_whole) := ⟨rfl, rfl, rfl, by decide +kernel, rfl, by decide +kernel, by decide +kernel⟩
abbrev s_law_rows : Stmt := topS 35
abbrev n_law_rows : List Str := ["size", "arity", "found", "turn", "more", "told", "value"]
abbrev p_law_rows : List Str := ["size", "arity"]
theorem sc_law_rows : FnScope n_law_rows p_law_rows (defScope s_law_rows) := ⟨rfl, rfl, rfl, by decide +kernel, rfl, by decide +kernel, by decide +kernel⟩
abbrev s_law_tuples : Stmt := topS 36
abbrev n_law_tuples : List Str := ["things", "many", "found", "turn", "more", "told", "thing"]
abbrev p_law_tuples : List Str := ["things", "many"]
theorem sc_law_tuples : FnScope n_law_tuples p_law_tuples (defScope s_law_tuples) := ⟨rfl, rfl, rfl, by decide +kernel, rfl, by decide +kernel, by decide +kernel⟩
abbrev s_law_value : Stmt := topS 37
abbrev n_law_value : List Str := ["size", "operation", "arguments", "at", "argument"]
abbrev p_law_value : List Str := ["size", "operation", "arguments"]
theorem sc_law_value : FnScope n_law_value p_law_value (defScope s_law_value) := ⟨rfl, rfl, rfl, by decide +kernel, rfl, by decide +kernel, by decide +kernel⟩
abbrev s_law_carried : Stmt := topS 38
abbrev n_law_carried : List Str := ["size", "operation", "rows", "at", "told"]
abbrev p_law_carried : List Str := ["size", "operation", "rows"]
theorem sc_law_carried : FnScope n_law_carried p_law_carried (defScope s_law_carried) := ⟨rfl, rfl, rfl, by decide +kernel, rfl, by decide +kernel, by decide +kernel⟩
abbrev s_law_closed : Stmt := topS 39
abbrev n_law_closed : List Str := ["size", "operation", "arity", "rows", "known", "fresh", "told", "turn", "later", "some", "made"]
abbrev p_law_closed : List Str := ["size", "operation", "arity", "rows"]
theorem sc_law_closed : FnScope n_law_closed p_law_closed (defScope s_law_closed) := ⟨rfl, rfl, rfl, by decide +kernel, rfl, by decide +kernel, by decide +kernel⟩
abbrev s_law_kept : Stmt := topS 40
abbrev n_law_kept : List Str := ["row", "size", "operation", "arity", "rows", "found"]
abbrev p_law_kept : List Str := ["row", "size", "operation", "arity"]
theorem sc_law_kept : FnScope n_law_kept p_law_kept (defScope s_law_kept) := ⟨rfl, rfl, rfl, by decide +kernel, rfl, by decide +kernel, by decide +kernel⟩
abbrev s_law_named : Stmt := topS 41
abbrev n_law_named : List Str := ["size", "found", "told", "three"]
abbrev p_law_named : List Str := ["size"]
theorem sc_law_named : FnScope n_law_named p_law_named (defScope s_law_named) := ⟨rfl, rfl, rfl, by decide +kernel, rfl, by decide +kernel, by decide +kernel⟩
abbrev s_law_some_rows : Stmt := topS 42
abbrev n_law_some_rows : List Str := ["row", "size", "arity", "most", "every", "found", "turn", "told"]
abbrev p_law_some_rows : List Str := ["row", "size", "arity", "most"]
theorem sc_law_some_rows : FnScope n_law_some_rows p_law_some_rows (defScope s_law_some_rows) := ⟨rfl, rfl, rfl, by decide +kernel, rfl, by decide +kernel, by decide +kernel⟩
abbrev s_law_relation : Stmt := topS 43
abbrev n_law_relation : List Str := ["row", "size", "arity", "most", "rows"]
abbrev p_law_relation : List Str := ["row", "size", "arity", "most"]
theorem sc_law_relation : FnScope n_law_relation p_law_relation (defScope s_law_relation) := ⟨rfl, rfl, rfl, by decide +kernel, rfl, by decide +kernel, by decide +kernel⟩
abbrev s_law_template : Stmt := topS 44
abbrev n_law_template : List Str := ["row", "size", "many", "arity", "most", "found", "closed", "turn", "places"]
abbrev p_law_template : List Str := ["row", "size", "many", "arity", "most"]
theorem sc_law_template : FnScope n_law_template p_law_template (defScope s_law_template) := ⟨rfl, rfl, rfl, by decide +kernel, rfl, by decide +kernel, by decide +kernel⟩
abbrev s_law_instance : Stmt := topS 45
abbrev n_law_instance : List Str := ["row", "template", "variables", "most", "found", "turn", "which", "arity", "place"]
abbrev p_law_instance : List Str := ["row", "template", "variables", "most"]
theorem sc_law_instance : FnScope n_law_instance p_law_instance (defScope s_law_instance) := ⟨rfl, rfl, rfl, by decide +kernel, rfl, by decide +kernel, by decide +kernel⟩
abbrev s_law_taken_away : Stmt := topS 46
abbrev n_law_taken_away : List Str := ["template", "instance", "steps", "left", "name", "value", "index", "place", "which", "scope", "told", "at", "other"]
abbrev p_law_taken_away : List Str := ["template", "instance", "steps"]
theorem sc_law_taken_away : FnScope n_law_taken_away p_law_taken_away (defScope s_law_taken_away) := ⟨rfl, rfl, rfl, by decide +kernel, rfl, by decide +kernel, by decide +kernel⟩
abbrev s_law : Stmt := topS 47
abbrev n_law : List Str := ["script", "row", "size", "template", "variables", "told", "instance", "found", "step", "at", "bent", "due", "steps", "turn", "index", "place", "odd", "value"]
abbrev p_law : List Str := ["script"]
theorem sc_law : FnScope n_law p_law (defScope s_law) := ⟨rfl, rfl, rfl, by decide +kernel, rfl, by decide +kernel, by decide +kernel⟩
abbrev s_Narrowing_init : Stmt := inClass (topS 13) 0
abbrev n_Narrowing_init : List Str := ["self", "template", "instance", "_", "scope", "index"]
abbrev p_Narrowing_init : List Str := ["self", "template", "instance"]
theorem sc_Narrowing_init : FnScope n_Narrowing_init p_Narrowing_init (defScope s_Narrowing_init) := ⟨rfl, rfl, rfl, by decide +kernel, rfl, by decide +kernel, by decide +kernel⟩
abbrev s_Narrowing_run : Stmt := inClass (topS 13) 1
abbrev n_Narrowing_run : List Str := ["self", "touching", "_", "index", "scope", "variable", "waiting", "changed"]
abbrev p_Narrowing_run : List Str := ["self"]
theorem sc_Narrowing_run : FnScope n_Narrowing_run p_Narrowing_run (defScope s_Narrowing_run) := ⟨rfl, rfl, rfl, by decide +kernel, rfl, by decide +kernel, by decide +kernel⟩
abbrev s_Narrowing_follow : Stmt := inClass (topS 13) 2
abbrev n_Narrowing_follow : List Str := ["self", "index", "changed", "scope", "place", "variable", "held", "row", "value"]
abbrev p_Narrowing_follow : List Str := ["self", "index", "changed"]
theorem sc_Narrowing_follow : FnScope n_Narrowing_follow p_Narrowing_follow (defScope s_Narrowing_follow) := ⟨rfl, rfl, rfl, by decide +kernel, rfl, by decide +kernel, by decide +kernel⟩
/-- the class as the top has made it -/
structure TNarrowing (K : PySem.W.Frag) (mg : Str → Option Value) where
  C : Addr
  g : mg "Narrowing" = some (.ref C)
  cl : Cls K C
  f_init : Addr
  fd_init : FuncData
  F_init : Fun K "__init__" "Narrowing.__init__" s_Narrowing_init f_init fd_init
  b_init : Binds K fd_init p_Narrowing_init []
  make : Mk K C f_init
  f_run : Addr
  fd_run : FuncData
  F_run : Fun K "run" "Narrowing.run" s_Narrowing_run f_run fd_run
  b_run : Binds K fd_run p_Narrowing_run []
  h_run : Meth K C "run" f_run
  f_follow : Addr
  fd_follow : FuncData
  F_follow : Fun K "_follow" "Narrowing._follow" s_Narrowing_follow f_follow fd_follow
  b_follow : Binds K fd_follow p_Narrowing_follow []
  h_follow : Meth K C "_follow" f_follow
  n_scopes : NoAttr K C "scopes"
  n_rows : NoAttr K C "rows"
  n_masks : NoAttr K C "masks"
  n_steps : NoAttr K C "steps"
  n_failed : NoAttr K C "failed"
/-- what the top has written: where each def stands, what is still a built-in -/
structure Txt (K : PySem.W.Frag) (mg : Str → Option Value) (base : Heap) where
  is_integer : Dfn K mg "is_integer" s_is_integer p_is_integer
  is_tuple : Dfn K mg "is_tuple" s_is_tuple p_is_tuple
  is_row : DfnG K mg base "is_row" s_is_row p_is_row
  is_relation : DfnG K mg base "is_relation" s_is_relation p_is_relation
  are_places : DfnG K mg base "are_places" s_are_places p_are_places
  rows_left : Dfn K mg "rows_left" s_rows_left p_rows_left
  check_template : Dfn K mg "check_template" s_check_template p_check_template
  check_instance : Dfn K mg "check_instance" s_check_instance p_check_instance
  is_constraint : Dfn K mg "is_constraint" s_is_constraint p_is_constraint
  arc_refusal : Dfn K mg "arc_refusal" s_arc_refusal p_arc_refusal
  shows_arc_refusal : Dfn K mg "shows_arc_refusal" s_shows_arc_refusal p_shows_arc_refusal
  is_arc_step : Dfn K mg "_is_arc_step" s_is_arc_step p_is_arc_step
  takes_value : Dfn K mg "_takes_value" s_takes_value p_takes_value
  values_of : Dfn K mg "values_of" s_values_of p_values_of
  arc_domains : Dfn K mg "arc_domains" s_arc_domains p_arc_domains
  law_taken : Dfn K mg "_law_taken" s_law_taken p_law_taken
  law_pick : Dfn K mg "_law_pick" s_law_pick p_law_pick
  law_alike : Dfn K mg "_law_alike" s_law_alike p_law_alike
  law_whole : Dfn K mg "_law_whole" s_law_whole p_law_whole
  law_rows : Dfn K mg "_law_rows" s_law_rows p_law_rows
  law_tuples : Dfn K mg "_law_tuples" s_law_tuples p_law_tuples
  law_value : Dfn K mg "_law_value" s_law_value p_law_value
  law_carried : Dfn K mg "_law_carried" s_law_carried p_law_carried
  law_closed : Dfn K mg "_law_closed" s_law_closed p_law_closed
  law_kept : Dfn K mg "_law_kept" s_law_kept p_law_kept
  law_named : Dfn K mg "_law_named" s_law_named p_law_named
  law_some_rows : Dfn K mg "_law_some_rows" s_law_some_rows p_law_some_rows
  law_relation : Dfn K mg "_law_relation" s_law_relation p_law_relation
  law_template : Dfn K mg "_law_template" s_law_template p_law_template
  law_instance : Dfn K mg "_law_instance" s_law_instance p_law_instance
  law_taken_away : Dfn K mg "_law_taken_away" s_law_taken_away p_law_taken_away
  law : Dfn K mg "law" s_law p_law
  Narrowing : TNarrowing K mg
  c_MOST_PLACES : ∃ t, mg "MOST_PLACES" = some (.int 4 t)
  c_MOST_RELATIONS : ∃ t, mg "MOST_RELATIONS" = some (.int 6 t)
  c_MOST_VARIABLES : ∃ t, mg "MOST_VARIABLES" = some (.int 16 t)
  c_MOST_CONSTRAINTS : ∃ t, mg "MOST_CONSTRAINTS" = some (.int 200 t)
  b_all : mg "all" = none
  b_bool : mg "bool" = none
  b_enumerate : mg "enumerate" = none
  b_int : mg "int" = none
  b_isinstance : mg "isinstance" = none
  b_len : mg "len" = none
  b_list : mg "list" = none
  b_max : mg "max" = none
  b_min : mg "min" = none
  b_range : mg "range" = none
  b_sorted : mg "sorted" = none
  b_str : mg "str" = none
  b_tuple : mg "tuple" = none
  b_zip : mg "zip" = none
variable {P : Program} {w : World} {K : PySem.W.Frag} {mg : Str → Option Value} {base : Heap}
abbrev Txt.tabs (T : Txt K mg base) : List Addr := [T.is_row.P, T.is_relation.P, T.are_places.P]
end K15

set_option Elab.async false
set_option linter.all false
set_option maxRecDepth 100000
set_option maxHeartbeats 4000000
namespace K15
open PySem PySem.Spec PyProof.Rows L2 TK
variable {P : Program} {w : World} {K : PySem.W.Frag} {mg : Str → Option Value} {base : Heap}
theorem tyT {H : Hp} {a : Addr} {xs : List V} (h : SqT K H a xs) : TyX K H (.ref a) (.type "tuple") := by
  rcases h with (h | ⟨o, h⟩) | ⟨o, its, n, h1, h2, _⟩
  · exact .base (.tup h)
  · exact .fTuple h
  · exact .kTuple h1 h2
/-! is_integer -/
def sp_is_integer : Sp := fun vs H Q _ => ∃ v lo hi : Int, vs = [.int v, .int lo, .int hi] ∧ Q (.bl (decide (lo ≤ v ∧ v ≤ hi))) H
theorem ok_is_integer (T : Txt K mg base) : FnOk P w K mg base CX0 1 T.is_integer.f T.is_integer.fd p_is_integer sp_is_integer := by
  refine T.is_integer.F.ok sc_is_integer (fun vs H Q E h => ?_) (fun A outer s H vs Q E hr h => ?_)
  · obtain ⟨v, lo, hi, rfl, _⟩ := h
    rfl
  · obtain ⟨v, lo, hi, rfl, q⟩ := h
    refine ⟨_, pss_one (ps_ret (pe_and (pe_callB call_isi (by rfl) T.b_isinstance boot_isinstance (pa_cons (pv 0) (pa_cons (pe_bltn (v := .ty "int") (by rfl) T.b_int boot_int rfl) pa_nil)))
      (pe_and (pe_not (pe_callB call_isi (by rfl) T.b_isinstance boot_isinstance (pa_cons (pv 0) (pa_cons (pe_bltn (v := .ty "bool") (by rfl) T.b_bool boot_bool rfl) pa_nil))))
        (pe_one (pe_chain op_le op_le (pv 1) (pv 0) (pv 2)))))), ?_⟩
    refine ⟨.int v, rfl, .int v, .ty "int", _, _, true, rfl, .ty _, .base (.int v), kit_ty (by decide +kernel), true, rfl, iteT ?_⟩
    refine ⟨.int v, rfl, .int v, .ty "bool", _, _, false, rfl, .ty _, .base (.int v), kit_ty (by decide +kernel), false, rfl, true, rfl, iteT ?_⟩
    refine ⟨.int lo, rfl, .int v, rfl, lo, v, rfl, rfl, _, rfl, ?_⟩
    by_cases h1 : lo ≤ v
    · rw [if_pos (decide_eq_true h1)]
      refine ⟨.int hi, rfl, v, hi, rfl, rfl, ?_⟩
      have e : decide (lo ≤ v ∧ v ≤ hi) = decide (v ≤ hi) := by simp [h1]
      rw [e] at q
      exact q
    · rw [if_neg (by simp [h1])]
      have e : decide (lo ≤ v ∧ v ≤ hi) = false := by simp [h1]
      rw [e] at q
      exact q
/-! is_tuple -/
def sp_is_tuple (K : PySem.W.Frag) : Sp := fun vs H Q _ => ∃ (v : V) (ds : List PyData) (lo hi : Int), vs = [v, .int lo, .int hi] ∧ DT K H v (.tuple ds) ∧ Q (.bl (decide (lo ≤ (ds.length : Int) ∧ (ds.length : Int) ≤ hi))) H
theorem ok_is_tuple (T : Txt K mg base) : FnOk P w K mg base CX0 1 T.is_tuple.f T.is_tuple.fd p_is_tuple (sp_is_tuple K) := by
  refine T.is_tuple.F.ok sc_is_tuple (fun vs H Q E h => ?_) (fun A outer s H vs Q E hr h => ?_)
  · obtain ⟨v, ds, lo, hi, rfl, _⟩ := h
    rfl
  · obtain ⟨v, ds, lo, hi, rfl, hv, q⟩ := h
    obtain ⟨a, xs, rfl, hS, hD⟩ := hv.tup_inv
    refine ⟨_, pss_one (ps_ret (pe_and (pe_callB call_isi (by rfl) T.b_isinstance boot_isinstance (pa_cons (pv 0) (pa_cons (pe_bltn (v := .ty "tuple") (by rfl) T.b_tuple boot_tuple rfl) pa_nil)))
        (pe_one (pe_chain op_le op_le (pv 1) (pe_callB call_len_seq (by rfl) T.b_len PySem.boot_len (pa_cons (pv 0) pa_nil)) (pv 2))))), ?_⟩
    refine ⟨.ref a, rfl, .ref a, .ty "tuple", _, _, true, rfl, .ty _, tyT hS, kit_ty (by decide +kernel), true, rfl, iteT ?_⟩
    refine ⟨.int lo, rfl, .ref a, rfl, a, xs, rfl, .inr hS, lo, _, rfl, rfl, _, rfl, ?_⟩
    rw [hD.1]
    by_cases h1 : lo ≤ (ds.length : Int)
    · rw [if_pos (decide_eq_true h1)]
      refine ⟨.int hi, rfl, _, hi, rfl, rfl, ?_⟩
      have e : decide (lo ≤ (ds.length : Int) ∧ (ds.length : Int) ≤ hi) = decide ((ds.length : Int) ≤ hi) := by simp [h1]
      rw [e] at q
      exact q
    · rw [if_neg (by simp [h1])]
      have e : decide (lo ≤ (ds.length : Int) ∧ (ds.length : Int) ≤ hi) = false := by simp [h1]
      rw [e] at q
      exact q
/-! is_row -/
def sp_is_row (T : Txt K mg base) : Sp := fun vs H Q _ => ∃ (sz ar : Int) (v : V) (ns : List Int), vs = [.int sz, .int ar, v] ∧ DT K H v (rowD ns) ∧ TT T.tabs H ∧ (ns.length : Int) = ar ∧ (∀ x ∈ ns, 0 ≤ x ∧ x ≤ sz - 1) ∧ ∀ H', Gr H H' → Q (.bl true) H'
theorem ok_is_row (T : Txt K mg base) : FnOk P w K mg base CX0 4 T.is_row.f T.is_row.fd p_is_row (sp_is_row T) := by
  refine T.is_row.F.ok sc_is_row (fun vs H Q E h => ?_) (fun A outer s H vs Q E hr h => ?_)
  · obtain ⟨sz, ar, v, ns, rfl, _⟩ := h
    rfl
  · obtain ⟨sz, ar, v, ns, rfl, hv, hT, hl, hn, q⟩ := h
    obtain ⟨a, rfl, hS⟩ := hv.row_inv
    refine ⟨_, pss_one (ps_ret (pe_and (pe_call (ok_is_tuple T) (hr.mono (by decide)) (by rfl) T.is_tuple.g T.is_tuple.F.kp T.is_tuple.b .nil pass0 (pa_cons (pv 2) (pa_cons (pv 1) (pa_cons (pv 1) pa_nil))))
      (pe_one (GA.pe_all (k := 1) hr (by rfl) T.b_all T.is_row.TB rfl (GA.gNames_by (N := n_is_row) (M := ["size", "arity", "value", "entry"]) (sc := defScope s_is_row) (by decide +kernel)) (pi_tup (pv 2))
        (fun A sz Hz C code fp pn hrA => pe_call (ok_is_integer T) hrA (by rfl) T.is_integer.g T.is_integer.F.kp T.is_integer.b .nil pass0 (pa_cons (pv 3) (pa_cons pe_int (pa_cons (pe_op op_sub (pv 0) pe_int) pa_nil)))))))), ?_⟩
    refine ⟨.ref a, rfl, .int ar, rfl, .int ar, rfl, .ref a, _, ar, ar, rfl, hv, _, rfl, ?_⟩
    rw [List.length_map, hl, decide_eq_true ⟨Int.le_refl _, Int.le_refl _⟩]
    refine iteT ⟨.ref a, rfl, a, rfl, ⟨_, hS⟩, hT _ (by simp), fun H2 ht => ⟨ns.length, fun i H' => Gr H H', Gx.tabbed (hT _ (by simp)) ht, fun i H3 hi hw => ?_, fun H3 hw => ?_⟩⟩
    · have e : (ns.map V.int)[i]? = some (.int ns[i]) := by
        rw [List.getElem?_map, List.getElem?_eq_getElem hi]
        rfl
      refine ⟨⟨_, _, hw.seqT hS, e⟩, fun x H4 hy => ?_⟩
      obtain ⟨rfl, hx⟩ := hy
      have ex : x = .int ns[i] := Option.some.inj ((hx _ (hw.seqT hS)).symm.trans e)
      subst ex
      refine ⟨_, rfl, .int sz, rfl, sz, 1, rfl, rfl, ns[i], 0, sz - 1, rfl, _, rfl, fun _ => hw, fun hf => ?_⟩
      have := hn ns[i] (List.getElem_mem hi)
      rw [decide_eq_true this] at hf
      cases hf
    · exact ⟨⟨_, hw.seqT hS, by rw [List.length_map]; exact Nat.le_refl _⟩, q H3 hw⟩

/-! is_relation -/
def iZipK (K : PySem.W.Frag) (v u : V) (H1 : Hp) (R : It → Hp → Prop) : Prop := ∃ a b xs ys, [v, u] = [V.ref a, V.ref b] ∧ ((SqL K H1 a xs ∧ SqL K H1 b ys ∧ R (Itz K a b) H1) ∨ (SqT K H1 a xs ∧ SqT K H1 b ys ∧ R (RZ.ItzT K a b) H1))
/-- right rows, ascending, each once -/
structure RelOk (sz ar : Int) (rows : List (List Int)) : Prop where
  ar1 : 1 ≤ ar
  ar4 : ar ≤ 4
  len : ∀ r ∈ rows, (r.length : Int) = ar
  val : ∀ r ∈ rows, ∀ x ∈ r, 0 ≤ x ∧ x ≤ sz - 1
  asc : rows.Pairwise fun r q => HT.lexLt r q = true
  most : rows.length ≤ 1000
def sp_is_relation (T : Txt K mg base) : Sp := fun vs H Q _ => ∃ (sz ar : Int) (v : V) (rows : List (List Int)), vs = [.int sz, v] ∧ DT K H v (relD ar rows) ∧ TT T.tabs H ∧ RelOk sz ar rows ∧ ∀ H', Gr H H' → Q (.bl true) H'
theorem ok_is_relation (T : Txt K mg base) : FnOk P w K mg base CX0 7 T.is_relation.f T.is_relation.fd p_is_relation (sp_is_relation T) := by
  refine T.is_relation.F.ok sc_is_relation (fun vs H Q E h => ?_) (fun A outer s H vs Q E hr h => ?_)
  · obtain ⟨sz, ar, v, rows, rfl, _⟩ := h
    rfl
  · obtain ⟨sz, ar, v, rows, rfl, hv, hT, ok, q⟩ := h
    obtain ⟨tp, hMP⟩ := T.c_MOST_PLACES
    obtain ⟨a, b, xs, rfl, hS, hB, hD⟩ := hv.rel_inv
    have hx : xs.length = rows.length := by rw [hD.1, List.length_map]
    refine ⟨_, pss_cons (ps_if (pt_not (pt_val (pe_call (ok_is_tuple T) (hr.mono (by decide)) (by rfl) T.is_tuple.g T.is_tuple.F.kp T.is_tuple.b .nil pass0 (pa_cons (pv 1) (pa_cons pe_int (pa_cons pe_int pa_nil)))))) (pss_one ps_never) pss_nil)
      (pss_cons (ps_asg (pv 1) (pg_tup (by rfl) (pgs_cons (pg_name (i := 2) sc_is_relation.nd rfl (.inr rfl)) (pgs_cons (pg_name (i := 3) sc_is_relation.nd rfl (.inl rfl)) pgs_nil))))
      (pss_cons (ps_if (PW.pt (pw_or (pt_not (pt_val (pe_call (ok_is_integer T) (hr.mono (by decide)) (by rfl) T.is_integer.g T.is_integer.F.kp T.is_integer.b .nil pass0 (pa_cons (pv 2) (pa_cons pe_int (pa_cons (pe_glob (v := .int 4) rfl hMP ⟨_, rfl⟩) pa_nil))))))
          (pw_or1 (pt_not (pt_val (pe_callB call_isi (by rfl) T.b_isinstance boot_isinstance (pa_cons (pv 3) (pa_cons (pe_bltn (v := .ty "tuple") (by rfl) T.b_tuple boot_tuple rfl) pa_nil)))))))) (pss_one ps_never) pss_nil)
      (pss_cons (ps_if (pt_not (pt_val (GA.pe_all (k := 4) hr (by rfl) T.b_all T.is_relation.TB rfl (GA.gNames_by (N := n_is_relation) (M := ["size", "value", "arity", "rows", "-", "following", "row"]) (sc := defScope s_is_relation) (by decide +kernel)) (pi_tup (pv 3))
          (fun A sz Hz C code fp pn hrA => pe_call (ok_is_row T) hrA (by rfl) T.is_row.g T.is_row.F.kp T.is_row.b .nil pass0 (pa_cons (pv 0) (pa_cons (pv 2) (pa_cons (pv 6) pa_nil))))))) (pss_one ps_never) pss_nil)
      (pss_one (ps_ret (pe_callB (cr_all rfl) (by rfl) T.b_all boot_all (pa_cons (pe_lc (own := [("row", 4), ("following", 5)]) (g := gTup K 2 (gCons (gName 4) (gCons (gName 5) gNil))) (tt := tYes) rfl sc_is_relation.nd
          (RZ.pi_zipA (by rfl) T.b_zip (pa_cons (pv 3) (pa_cons (pe_slice sl_tupA (pv 3) (po_some pe_int) po_none) pa_nil)))
          (blkOk_by (N := n_is_relation) (sc := defScope s_is_relation) (by decide +kernel)) (fun _ _ _ _ _ => pg_tup (by rfl) (pgs_cons (pg_name (i := 4) sc_is_relation.nd rfl (Or.inl rfl)) (pgs_cons (pg_name (i := 5) sc_is_relation.nd rfl (Or.inl rfl)) pgs_nil)))
          (fun _ _ _ _ _ => pts_nil) (fun _ _ _ _ _ => pe_cmpR (op_ltTK K hr.units0) (pv 4) (pv 5) (nomark _))) pa_nil))))))), ?_⟩
    -- the kind of pair
    refine ⟨.ref a, rfl, .ref a, _, 2, 2, rfl, hv, _, rfl, ?_⟩
    refine iteF ?_
    -- arity, rows = value
    refine ⟨.ref a, rfl, a, _, rfl, hS, rfl, .int ar, [.ref b], rfl, .ref b, [], rfl, rfl, ?_⟩
    refine ⟨.int ar, rfl, ar, 1, 4, rfl, _, rfl, ?_⟩
    rw [decide_eq_true ⟨ok.ar1, ok.ar4⟩]
    refine iteF ?_
    refine ⟨.ref b, rfl, .ref b, .ty "tuple", _, _, true, rfl, .ty _, tyT hB, kit_ty (by decide +kernel), true, rfl, ?_⟩
    refine iteF ?_
    -- all rows are rows
    refine ⟨.ref b, rfl, b, rfl, ⟨_, hB⟩, hT _ (by simp), fun H2 ht => ⟨rows.length, fun i H' => Gr H H', Gx.tabbed (hT _ (by simp)) ht, fun i H3 hi hw => ?_, fun H3 hw => ?_⟩⟩
    · obtain ⟨vi, e, dvi⟩ := hD.at (i := i) (d := rowD rows[i]) (by rw [List.getElem?_map, List.getElem?_eq_getElem hi]; rfl)
      refine ⟨⟨_, _, hw.seqT hB, e⟩, fun x H4 hy => ?_⟩
      obtain ⟨rfl, hx⟩ := hy
      have ex : x = vi := Option.some.inj ((hx _ (hw.seqT hB)).symm.trans e)
      subst ex
      have hm := List.getElem_mem hi
      exact ⟨.int sz, rfl, .int ar, rfl, x, rfl, sz, ar, x, rows[i], rfl, dvi.gr hw, hw.tt hT, ok.len _ hm, ok.val _ hm, fun H' g => ⟨true, rfl, fun _ => hw.trans g, fun z => by cases z⟩⟩
    · refine ⟨⟨_, hw.seqT hB, by rw [hx]; exact Nat.le_refl _⟩, true, rfl, ?_⟩
      refine iteF ?_
      -- each row is less than the next one
      have key : ∀ (d : Addr) (Hd : Hp), Gr H Hd → SqT K Hd d (xs.drop 1) → iZipK K (.ref b) (.ref d) Hd (fun J H1 => ∀ D, H1 D = none → ∃ W : Nat → Nat → Hp → Prop, (∃ m, W 0 m (upd H1 D (.lst []))) ∧ ∀ i m H, W i m H →
          (J.stop i H ∧ ∃ (a : Addr) (bs : List Bool), [V.ref D] = [V.ref a] ∧ SqL K H a (bs.map V.bl) ∧ Q (.bl (bs.all id)) H) ∨ (J.go i H ∧ ∃ Nx : Hp → Prop, (∀ H', Nx H' → ∃ m', m' < m ∧ W (i + 1) m' H') ∧ ∀ x H', J.yld i H x H' → gTup K 2 (gCons (gName 4) (gCons (gName 5) gNil)) x (wipe [some (.int sz), some (.ref a), some (.int ar), some (.ref b), none, none] [4, 5]) H' fun σ2 H2 => wipe σ2 [4, 5] = wipe [some (.int sz), some (.ref a), some (.int ar), some (.ref b), none, none] [4, 5] ∧ tYes σ2 H2 fun b H3 =>
            if b = true then tOp (rLtT K) (tVar 4) (tVar 5) σ2 H3 fun y H4 => ∃ acc, H4 D = some (.lst acc) ∧ acc.length < sizeLine ∧ Nx (upd H4 D (.lst (acc ++ [y]))) else Nx H3)) := fun d Hd g hd => by
        refine ⟨b, d, xs, xs.drop 1, rfl, .inr ⟨g.seqT hB, hd, fun D hD0 => ?_⟩⟩
        have nD : H D = none := g.free hD0
        refine lc_zipT (rows.length - 1) (by omega) (by rw [List.length_drop]; omega) (.inr (by rw [List.length_drop]; omega)) (fun i H' => Gr Hd H' ∧ ∃ bs : List Bool, bs.length = i ∧ bs.all id = true ∧ H' D = some (.lst (bs.map V.bl)))
          ⟨Gx.new hD0, [], rfl, rfl, upd_same⟩ (fun i H' _ p => ⟨(g.trans p.1).seqT hB, p.1.seqT hd⟩) (fun i x y T H' e1 e2 p hT0 => ?_) (fun H' p => ?_)
        · obtain ⟨g1, bs, hl, hall, hb⟩ := p
          rw [List.getElem?_drop, Nat.add_comm] at e2
          obtain ⟨d1, f1, dv1⟩ := hD.at' e1
          obtain ⟨d2, f2, dv2⟩ := hD.at' e2
          rw [List.getElem?_map] at f1 f2
          obtain ⟨r1, h1, rfl⟩ := Option.map_eq_some_iff.mp f1
          obtain ⟨r2, h2, rfl⟩ := Option.map_eq_some_iff.mp f2
          have gT : Gr H (upd H' T (.tup [x, y])) := (g.trans g1).trans (Gx.new hT0)
          obtain ⟨a1, rfl, s1⟩ := (dv1.gr gT).row_inv
          obtain ⟨a2, rfl, s2⟩ := (dv2.gr gT).row_inv
          refine ⟨T, [.ref a1, .ref a2], rfl, .inl (.inl upd_same), rfl, .ref a1, [.ref a2], rfl, .ref a2, [], rfl, rfl, rfl, ?_⟩
          refine yesT ⟨.ref a1, rfl, .ref a2, rfl, a1, a2, r1, r2, rfl, rfl, s1, s2, bs.map V.bl, ?_, ?_, ?_⟩
          · rw [upd_ne (ne_of_none hb hT0)]
            exact hb
          · rw [List.length_map]
            exact small1000 (by have := ok.most; have := (List.getElem?_eq_some_iff.mp e1).1; omega)
          · have hlt : HT.lexLt r1 r2 = true := pair_at ok.asc h1 h2
            rw [hlt]
            exact ⟨(g1.trans (Gx.new hT0)).wr hD0, bs ++ [true], by rw [List.length_append, hl]; rfl, by rw [List.all_append, hall]; rfl, by rw [upd_same, List.map_append]; rfl⟩
        · obtain ⟨g1, bs, hl, hall, hb⟩ := p
          exact ⟨D, bs, rfl, .inl (.inl hb), by rw [hall]; exact q _ (g.trans g1)⟩
      refine ⟨.ref b, rfl, .ref b, rfl, 1, rfl, b, xs, rfl, hw.seqT hB, fun z => ?_, fun _ p np => ?_⟩
      · have e : xs = [] := List.length_eq_zero_iff.mp (sixZero z.1)
        refine key b H3 hw ?_
        have := hw.seqT hB
        rw [e] at this ⊢
        exact this
      · refine key p _ (hw.trans (Gx.new np)) ?_
        rw [← cut1]
        exact .inl (.inl upd_same)

end K15

set_option Elab.async false
set_option linter.all false
set_option maxRecDepth 100000
set_option maxHeartbeats 4000000
namespace K15
open PySem PySem.Spec PyProof.Rows L2 TK
variable {P : Program} {w : World} {K : PySem.W.Frag} {mg : Str → Option Value} {base : Heap}
/-! are_places -/
def sp_are_places (T : Txt K mg base) : Sp := fun vs H Q _ => ∃ (v : V) (ns : List Int) (lo hi bd : Int), vs = [v, .int lo, .int hi, .int bd] ∧ DT K H v (rowD ns) ∧ TT T.tabs H ∧ (lo ≤ (ns.length : Int) ∧ (ns.length : Int) ≤ hi) ∧ (∀ x ∈ ns, 0 ≤ x ∧ x ≤ bd - 1) ∧ ∀ H', Gr H H' → Q (.bl true) H'
theorem ok_are_places (T : Txt K mg base) : FnOk P w K mg base CX0 4 T.are_places.f T.are_places.fd p_are_places (sp_are_places T) := by
  refine T.are_places.F.ok sc_are_places (fun vs H Q E h => ?_) (fun A outer s H vs Q E hr h => ?_)
  · obtain ⟨v, ns, lo, hi, bd, rfl, _⟩ := h
    rfl
  · obtain ⟨v, ns, lo, hi, bd, rfl, hv, hT, hl, hn, q⟩ := h
    obtain ⟨a, rfl, hS⟩ := hv.row_inv
    refine ⟨_, pss_one (ps_ret (pe_and (pe_call (ok_is_tuple T) (hr.mono (by decide)) (by rfl) T.is_tuple.g T.is_tuple.F.kp T.is_tuple.b .nil pass0 (pa_cons (pv 0) (pa_cons (pv 1) (pa_cons (pv 2) pa_nil))))
      (pe_one (GA.pe_all (k := 1) hr (by rfl) T.b_all T.are_places.TB rfl (GA.gNames_by (N := n_are_places) (M := ["value", "low", "high", "bound", "place"]) (sc := defScope s_are_places) (by decide +kernel)) (pi_tup (pv 0))
        (fun A sz Hz C code fp pn hrA => pe_call (ok_is_integer T) hrA (by rfl) T.is_integer.g T.is_integer.F.kp T.is_integer.b .nil pass0 (pa_cons (pv 4) (pa_cons pe_int (pa_cons (pe_op op_sub (pv 3) pe_int) pa_nil)))))))), ?_⟩
    refine ⟨.ref a, rfl, .int lo, rfl, .int hi, rfl, .ref a, _, lo, hi, rfl, hv, _, rfl, ?_⟩
    rw [List.length_map, decide_eq_true hl]
    refine iteT ⟨.ref a, rfl, a, rfl, ⟨_, hS⟩, hT _ (by simp), fun H2 ht => ⟨ns.length, fun i H' => Gr H H', Gx.tabbed (hT _ (by simp)) ht, fun i H3 hi hw => ?_, fun H3 hw => ?_⟩⟩
    · have e : (ns.map V.int)[i]? = some (.int ns[i]) := by
        rw [List.getElem?_map, List.getElem?_eq_getElem hi]
        rfl
      refine ⟨⟨_, _, hw.seqT hS, e⟩, fun x H4 hy => ?_⟩
      obtain ⟨rfl, hx⟩ := hy
      have ex : x = .int ns[i] := Option.some.inj ((hx _ (hw.seqT hS)).symm.trans e)
      subst ex
      refine ⟨_, rfl, .int bd, rfl, bd, 1, rfl, rfl, ns[i], 0, bd - 1, rfl, _, rfl, fun _ => hw, fun hf => ?_⟩
      have := hn ns[i] (List.getElem_mem hi)
      rw [decide_eq_true this] at hf
      cases hf
    · exact ⟨⟨_, hw.seqT hS, by rw [List.length_map]; exact Nat.le_refl _⟩, q H3 hw⟩
/-! the checks: right values pass -/
def sp_check_size : Sp := fun vs H Q _ => ∃ sz : Int, vs = [.int sz] ∧ (1 ≤ sz ∧ sz ≤ 4) ∧ Q .non H
def sp_check_relation_arity : Sp := fun vs H Q _ => ∃ ar : Int, vs = [.int ar] ∧ (1 ≤ ar ∧ ar ≤ 4) ∧ Q .non H
def sp_check_relation (T : Txt K mg base) : Sp := fun vs H Q _ => ∃ (sz ar : Int) (v : V) (rows : List (List Int)), vs = [.int sz, v] ∧ DT K H v (relD ar rows) ∧ TT T.tabs H ∧ RelOk sz ar rows ∧ ∀ H', Gr H H' → Q .non H'
def sp_check_places (T : Txt K mg base) : Sp := fun vs H Q _ => ∃ (v : V) (ns : List Int) (lo hi bd : Int), vs = [v, .int lo, .int hi, .int bd] ∧ DT K H v (rowD ns) ∧ TT T.tabs H ∧ (lo ≤ (ns.length : Int) ∧ (ns.length : Int) ≤ hi) ∧ (∀ x ∈ ns, 0 ≤ x ∧ x ≤ bd - 1) ∧ ∀ H', Gr H H' → Q .non H'
end K15

set_option Elab.async false
set_option linter.all false
/-! plain mathematics of rows -/
namespace MR
/-- each row with each value behind it -/
def ext (sz : Nat) (rows : List (List Int)) : List (List Int) := rows.flatMap fun r => (List.range sz).map fun (v : Nat) => r ++ [(v : Int)]
def allRows (sz : Nat) : Nat → List (List Int)
  | 0 => [[]]
  | n + 1 => ext sz (allRows sz n)
/-- i rows done, j values of the next one -/
def part (sz : Nat) (rows : List (List Int)) (i j : Nat) : List (List Int) := ext sz (rows.take i) ++ match rows[i]? with
  | some r => (List.range j).map fun (v : Nat) => r ++ [(v : Int)]
  | none => []
theorem ext_len (sz : Nat) (rows : List (List Int)) : (ext sz rows).length = rows.length * sz := by
  induction rows with
  | nil => simp [ext]
  | cons r rows ih =>
    unfold ext at ih ⊢
    rw [List.flatMap_cons, List.length_append, ih, List.length_map, List.length_range, List.length_cons, Nat.add_mul]
    omega
theorem ext_app (sz : Nat) (a b : List (List Int)) : ext sz (a ++ b) = ext sz a ++ ext sz b := by
  unfold ext
  rw [List.flatMap_append]
theorem ext_one (sz : Nat) (r : List Int) : ext sz [r] = (List.range sz).map fun (v : Nat) => r ++ [(v : Int)] := by
  unfold ext
  simp
theorem part_zero (sz : Nat) (rows : List (List Int)) : part sz rows 0 0 = [] := by
  unfold part
  cases rows with
  | nil => rfl
  | cons r rows => rfl
theorem part_step {sz : Nat} {rows : List (List Int)} {i j : Nat} {r : List Int} (h : rows[i]? = some r) : part sz rows i (j + 1) = part sz rows i j ++ [r ++ [(j : Int)]] := by
  unfold part
  rw [h]
  show ext sz (rows.take i) ++ (List.range (j + 1)).map (fun (v : Nat) => r ++ [(v : Int)]) = ext sz (rows.take i) ++ (List.range j).map (fun (v : Nat) => r ++ [(v : Int)]) ++ [r ++ [(j : Int)]]
  rw [List.range_succ, List.map_append, ← List.append_assoc]
  rfl
theorem part_next {sz : Nat} {rows : List (List Int)} {i : Nat} (h : i < rows.length) : part sz rows i sz = part sz rows (i + 1) 0 := by
  unfold part
  have e : rows[i]? = some rows[i] := List.getElem?_eq_getElem h
  have z : (match rows[i + 1]? with | some r => (List.range 0).map fun (v : Nat) => r ++ [(v : Int)] | none => []) = [] := by
    cases rows[i + 1]? <;> rfl
  rw [e, z, List.append_nil, List.take_add_one, e, ext_app]
  show _ = ext sz (rows.take i) ++ ext sz [rows[i]]
  rw [ext_one]
theorem part_end (sz : Nat) (rows : List (List Int)) : part sz rows rows.length 0 = ext sz rows := by
  unfold part
  rw [List.getElem?_eq_none (Nat.le_refl _), List.append_nil, List.take_length]
theorem part_len {sz : Nat} {rows : List (List Int)} {i j : Nat} (hj : j ≤ sz) : (part sz rows i j).length ≤ rows.length * sz := by
  unfold part
  rw [List.length_append, ext_len, List.length_take]
  cases h : rows[i]? with
  | none =>
    have : min i rows.length * sz ≤ rows.length * sz := Nat.mul_le_mul_right _ (Nat.min_le_right _ _)
    simpa using this
  | some r =>
    have hi : i < rows.length := (List.getElem?_eq_some_iff.mp h).1
    show min i rows.length * sz + ((List.range j).map _).length ≤ _
    rw [List.length_map, List.length_range, Nat.min_eq_left (Nat.le_of_lt hi)]
    have : (i + 1) * sz ≤ rows.length * sz := Nat.mul_le_mul_right _ hi
    rw [Nat.add_mul] at this
    omega
theorem allRows_len (sz n : Nat) : (allRows sz n).length = sz ^ n := by
  induction n with
  | zero => rfl
  | succ n ih =>
    show (ext sz (allRows sz n)).length = _
    rw [ext_len, ih, Nat.pow_succ]
theorem allRows_len_le {sz n : Nat} (hs : sz ≤ 4) (hn : n ≤ 4) : (allRows sz n).length ≤ 256 := by
  rw [allRows_len]
  exact Nat.le_trans (Nat.pow_le_pow_left hs n) (Nat.pow_le_pow_right (by omega) hn)
theorem mem_ext {sz : Nat} {rows : List (List Int)} {r : List Int} : r ∈ ext sz rows ↔ ∃ q ∈ rows, ∃ v : Nat, v < sz ∧ r = q ++ [(v : Int)] := by
  unfold ext
  rw [List.mem_flatMap]
  constructor
  · rintro ⟨q, hq, h⟩
    obtain ⟨v, hv, rfl⟩ := List.mem_map.mp h
    exact ⟨q, hq, v, List.mem_range.mp hv, rfl⟩
  · rintro ⟨q, hq, v, hv, rfl⟩
    exact ⟨q, hq, List.mem_map.mpr ⟨v, List.mem_range.mpr hv, rfl⟩⟩
theorem allRows_ok {sz : Nat} : ∀ {n : Nat} {r : List Int}, r ∈ allRows sz n → r.length = n ∧ ∀ x ∈ r, 0 ≤ x ∧ x < (sz : Int)
  | 0, r, h => by
    have : r = [] := by simpa [allRows] using h
    subst this
    exact ⟨rfl, fun x hx => by simp at hx⟩
  | n + 1, r, h => by
    obtain ⟨q, hq, v, hv, rfl⟩ := mem_ext.mp h
    obtain ⟨h1, h2⟩ := allRows_ok hq
    refine ⟨by rw [List.length_append, h1]; rfl, fun x hx => ?_⟩
    rcases List.mem_append.mp hx with hx | hx
    · exact h2 x hx
    · have : x = (v : Int) := by simpa using hx
      subst this
      omega

/-! each row of one with each row of the other behind it -/
def prod (a b : List (List Int)) : List (List Int) := a.flatMap fun f => b.map fun g => f ++ g
def part2 (a b : List (List Int)) (i j : Nat) : List (List Int) := prod (a.take i) b ++ match a[i]? with
  | some f => (b.take j).map fun g => f ++ g
  | none => []
theorem prod_app (a c b : List (List Int)) : prod (a ++ c) b = prod a b ++ prod c b := by
  unfold prod
  rw [List.flatMap_append]
theorem prod_one (f : List Int) (b : List (List Int)) : prod [f] b = b.map fun g => f ++ g := by
  unfold prod
  simp
theorem prod_len (a b : List (List Int)) : (prod a b).length = a.length * b.length := by
  induction a with
  | nil => simp [prod]
  | cons f a ih =>
    unfold prod at ih ⊢
    rw [List.flatMap_cons, List.length_append, ih, List.length_map, List.length_cons, Nat.add_mul]
    omega
theorem part2_zero (a b : List (List Int)) : part2 a b 0 0 = [] := by
  unfold part2
  cases a with
  | nil => rfl
  | cons f a => simp [prod]
theorem part2_step {a b : List (List Int)} {i j : Nat} {f g : List Int} (h : a[i]? = some f) (h2 : b[j]? = some g) : part2 a b i (j + 1) = part2 a b i j ++ [f ++ g] := by
  unfold part2
  rw [h]
  show prod (a.take i) b ++ (b.take (j + 1)).map _ = prod (a.take i) b ++ (b.take j).map _ ++ [_]
  rw [List.take_add_one, h2, List.map_append, ← List.append_assoc]
  rfl
theorem part2_next {a b : List (List Int)} {i : Nat} (h : i < a.length) : part2 a b i b.length = part2 a b (i + 1) 0 := by
  unfold part2
  have e : a[i]? = some a[i] := List.getElem?_eq_getElem h
  have z : (match a[i + 1]? with | some f => (b.take 0).map fun g => f ++ g | none => []) = [] := by
    cases a[i + 1]? <;> rfl
  rw [e, z, List.append_nil, List.take_add_one, e, prod_app]
  show prod (a.take i) b ++ (b.take b.length).map _ = prod (a.take i) b ++ prod [a[i]] b
  rw [prod_one, List.take_length]
theorem part2_end (a b : List (List Int)) : part2 a b a.length 0 = prod a b := by
  unfold part2
  rw [List.getElem?_eq_none (Nat.le_refl _), List.append_nil, List.take_length]
theorem part2_len {a b : List (List Int)} {i j : Nat} : (part2 a b i j).length ≤ a.length * b.length := by
  unfold part2
  rw [List.length_append, prod_len, List.length_take]
  cases h : a[i]? with
  | none =>
    have : min i a.length * b.length ≤ a.length * b.length := Nat.mul_le_mul_right _ (Nat.min_le_right _ _)
    simpa using this
  | some r =>
    have hi : i < a.length := (List.getElem?_eq_some_iff.mp h).1
    show min i a.length * b.length + ((b.take j).map _).length ≤ _
    rw [List.length_map, List.length_take, Nat.min_eq_left (Nat.le_of_lt hi)]
    have : (i + 1) * b.length ≤ a.length * b.length := Nat.mul_le_mul_right _ hi
    rw [Nat.add_mul] at this
    omega

/-! rows with equal entries at two places -/
def glue (rows : List (List Int)) (a b : Nat) : List (List Int) := rows.filter fun r => decide (r.getD a 0 = r.getD b 0)
theorem filter_step {α : Type} {l : List α} {p : α → Bool} {i : Nat} {x : α} (h : l[i]? = some x) : (l.take (i + 1)).filter p = (l.take i).filter p ++ if p x = true then [x] else [] := by
  rw [List.take_add_one, h, List.filter_append]
  by_cases hp : p x = true
  · simp [hp]
  · simp [hp]
end MR

set_option Elab.async false
set_option linter.all false
set_option maxRecDepth 100000
set_option maxHeartbeats 4000000
namespace K15
open PySem PySem.Spec PyProof.Rows L2 TK MR
variable {P : Program} {w : World} {K : PySem.W.Frag} {mg : Str → Option Value} {base : Heap}
/-- a list of rows at p -/
def LR (K : PySem.W.Frag) (H : Hp) (p : Addr) (rows : List (List Int)) : Prop := ∃ vs, H p = some (.lst vs) ∧ DTs K H vs (rows.map rowD)
theorem LR.app {H : Hp} {rows : List (List Int)} {vs : List V} (h : DTs K H vs (rows.map rowD)) {v : V} {r : List Int} (hv : DT K H v (rowD r)) : DTs K H (vs ++ [v]) ((rows ++ [r]).map rowD) := by
  rw [List.map_append]
  exact h.app (.one hv)
/-- a row with one more value: row + (value,) -/
theorem cat_one {H : Hp} {v : V} {r : List Int} {n : Int} {T : Addr} {Q : VK} (hv : DT K H v (rowD r)) (hT : H T = some (.tup [.int n])) (hl : r.length < 1000) (q : ∀ u H', Gr H H' → DT K H' u (rowD (r ++ [n])) → Q u H') : rCatA K v (.ref T) H Q := by
  obtain ⟨a, rfl, hS⟩ := hv.row_inv
  refine ⟨a, T, _, _, rfl, rfl, hS, .inl (.inl hT), ?_, fun e => ?_, fun _ e => (by cases e), fun _ _ p hp => ?_⟩
  · rw [List.length_map]
    have h9 := Nat.le_of_lt (small1000 (n := r.length + 1) (by omega))
    simpa using h9
  · have e : r = [] := by simpa using e
    subst e
    exact q _ _ Gx.refl (.row hT)
  · refine q _ _ (Gx.new hp) (.row ?_)
    rw [List.map_append]
    exact upd_same
/-! all_rows -/
def sp_all_rows (K : PySem.W.Frag) : Sp := fun vs H Q _ => ∃ sz ar : Nat, vs = [.int sz, .int ar] ∧ sz ≤ 4 ∧ ar ≤ 4 ∧ ∀ p H', Gr H H' → H p = none → LR K H' p (allRows sz ar) → Q (.ref p) H'
end K15

set_option Elab.async false
set_option linter.all false
set_option maxRecDepth 100000
set_option maxHeartbeats 4000000
namespace K15
open PySem PySem.Spec PyProof.Rows L2 TK MR
variable {P : Program} {w : World} {K : PySem.W.Frag} {mg : Str → Option Value} {base : Heap}
/-- a relation laid: (ar, tuple) -/
theorem rel_laid {H : Hp} {p : Addr} {u : V} {ar : Int} {rows : List (List Int)} (hu : DT K H u (.tuple (rows.map rowD))) (hp : H p = none) : DT K (upd H p (.tup [.int ar, u])) (.ref p) (relD ar rows) := by
  obtain ⟨b, xs, rfl, h1, h2⟩ := hu.tup_invS
  exact DT.rel upd_same (Gx.tupS (Gx.new (S := []) hp) .nil h1) (h2.gr (Gx.new hp))
/-- tuple(a list of rows) -/
theorem tup_laid {H : Hp} {p l : Addr} {rows : List (List Int)} (h : LR K H p rows) (hl : H l = none) : ∃ vs, H p = some (.lst vs) ∧ DT K (upd H l (.tup vs)) (.ref l) (.tuple (rows.map rowD)) := by
  obtain ⟨vs, h1, h2⟩ := h
  exact ⟨vs, h1, .mk upd_same (h2.gr (Gx.new hl))⟩
/-! full -/
def sp_full (K : PySem.W.Frag) : Sp := fun vs H Q _ => ∃ sz ar : Nat, vs = [.int sz, .int ar] ∧ (1 ≤ sz ∧ sz ≤ 4) ∧ (1 ≤ ar ∧ ar ≤ 4) ∧ ∀ v H', Gr H H' → DT K H' v (relD ar (allRows sz ar)) → Q v H'
/-- a concatenation of two rows, neither empty -/
theorem cat_rows {H : Hp} {v u : V} {r q : List Int} {Q : VK} (hv : DT K H v (rowD r)) (hu : DT K H u (rowD q)) (hl : r.length + q.length ≤ 1000) (h1 : r ≠ []) (h2 : q ≠ []) (k : ∀ z H', Gr H H' → DT K H' z (rowD (r ++ q)) → Q z H') : rCatA K v u H Q := by
  obtain ⟨a, rfl, hS⟩ := hv.row_inv
  obtain ⟨b, rfl, hS2⟩ := hu.row_inv
  refine ⟨a, b, _, _, rfl, rfl, hS, hS2, ?_, fun e => ?_, fun _ e => ?_, fun _ _ p hp => ?_⟩
  · rw [List.length_map, List.length_map]
    exact Nat.le_of_lt (small1000 hl)
  · exact absurd (by simpa using e) h1
  · exact absurd (by simpa using e) h2
  · refine k _ _ (Gx.new hp) (.row ?_)
    rw [List.map_append]
    exact upd_same
/-- a relation's parts -/
theorem rel_ix0 {H : Hp} {v : V} {ar : Int} {rows : List (List Int)} {Q : VK} (h : DT K H v (relD ar rows)) (q : Q (.int ar) H) : rIxT K v (.int 0) H Q := by
  obtain ⟨a, b, xs, rfl, h1, _, _⟩ := h.rel_inv
  exact ⟨a, _, 0, .int ar, rfl, rfl, h1, atI_nat (j := 0) rfl, q⟩
theorem rel_ix1 {H : Hp} {v : V} {ar : Int} {rows : List (List Int)} {Q : VK} (h : DT K H v (relD ar rows)) (q : ∀ b xs, SqT K H b xs → DTs K H xs (rows.map rowD) → Q (.ref b) H) : rIxT K v (.int 1) H Q := by
  obtain ⟨a, b, xs, rfl, h1, h2, h3⟩ := h.rel_inv
  exact ⟨a, _, 1, .ref b, rfl, rfl, h1, atI_nat (j := 1) rfl, q b xs h2 h3⟩
/-! product -/
def sp_product (T : Txt K mg base) : Sp := fun vs H Q _ => ∃ (sz : Int) (v u : V) (ar br : Int) (r1 r2 : List (List Int)), vs = [.int sz, v, u] ∧ (1 ≤ sz ∧ sz ≤ 4) ∧ DT K H v (relD ar r1) ∧ DT K H u (relD br r2) ∧ TT T.tabs H ∧ RelOk sz ar r1 ∧ RelOk sz br r2 ∧ ar + br ≤ 4 ∧ r1.length * r2.length ≤ 900 ∧
  ∀ z H', Gr H H' → DT K H' z (relD (ar + br) (prod r1 r2)) → Q z H'
end K15

set_option Elab.async false
set_option linter.all false
set_option maxRecDepth 100000
set_option maxHeartbeats 4000000
namespace K15
open PySem PySem.Spec PyProof.Rows L2 TK MR
variable {P : Program} {w : World} {K : PySem.W.Frag} {mg : Str → Option Value} {base : Heap}
/-- row[a] -/
theorem row_ix {H : Hp} {v : V} {r : List Int} {z : Int} {a : Nat} {Q : VK} (h : DT K H v (rowD r)) (ez : z = (a : Int)) (ha : a < r.length) (q : Q (.int (r.getD a 0)) H) : rIxT K v (.int z) H Q := by
  obtain ⟨p, rfl, h1⟩ := h.row_inv
  subst ez
  refine ⟨p, _, (a : Int), .int (r.getD a 0), rfl, rfl, h1, atI_nat ?_, q⟩
  rw [List.getElem?_map, List.getElem?_eq_getElem ha, List.getD_eq_getElem?_getD, List.getElem?_eq_getElem ha]
  rfl
/-! glued -/
def sp_glued (T : Txt K mg base) : Sp := fun vs H Q _ => ∃ (sz : Int) (v u : V) (ar : Int) (rows : List (List Int)) (a b : Nat), vs = [.int sz, v, u] ∧ (1 ≤ sz ∧ sz ≤ 4) ∧ DT K H v (relD ar rows) ∧ DT K H u (rowD [(a : Int), (b : Int)]) ∧ TT T.tabs H ∧ RelOk sz ar rows ∧ (a : Int) < ar ∧ (b : Int) < ar ∧
  ∀ z H', Gr H H' → DT K H' z (relD ar (glue rows a b)) → Q z H'
end K15

set_option Elab.async false
set_option linter.all false
set_option maxRecDepth 100000
set_option maxHeartbeats 4000000
namespace K15
open PySem PySem.Spec PyProof.Rows L2 TK MR
variable {P : Program} {w : World} {K : PySem.W.Frag} {mg : Str → Option Value} {base : Heap}
/-! the draws' own list -/
/-- the script and the place r: apart, or the script stands in the fragment -/
def Sep (K : PySem.W.Frag) (a r : Addr) (ns : List Int) : Prop := a ≠ r ∨ SqL K (fun _ => none) a (ns.map V.int)
theorem seqL_frag {H : Hp} {a : Addr} {xs : List V} (h : SqL K (fun _ => none) a xs) : SqL K H a xs := by
  rcases h with (h | ⟨o', h⟩) | h
  · cases h
  · cases h
  · exact .inr h
theorem seqL_ne {H : Hp} {a r : Addr} {xs : List V} {o : HO} (h : SqL K H a xs) (n : a ≠ r) : SqL K (upd H r o) a xs := by
  rcases h with (h | ⟨o', h⟩) | h
  · exact .inl (.inl (by rw [upd_ne n]; exact h))
  · exact .inl (.inr ⟨o', by rw [upd_ne n]; exact h⟩)
  · exact .inr h
theorem seqL_upd {H : Hp} {a r : Addr} {ns : List Int} {o : HO} (h : SqL K H a (ns.map V.int)) (n : Sep K a r ns) : SqL K (upd H r o) a (ns.map V.int) := n.elim (seqL_ne h) seqL_frag
def RowSt (K : PySem.W.Frag) (H : Hp) (r a : Addr) : Prop := ∃ (ns : List Int) (i st d : Int), H r = some (.lst [.ref a, .int i, .int st, .int d]) ∧ SqL K H a (ns.map V.int) ∧ Sep K a r ns ∧ 0 ≤ i ∧ 0 ≤ st ∧ st < 2147483647
theorem fmod_range {x m : Int} (h : 0 < m) : 0 ≤ Int.fmod x m ∧ Int.fmod x m < m := ⟨Int.fmod_nonneg_of_pos x h, Int.fmod_lt_of_pos x h⟩
theorem RowSt.lst {H : Hp} {r a : Addr} (h : RowSt K H r a) : ∃ xs, H r = some (.lst xs) := let ⟨_, _, _, _, h, _⟩ := h; ⟨_, h⟩
theorem RowSt.ls {H : Hp} {r a : Addr} (h : RowSt K H r a) : LS [r] H := let ⟨_, e⟩ := h.lst; .one e
theorem RowSt.gr {H H' : Hp} {r a : Addr} (g : Gr H H') (h : RowSt K H r a) : RowSt K H' r a := by
  obtain ⟨ns, i, st, d, h1, h2, h3⟩ := h
  exact ⟨ns, i, st, d, g.lst h1, g.seqL h2, h3⟩
/-! _law_taken -/
def sp_law_taken (K : PySem.W.Frag) : Sp := fun vs H Q _ => ∃ (r a : Addr) (m : Int), vs = [.ref r, .int m] ∧ RowSt K H r a ∧ 1 ≤ m ∧ m ≤ 1000 ∧ ∀ (x : Int) H', 0 ≤ x → x < m → Gx [r] H H' → RowSt K H' r a → Q (.int x) H'
theorem ok_law_taken (T : Txt K mg base) : FnOk P w K mg base CX0 1 T.law_taken.f T.law_taken.fd p_law_taken (sp_law_taken K) := by
  refine T.law_taken.F.ok sc_law_taken (fun vs H Q E h => ?_) (fun A outer s H vs Q E hr h => ?_)
  · obtain ⟨_, _, _, rfl, _⟩ := h
    rfl
  · obtain ⟨r, a, m, rfl, ⟨ns, i, st, d, hr0, hS, har, hi, hst, hst2⟩, h1, h2, q⟩ := h
    refine ⟨_, pss_cons (ps_if (pt_cmpR op_gt (pe_ix ix_list (pv 0) pe_int (fun _ _ => rfl)) pe_int (nomark _))
        (pss_cons (ps_set (i := 2) sc_law_taken.nd rfl (.inl rfl) (pe_op op_modN (pe_callTy call_int1 (by rfl) T.b_int boot_int (pa_cons (pe_ix ix_list (pv 0) pe_int (fun _ _ => rfl)) pa_nil)) (pv 1)))
        (pss_cons (ps_asg (pe_op op_fdivN (pe_ix ix_list (pv 0) pe_int (fun _ _ => rfl)) (pv 1)) (pg_sub (pv 0) pe_int set_list))
        (pss_one (ps_ret (pv 2))))) pss_nil)
      (pss_cons (ps_asg (pe_op op_add (pe_ix ix_list (pv 0) pe_int (fun _ _ => rfl)) pe_int) (pg_sub (pv 0) pe_int set_list))
      (pss_cons (ps_if (pt_cmpR op_gt (pe_ix ix_list (pv 0) pe_int (fun _ _ => rfl)) (pe_callB call_len_seq (by rfl) T.b_len PySem.boot_len (pa_cons (pe_ix ix_list (pv 0) pe_int (fun _ _ => rfl)) pa_nil)) (nomark _))
        (pss_cons (ps_asg (pe_op op_modN (pe_callTy call_int1 (by rfl) T.b_int boot_int (pa_cons (pe_op op_add (pe_op op_mul (pe_ix ix_list (pv 0) pe_int (fun _ _ => rfl)) pe_int) pe_int) pa_nil)) pe_int) (pg_sub (pv 0) pe_int set_list))
        (pss_one (ps_ret (pe_op op_modN (pe_callTy call_int1 (by rfl) T.b_int boot_int (pa_cons (pe_op op_fdivN (pe_ix ix_list (pv 0) pe_int (fun _ _ => rfl)) pe_int) pa_nil)) (pv 1))))) pss_nil)
      (pss_cons (ps_set (i := 3) sc_law_taken.nd rfl (.inl rfl) (pe_ix ix_list (pe_ix ix_list (pv 0) pe_int (fun _ _ => rfl)) (pe_op op_sub (pe_ix ix_list (pv 0) pe_int (fun _ _ => rfl)) pe_int) (fun _ _ => rfl)))
      (pss_cons (ps_asg (pe_op op_modN (pe_callTy call_int1 (by rfl) T.b_int boot_int (pa_cons (pe_op op_add (pe_op op_add (pe_op op_mul (pe_ix ix_list (pv 0) pe_int (fun _ _ => rfl)) pe_int) (pv 3)) pe_int) pa_nil)) pe_int) (pg_sub (pv 0) pe_int set_list))
      (pss_cons (ps_if (pt_cmpR op_ge (pv 3) (pe_op op_pow pe_int pe_int) (nomark _)) (pss_one (ps_asg (pe_op op_fdivN (pv 3) (pv 1)) (pg_sub (pv 0) pe_int set_list))) pss_nil)
      (pss_one (ps_ret (pe_op op_modN (pe_callTy call_int1 (by rfl) T.b_int boot_int (pa_cons (pv 3) pa_nil)) (pv 1))))))))), ?_⟩
    have hm0 : m ≠ 0 := by omega
    have hmb : m.natAbs < 1073741824 := by omega
    refine ⟨.ref r, rfl, r, _, 3, .int d, rfl, rfl, .inl (.inl hr0), atI_nat (j := 3) rfl, d, 0, rfl, rfl, _, rfl, ite2 (fun _ => ?_) (fun _ => ?_)⟩
    · -- digits of a great cell
      refine ⟨.ref r, rfl, r, _, 3, .int d, rfl, rfl, .inl (.inl hr0), atI_nat (j := 3) rfl, .inl ⟨d, rfl, .int m, rfl, d, m, rfl, rfl, hm0, ?_⟩⟩
      refine ⟨.ref r, rfl, r, _, 3, .int d, rfl, rfl, .inl (.inl hr0), atI_nat (j := 3) rfl, .int m, rfl, d, m, rfl, rfl, ⟨hm0, hmb⟩, .ref r, rfl, r, _, 3, 3, rfl, rfl, hr0, rfl, ?_⟩
      obtain ⟨f1, f2⟩ := fmod_range (x := d) (show 0 < m by omega)
      exact ⟨_, rfl, q _ _ f1 f2 (Gx.refl.wrS (List.mem_singleton.mpr rfl)) ⟨ns, i, st, d.fdiv m, upd_same, seqL_upd hS har, har, hi, hst, hst2⟩⟩
    · refine ⟨.ref r, rfl, r, _, 1, .int i, rfl, rfl, .inl (.inl hr0), atI_nat (j := 1) rfl, i, 1, rfl, rfl, .ref r, rfl, r, _, 1, 1, rfl, rfl, hr0, rfl, ?_⟩
      have hr1 : upd H r (.lst ([.ref a, .int i, .int st, .int d].set 1 (.int (i + 1)))) r = some (.lst [.ref a, .int (i + 1), .int st, .int d]) := upd_same
      have hS1 : SqL K (upd H r (.lst ([.ref a, .int i, .int st, .int d].set 1 (.int (i + 1))))) a (ns.map V.int) := seqL_upd hS har
      have g1 : Gx [r] H (upd H r (.lst ([.ref a, .int i, .int st, .int d].set 1 (.int (i + 1))))) := Gx.refl.wrS (List.mem_singleton.mpr rfl)
      generalize upd H r (.lst ([.ref a, .int i, .int st, .int d].set 1 (.int (i + 1)))) = H1 at *
      refine ⟨.ref r, rfl, r, _, 1, .int (i + 1), rfl, rfl, .inl (.inl hr1), atI_nat (j := 1) rfl, .ref r, rfl, r, _, 0, .ref a, rfl, rfl, .inl (.inl hr1), atI_nat (j := 0) rfl, a, _, rfl, .inl hS1, i + 1, _, rfl, rfl, _, rfl, ite2 (fun _ => ?_) (fun hlen => ?_)⟩
      · -- behind the script
        refine ⟨.ref r, rfl, r, _, 2, .int st, rfl, rfl, .inl (.inl hr1), atI_nat (j := 2) rfl, st, 48271, rfl, rfl, .inl ⟨by omega, by omega⟩, st * 48271, 11, rfl, rfl, .inl ⟨_, rfl, _, 2147483647, rfl, rfl, (by show (2147483647 : Int) ≠ 0; decide), .ref r, rfl, r, _, 2, 2, rfl, rfl, hr1, rfl, ?_⟩⟩
        obtain ⟨f1, f2⟩ := fmod_range (x := st * 48271 + 11) (show (0 : Int) < 2147483647 by decide)
        have hr2 : upd H1 r (.lst ([.ref a, .int (i + 1), .int st, .int d].set 2 ((.int (Int.fmod (st * 48271 + 11) 2147483647))))) r = some (.lst [.ref a, .int (i + 1), (.int (Int.fmod (st * 48271 + 11) 2147483647)), .int d]) := upd_same
        refine ⟨.ref r, rfl, r, _, 2, (.int (Int.fmod (st * 48271 + 11) 2147483647)), rfl, rfl, .inl (.inl hr2), atI_nat (j := 2) rfl, (Int.fmod (st * 48271 + 11) 2147483647), 7, rfl, rfl, ⟨by decide, by decide⟩, .inl ⟨_, rfl, .int m, rfl, _, m, rfl, rfl, hm0, ?_⟩⟩
        obtain ⟨e1, e2⟩ := fmod_range (x := (Int.fmod (st * 48271 + 11) 2147483647).fdiv 7) (show 0 < m by omega)
        exact q _ _ e1 e2 (g1.wrS (List.mem_singleton.mpr rfl)) ⟨ns, i + 1, _, d, hr2, seqL_upd hS1 har, har, by omega, f1, f2⟩
      · have hl : i < (ns.length : Int) := by
          have hlen' : ¬ (decide (((ns.map V.int).length : Int) < i + 1) = true) := hlen
          rw [List.length_map] at hlen'
          simp at hlen'
          omega
        obtain ⟨k, hk⟩ := Int.eq_ofNat_of_zero_le hi
        subst hk
        have hkl : k < ns.length := by omega
        refine ⟨.ref r, rfl, r, _, 0, .ref a, rfl, rfl, .inl (.inl hr1), atI_nat (j := 0) rfl, .ref r, rfl, r, _, 1, .int ((k : Int) + 1), rfl, rfl, .inl (.inl hr1), atI_nat (j := 1) rfl, (k : Int) + 1, 1, rfl, rfl, a, _, (k : Int) + 1 - 1, .int ns[k], rfl, rfl, hS1, at_of (j := k) (by omega) ?_, ?_⟩
        · rw [List.getElem?_map, List.getElem?_eq_getElem hkl]
          rfl
        generalize ns[k] = cell
        refine ⟨.ref r, rfl, r, _, 2, .int st, rfl, rfl, .inl (.inl hr1), atI_nat (j := 2) rfl, st, 48271, rfl, rfl, .inl ⟨by omega, by omega⟩, .int cell, rfl, st * 48271, cell, rfl, rfl, st * 48271 + cell, 11, rfl, rfl, .inl ⟨_, rfl, _, 2147483647, rfl, rfl, (by show (2147483647 : Int) ≠ 0; decide), .ref r, rfl, r, _, 2, 2, rfl, rfl, hr1, rfl, ?_⟩⟩
        obtain ⟨f1, f2⟩ := fmod_range (x := st * 48271 + cell + 11) (show (0 : Int) < 2147483647 by decide)
        have hr2 : upd H1 r (.lst ([.ref a, .int ((k : Int) + 1), .int st, .int d].set 2 ((.int (Int.fmod (st * 48271 + cell + 11) 2147483647))))) r = some (.lst [.ref a, .int ((k : Int) + 1), (.int (Int.fmod (st * 48271 + cell + 11) 2147483647)), .int d]) := upd_same
        have hS2 := seqL_upd (o := .lst ([.ref a, .int ((k : Int) + 1), .int st, .int d].set 2 ((.int (Int.fmod (st * 48271 + cell + 11) 2147483647))))) hS1 har
        have g2 : Gx [r] H (upd H1 r (.lst ([.ref a, .int ((k : Int) + 1), .int st, .int d].set 2 ((.int (Int.fmod (st * 48271 + cell + 11) 2147483647)))))) := g1.wrS (List.mem_singleton.mpr rfl)
        obtain ⟨e1, e2⟩ := fmod_range (x := cell) (show 0 < m by omega)
        refine ⟨.int cell, rfl, 10, 18, rfl, rfl, ⟨by decide, by decide, by decide⟩, cell, _, rfl, rfl, _, rfl, ite2 (fun _ => ?_) (fun _ => ?_)⟩
        · refine ⟨.int cell, rfl, .int m, rfl, cell, m, rfl, rfl, ⟨hm0, hmb⟩, .ref r, rfl, r, _, 3, 3, rfl, rfl, hr2, rfl, ?_⟩
          exact ⟨.int cell, rfl, .inl ⟨cell, rfl, .int m, rfl, cell, m, rfl, rfl, hm0, q _ _ e1 e2 (g2.wrS (List.mem_singleton.mpr rfl)) ⟨ns, (k : Int) + 1, _, cell.fdiv m, upd_same, seqL_upd hS2 har, har, by omega, f1, f2⟩⟩⟩
        · exact ⟨.int cell, rfl, .inl ⟨cell, rfl, .int m, rfl, cell, m, rfl, rfl, hm0, q _ _ e1 e2 g2 ⟨ns, (k : Int) + 1, _, d, hr2, hS2, har, by omega, f1, f2⟩⟩⟩

end K15

set_option Elab.async false
set_option linter.all false
set_option maxRecDepth 100000
set_option maxHeartbeats 4000000
namespace K15
open PySem PySem.Spec PyProof.Rows L2 TK MR
variable {P : Program} {w : World} {K : PySem.W.Frag} {mg : Str → Option Value} {base : Heap}
theorem Gx.seqLne {H H1 : Hp} {r l : Addr} {xs : List V} (g : Gx [r] H H1) (n : l ≠ r) (h : SqL K H l xs) : SqL K H1 l xs := by
  have nn : l ∉ [r] := fun z => n (List.mem_singleton.mp z)
  rcases h with (h | ⟨o', h⟩) | h
  · exact .inl (.inl (g.at nn h fun _ z => by cases z))
  · exact .inl (.inr ⟨o', g.at nn h fun _ z => by cases z⟩)
  · exact .inr h
/-! _law_pick -/
def sp_law_pick (K : PySem.W.Frag) : Sp := fun vs H Q _ => ∃ (r a l : Addr) (xs : List V), vs = [.ref r, .ref l] ∧ RowSt K H r a ∧ SqL K H l xs ∧ l ≠ r ∧ 1 ≤ xs.length ∧ xs.length ≤ 1000 ∧ ∀ (j : Nat) (v : V) H', xs[j]? = some v → Gx [r] H H' → RowSt K H' r a → Q v H'
theorem ok_law_pick (T : Txt K mg base) : FnOk P w K mg base CX0 2 T.law_pick.f T.law_pick.fd p_law_pick (sp_law_pick K) := by
  refine T.law_pick.F.ok sc_law_pick (fun vs H Q E h => ?_) (fun A outer s H vs Q E hr h => ?_)
  · obtain ⟨_, _, _, _, rfl, _⟩ := h
    rfl
  · obtain ⟨r, a, l, xs, rfl, hR, hS, hne, h1, h2, q⟩ := h
    refine ⟨_, pss_one (ps_ret (pe_ix ix_list (pv 1) (pe_call (ok_law_taken T) hr (by rfl) T.law_taken.g T.law_taken.F.kp T.law_taken.b .nil pass0 (pa_cons (pv 0) (pa_cons (pe_callB call_len_seq (by rfl) T.b_len PySem.boot_len (pa_cons (pv 1) pa_nil)) pa_nil))) (fun _ _ => rfl))), ?_⟩
    refine ⟨.ref l, rfl, .ref r, rfl, .ref l, rfl, l, xs, rfl, .inl hS, r, a, _, rfl, hR, by omega, by omega, fun x H' hx0 hx1 g hR' => ?_⟩
    obtain ⟨k, hk⟩ := Int.eq_ofNat_of_zero_le hx0
    subst hk
    have hkl : k < xs.length := by omega
    have e : xs[k]? = some xs[k] := List.getElem?_eq_getElem hkl
    exact ⟨l, xs, (k : Int), xs[k], rfl, rfl, Gx.seqLne g hne hS, atI_nat e, q k _ H' e g hR'⟩
/-! _law_rows -/
theorem ok_law_rows (T : Txt K mg base) : FnOk P w K mg base CX0 1 T.law_rows.f T.law_rows.fd p_law_rows (sp_all_rows K) := by
  refine T.law_rows.F.ok sc_law_rows (fun vs H Q E h => ?_) (fun A outer s H vs Q E hr h => ?_)
  · obtain ⟨sz, ar, rfl, _⟩ := h
    rfl
  · obtain ⟨sz, ar, rfl, h1, h2, q⟩ := h
    refine ⟨_, pss_cons (ps_set (i := 2) sc_law_rows.nd rfl (.inl rfl) (pe_lst (pa_cons (pe_tup pa_nil) pa_nil)))
      (pss_cons (ps_for PassesOwn.never rfl (pi_range1 (by rfl) T.b_range (pa_cons (pv 1) pa_nil)) (pg_name (i := 3) sc_law_rows.nd rfl (.inl rfl))
        (pss_cons (ps_set (i := 4) sc_law_rows.nd rfl (.inl rfl) (pe_lst pa_nil))
        (pss_cons (ps_for PassesOwn.never rfl (pi_list (pv 2)) (pg_name (i := 5) sc_law_rows.nd rfl (.inr rfl))
          (pss_one (ps_set (i := 4) sc_law_rows.nd rfl (.inl rfl) (pe_op op_cat (pv 4)
            (pe_lc (own := [("value", 6)]) (g := gName 6) (tt := tYes) rfl sc_law_rows.nd (pi_range1 (by rfl) T.b_range (pa_cons (pv 0) pa_nil))
              (blkOk_by (N := n_law_rows) (sc := defScope s_law_rows) (by decide +kernel)) (fun _ _ _ _ _ => pg_name (i := 6) sc_law_rows.nd rfl (Or.inl rfl)) (fun _ _ _ _ _ => pts_nil)
              (fun _ _ _ _ _ => pe_op (op_catAK K) (pv 5) (pe_tup (pa_cons (pv 6) pa_nil))))))))
        (pss_one (ps_set (i := 2) sc_law_rows.nd rfl (.inl rfl) (pv 4))))))
      (pss_one (ps_ret (pv 2)))), ?_⟩
    -- found = [()]
    refine ⟨Nat.zero_le _, fun t nt => ⟨by show 1 ≤ sizeLine; decide, fun p np => ?_⟩⟩
    have np0 : H p = none := Gr.free (Gx.new nt) np
    have g0 : Gr H (upd (upd H t (.tup [])) p (.lst [.ref t])) := (Gx.new nt).trans (Gx.new np)
    have l0 : LR K (upd (upd H t (.tup [])) p (.lst [.ref t])) p (allRows sz 0) := by
      refine ⟨_, upd_same, .one (.row (ns := []) ?_)⟩
      have : t ≠ p := fun e => by
        rw [e, upd_same] at np
        cases np
      rw [upd_ne this, upd_same]
      rfl
    refine ⟨.int ar, rfl, ar, rfl, by omega, by omega, ?_⟩
    refine for_range (n := (ar : Int).toNat) (fun i σ H' => ∃ p y3 y4 y5, σ = [some (.int sz), some (.int ar), some (.ref p), y3, y4, y5, none] ∧ Gr H H' ∧ H p = none ∧ LR K H' p (allRows sz i)) ⟨p, none, none, none, rfl, g0, np0, l0⟩ (fun i σ H' hi hp => ?_) (fun σ H' hp => ?_)
    · obtain ⟨p1, y3, y4, y5, rfl, g1, n1, vs1, hp1, hd1⟩ := hp
      have hi4 : i < 4 := by omega
      have lr4 : (allRows sz i).length * sz ≤ 256 := by
        rw [allRows_len]
        exact Nat.mul_le_mul (Nat.le_trans (Nat.pow_le_pow_left h1 i) (Nat.pow_le_pow_right (show 0 < 4 by omega) (show i ≤ 3 by omega))) h1
      have lx : vs1.length = (allRows sz i).length := by rw [hd1.1, List.length_map]
      -- more = []
      refine ⟨Nat.zero_le _, fun m0 nm0 => ?_⟩
      have gm : Gr H' (upd H' m0 (.lst [])) := Gx.new nm0
      refine ⟨.ref p1, rfl, p1, rfl, ⟨_, gm.seqL (.inl (.inl hp1))⟩, ?_⟩
      refine for_list (K := K) (xs := vs1) (fun j σ H2 => ∃ m y5, σ = [some (.int sz), some (.int ar), some (.ref p1), some (.int (0 + (i : Int))), some (.ref m), y5, none] ∧ Gr H' H2 ∧ H' m = none ∧ LR K H2 m (ext sz ((allRows sz i).take j)))
        ⟨m0, y5, rfl, gm, nm0, [], upd_same, .nil⟩ (fun j σ H2 _ hp => by obtain ⟨_, _, _, g2, _⟩ := hp; exact g2.seqL (.inl (.inl hp1))) (fun j x σ H2 ex hp => ?_) (fun σ H2 hp => ?_)
      · obtain ⟨m, y5', rfl, g2, nm, ms, hm, hms⟩ := hp
        obtain ⟨dx, e1, dv⟩ := hd1.at' ex
        rw [List.getElem?_map] at e1
        obtain ⟨r, er, rfl⟩ := Option.map_eq_some_iff.mp e1
        have hr4 := (allRows_ok (List.mem_of_getElem? er)).1
        refine ⟨.ref m, rfl, .int sz, rfl, sz, rfl, by omega, by omega, fun D nD => ?_⟩
        have hj : j < (allRows sz i).length := (List.getElem?_eq_some_iff.mp er).1
        have hDm : D ≠ m := fun z => by rw [z, hm] at nD; cases nD
        refine lc_range (n := (sz : Int).toNat) (fun b H3 => Gr H2 H3 ∧ b ≤ sz ∧ LR K H3 D ((List.range b).map fun (v : Nat) => r ++ [(v : Int)])) ⟨Gx.new nD, Nat.zero_le _, [], upd_same, .nil⟩ (fun b H3 hb p => ?_) (fun H3 p => ?_)
        · obtain ⟨g3, hb', ws, hD, hds⟩ := p
          have hb2 : b < sz := by omega
          refine ⟨rfl, yesT ⟨x, rfl, .int (0 + (b : Int)), rfl, by show 1 ≤ sizeLine; decide, fun t nt => ?_⟩⟩
          have gt : Gr H3 (upd H3 t (.tup [.int (0 + (b : Int))])) := Gx.new nt
          dsimp only [tC]
          refine cat_one (r := r) (n := 0 + (b : Int)) ((dv.gr (g2.trans g3)).gr gt) upd_same (by omega) fun u H4 g4 du => ?_
          have hD4 : H4 D = some (.lst ws) := (gt.trans g4).lst hD
          refine ⟨ws, hD4, ?_, ((g3.trans gt).trans g4).wr nD, hb2, _, upd_same, ?_⟩
          · rw [hds.1, List.length_map, List.length_map, List.length_range]
            exact small1000 (by omega)
          · rw [List.range_succ, List.map_append]
            rw [Int.zero_add] at du
            exact LR.app ((hds.gr (gt.trans g4)).wr hD4) (DT.wr hD4 du)
        · obtain ⟨g3, _, ws, hD, hds⟩ := p
          have hm3 := g3.lst hm
          have hms3 := hms.gr g3
          refine ⟨m, D, ms, ws, rfl, rfl, hm3, hD, ?_, fun p2 np2 => ?_⟩
          · have q1 := hms.1
            have q2 := hds.1
            rw [List.length_map, ext_len, List.length_take] at q1
            rw [List.length_map, List.length_map, List.length_range] at q2
            have : min j (allRows sz i).length * sz ≤ 256 := Nat.le_trans (Nat.mul_le_mul_right _ (Nat.min_le_right _ _)) lr4
            exact Nat.le_of_lt (small1000 (by omega))
          · refine ⟨p2, some x, rfl, (g2.trans g3).trans (Gx.new np2), ?_, _, upd_same, ?_⟩
            · exact (g2.trans g3).free np2
            · rw [List.take_add_one, er, ext_app]
              show DTs K _ _ ((ext sz ((allRows sz i).take j) ++ ext sz [r]).map rowD)
              rw [ext_one, List.map_append]
              have q : (sz : Int).toNat = sz := by omega
              rw [q] at hds
              exact (hms3.app hds).gr (Gx.new np2)
      · obtain ⟨m, y5', rfl, g2, nm, hl⟩ := hp
        rw [lx, List.take_length] at hl
        exact ⟨.ref m, rfl, m, _, _, _, rfl, g1.trans g2, g1.free nm, hl⟩
    · obtain ⟨p1, y3, y4, y5, rfl, g1, n1, hl⟩ := hp
      exact ⟨.ref p1, rfl, q p1 H' g1 n1 (by simpa using hl)⟩

end K15

set_option Elab.async false
set_option linter.all false
set_option maxRecDepth 100000
set_option maxHeartbeats 4000000
namespace K15
open PySem PySem.Spec PyProof.Rows L2 TK MR
variable {P : Program} {w : World} {K : PySem.W.Frag} {mg : Str → Option Value} {base : Heap}
/-- told + (thing,) of any data -/
theorem cat_oneD {H : Hp} {v u : V} {es : List PyData} {d : PyData} {T : Addr} {Q : VK} (hv : DT K H v (.tuple es)) (hu : DT K H u d) (hT : H T = some (.tup [u])) (hl : es.length < 1000) (q : ∀ z H', Gr H H' → DT K H' z (.tuple (es ++ [d])) → Q z H') : rCatA K v (.ref T) H Q := by
  obtain ⟨a, xs, rfl, hS, hD⟩ := hv.tup_inv
  refine ⟨a, T, _, _, rfl, rfl, hS, .inl (.inl hT), ?_, fun e => ?_, fun _ e => (by cases e), fun _ _ p hp => ?_⟩
  · have h9 := Nat.le_of_lt (small1000 (n := es.length + 1) (by omega))
    rw [hD.1]
    simpa using h9
  · subst e
    have e : es = [] := List.length_eq_zero_iff.mp hD.1.symm
    subst e
    exact q _ _ Gx.refl (.mk hT (.one hu))
  · exact q _ _ (Gx.new hp) (.mk upd_same ((hD.app (.one hu)).gr (Gx.new hp)))
/-- a list of tuples of n things of ds -/
def TLs (K : PySem.W.Frag) (H : Hp) (ds : List PyData) (n : Nat) (ws : List V) : Prop := ∀ w ∈ ws, ∃ es, DT K H w (.tuple es) ∧ es.length = n ∧ ∀ e ∈ es, e ∈ ds
theorem TLs.gr {H H' : Hp} {ds : List PyData} {n : Nat} {ws : List V} (g : Gr H H') (h : TLs K H ds n ws) : TLs K H' ds n ws := fun w hw => let ⟨es, a, b⟩ := h w hw; ⟨es, a.gr g, b⟩
theorem TLs.wr {H : Hp} {ds : List PyData} {n : Nat} {ws : List V} {p : Addr} {xs : List V} {o : HO} (e : H p = some (.lst xs)) (h : TLs K H ds n ws) : TLs K (upd H p o) ds n ws := fun w hw => let ⟨es, a, b⟩ := h w hw; ⟨es, DT.wr e a, b⟩
theorem TLs.app {H : Hp} {ds : List PyData} {n : Nat} {ws us : List V} (h : TLs K H ds n ws) (k : TLs K H ds n us) : TLs K H ds n (ws ++ us) := fun w hw => (List.mem_append.mp hw).elim (h w) (k w)
theorem TLs.nil {H : Hp} {ds : List PyData} {n : Nat} : TLs K H ds n [] := fun w hw => by simp at hw
theorem TLs.one {H : Hp} {ds : List PyData} {n : Nat} {u : V} {es : List PyData} (h : DT K H u (.tuple es)) (hl : es.length = n) (hm : ∀ e ∈ es, e ∈ ds) : TLs K H ds n [u] := fun w hw => by
  rw [List.mem_singleton.mp hw]
  exact ⟨es, h, hl, hm⟩
/-! _law_tuples -/
def sp_law_tuples (K : PySem.W.Frag) : Sp := fun vs H Q _ => ∃ (l : Addr) (xs : List V) (ds : List PyData) (n : Nat), vs = [.ref l, .int n] ∧ SqL K H l xs ∧ DTs K H xs ds ∧ ds.length ≤ 8 ∧ n ≤ 3 ∧ ∀ p H' ws, Gr H H' → H p = none → H' p = some (.lst ws) → ws.length ≤ 512 → TLs K H' ds n ws → Q (.ref p) H'
theorem ok_law_tuples (T : Txt K mg base) : FnOk P w K mg base CX0 1 T.law_tuples.f T.law_tuples.fd p_law_tuples (sp_law_tuples K) := by
  refine T.law_tuples.F.ok sc_law_tuples (fun vs H Q E h => ?_) (fun A outer s H vs Q E hr h => ?_)
  · obtain ⟨_, _, _, _, rfl, _⟩ := h
    rfl
  · obtain ⟨l, xs, ds, n, rfl, hS, hD0, hdl, hn, q⟩ := h
    have hxl : xs.length = ds.length := hD0.1
    refine ⟨_, pss_cons (ps_set (i := 2) sc_law_tuples.nd rfl (.inl rfl) (pe_lst (pa_cons (pe_tup pa_nil) pa_nil)))
      (pss_cons (ps_for PassesOwn.never rfl (pi_range1 (by rfl) T.b_range (pa_cons (pv 1) pa_nil)) (pg_name (i := 3) sc_law_tuples.nd rfl (.inl rfl))
        (pss_cons (ps_set (i := 4) sc_law_tuples.nd rfl (.inl rfl) (pe_lst pa_nil))
        (pss_cons (ps_for PassesOwn.never rfl (pi_list (pv 2)) (pg_name (i := 5) sc_law_tuples.nd rfl (.inr rfl))
          (pss_one (ps_set (i := 4) sc_law_tuples.nd rfl (.inl rfl) (pe_op op_cat (pv 4)
            (pe_lc (own := [("thing", 6)]) (g := gName 6) (tt := tYes) rfl sc_law_tuples.nd (pi_list (pv 0))
              (blkOk_by (N := n_law_tuples) (sc := defScope s_law_tuples) (by decide +kernel)) (fun _ _ _ _ _ => pg_name (i := 6) sc_law_tuples.nd rfl (Or.inl rfl)) (fun _ _ _ _ _ => pts_nil)
              (fun _ _ _ _ _ => pe_op (op_catAK K) (pv 5) (pe_tup (pa_cons (pv 6) pa_nil))))))))
        (pss_one (ps_set (i := 2) sc_law_tuples.nd rfl (.inl rfl) (pv 4))))))
      (pss_one (ps_ret (pv 2)))), ?_⟩
    refine ⟨Nat.zero_le _, fun t nt => ⟨by show 1 ≤ sizeLine; decide, fun p np => ?_⟩⟩
    have np0 : H p = none := Gr.free (Gx.new nt) np
    have g0 : Gr H (upd (upd H t (.tup [])) p (.lst [.ref t])) := (Gx.new nt).trans (Gx.new np)
    refine ⟨.int n, rfl, n, rfl, by omega, by omega, ?_⟩
    refine for_range (n := (n : Int).toNat) (fun i σ H' => ∃ p y3 y4 y5 ws, σ = [some (.ref l), some (.int n), some (.ref p), y3, y4, y5, none] ∧ Gr H H' ∧ H p = none ∧ H' p = some (.lst ws) ∧ ws.length ≤ 8 ^ i ∧ TLs K H' ds i ws) ⟨p, none, none, none, [.ref t], rfl, g0, np0, upd_same, Nat.le_refl _, ?_⟩ (fun i σ H' hi hp => ?_) (fun σ H' hp => ?_)
    · refine TLs.one (es := []) (.mk (xs := []) ?_ .nil) rfl fun e he => by simp at he
      have : t ≠ p := fun e => by
        rw [e, upd_same] at np
        cases np
      rw [upd_ne this, upd_same]
    · obtain ⟨p1, y3, y4, y5, vs1, rfl, g1, n1, hp1, hl1, ht1⟩ := hp
      have hi3 : i < 3 := by omega
      have hb : vs1.length * 8 ≤ 512 := by
        have : 8 ^ i ≤ 8 ^ 2 := Nat.pow_le_pow_right (by omega) (by omega)
        omega
      refine ⟨Nat.zero_le _, fun m0 nm0 => ?_⟩
      have gm : Gr H' (upd H' m0 (.lst [])) := Gx.new nm0
      refine ⟨.ref p1, rfl, p1, rfl, ⟨_, gm.seqL (.inl (.inl hp1))⟩, ?_⟩
      refine for_list (K := K) (xs := vs1) (fun j σ H2 => ∃ m y5 ms, σ = [some (.ref l), some (.int n), some (.ref p1), some (.int (0 + (i : Int))), some (.ref m), y5, none] ∧ Gr H' H2 ∧ H' m = none ∧ H2 m = some (.lst ms) ∧ j ≤ vs1.length ∧ ms.length ≤ j * 8 ∧ TLs K H2 ds (i + 1) ms)
        ⟨m0, y5, [], rfl, gm, nm0, upd_same, Nat.zero_le _, by simp, .nil⟩ (fun j σ H2 _ hp => by obtain ⟨_, _, _, _, g2, _⟩ := hp; exact g2.seqL (.inl (.inl hp1))) (fun j x σ H2 ex hp => ?_) (fun σ H2 hp => ?_)
      · obtain ⟨m, y5', ms, rfl, g2, nm, hm, hj, hml, hms⟩ := hp
        obtain ⟨es, de, hel, hem⟩ := ht1 x (List.mem_of_getElem? ex)
        have hjl : j < vs1.length := (List.getElem?_eq_some_iff.mp ex).1
        refine ⟨.ref m, rfl, .ref l, rfl, l, rfl, ⟨_, (g1.trans g2).seqL hS⟩, fun D nD => ?_⟩
        refine lc_list (K := K) (a := l) (xs := xs) (fun b H3 => Gr H2 H3 ∧ ∃ ws, H3 D = some (.lst ws) ∧ ws.length = b ∧ TLs K H3 ds (i + 1) ws) ⟨Gx.new nD, [], upd_same, rfl, .nil⟩ (fun b H3 _ p => ((g1.trans g2).trans p.1).seqL hS) (fun b y H3 ey p => ?_) (fun H3 p => ?_)
        · obtain ⟨g3, ws, hD, hwl, hws⟩ := p
          obtain ⟨d, ed, dy⟩ := hD0.at' ey
          have hbl : b < xs.length := (List.getElem?_eq_some_iff.mp ey).1
          refine ⟨rfl, yesT ⟨x, rfl, y, rfl, by show 1 ≤ sizeLine; decide, fun t nt => ?_⟩⟩
          have gt : Gr H3 (upd H3 t (.tup [y])) := Gx.new nt
          refine cat_oneD (es := es) (d := d) (de.gr ((g2.trans g3).trans gt)) (dy.gr ((((g1.trans g2).trans g3)).trans gt)) upd_same (by omega) fun u H4 g4 du => ?_
          have hD4 : H4 D = some (.lst ws) := (gt.trans g4).lst hD
          refine ⟨ws, hD4, small1000 (by omega), ((g3.trans gt).trans g4).wr nD, _, upd_same, by rw [List.length_append, hwl]; rfl, ?_⟩
          refine ((hws.gr (gt.trans g4)).wr hD4).app (.one (DT.wr hD4 du) (by rw [List.length_append, hel]; rfl) fun e he => ?_)
          rcases List.mem_append.mp he with he | he
          · exact hem e he
          · rw [List.mem_singleton.mp he]
            exact List.mem_of_getElem? ed
        · obtain ⟨g3, ws, hD, hwl, hws⟩ := p
          have hm3 := g3.lst hm
          refine ⟨m, D, ms, ws, rfl, rfl, hm3, hD, Nat.le_of_lt (small1000 (by omega)), fun p2 np2 => ?_⟩
          refine ⟨p2, some x, ms ++ ws, rfl, (g2.trans g3).trans (Gx.new np2), (g2.trans g3).free np2, upd_same, hjl, by rw [List.length_append]; omega, ?_⟩
          exact ((hms.gr g3).app hws).gr (Gx.new np2)
      · obtain ⟨m, y5', ms, rfl, g2, nm, hm, hj, hml, hms⟩ := hp
        exact ⟨.ref m, rfl, m, _, _, _, ms, rfl, g1.trans g2, g1.free nm, hm, by rw [Nat.pow_succ]; omega, hms⟩
    · obtain ⟨p1, y3, y4, y5, ws, rfl, g1, n1, hp1, hl1, ht1⟩ := hp
      have e : (n : Int).toNat = n := by omega
      rw [e] at hl1 ht1
      exact ⟨.ref p1, rfl, q p1 H' ws g1 n1 hp1 (Nat.le_trans hl1 (Nat.le_trans (Nat.pow_le_pow_right (by omega) hn) (by decide))) ht1⟩

end K15

set_option Elab.async false
set_option linter.all false
namespace MR
def idxI (sz : Nat) (as : List Int) : Int := as.foldl (fun (a x : Int) => a * (sz : Int) + x) 0
theorem idxI_app (sz : Nat) (as : List Int) (x : Int) : idxI sz (as ++ [x]) = idxI sz as * sz + x := by
  unfold idxI
  rw [List.foldl_append]
  rfl
theorem fold_bd {sz : Nat} : ∀ (as : List Int) (c : Int) (n : Nat), 0 ≤ c → c < (sz : Int) ^ n → (∀ x ∈ as, 0 ≤ x ∧ x < (sz : Int)) → 0 ≤ as.foldl (fun (a x : Int) => a * (sz : Int) + x) c ∧ as.foldl (fun (a x : Int) => a * (sz : Int) + x) c < (sz : Int) ^ (n + as.length)
  | [], c, n, h1, h2, _ => ⟨h1, h2⟩
  | x :: as, c, n, h1, h2, h => by
    obtain ⟨h3, h4⟩ := h x List.mem_cons_self
    have hs : (0 : Int) ≤ sz := Int.natCast_nonneg _
    have e : (c + 1) * (sz : Int) ≤ (sz : Int) ^ n * sz := Int.mul_le_mul_of_nonneg_right (by omega) hs
    rw [Int.add_mul, Int.one_mul] at e
    have q := fold_bd as (c * sz + x) (n + 1) (Int.add_nonneg (Int.mul_nonneg h1 hs) h3) (by rw [Int.pow_succ]; omega) fun y hy => h y (List.mem_cons_of_mem _ hy)
    rw [List.length_cons, show n + (as.length + 1) = n + 1 + as.length by omega]
    exact q
theorem idxI_bd {sz : Nat} (as : List Int) (h : ∀ x ∈ as, 0 ≤ x ∧ x < (sz : Int)) : 0 ≤ idxI sz as ∧ idxI sz as < (sz : Int) ^ as.length := by
  have q := fold_bd as 0 0 (Int.le_refl _) (by rw [Int.pow_zero]; decide) h
  rw [Nat.zero_add] at q
  exact q
theorem idxI_nat {sz : Nat} {as : List Int} (h : ∀ x ∈ as, 0 ≤ x ∧ x < (sz : Int)) : (idxI sz as).toNat < sz ^ as.length := by
  obtain ⟨h1, h2⟩ := idxI_bd as h
  have : ((idxI sz as).toNat : Int) < ((sz ^ as.length : Nat) : Int) := by
    rw [Int.toNat_of_nonneg h1, Int.natCast_pow]
    exact h2
  omega
/-- the row to which an operation with this table carries rows of so many places -/
def carried (sz : Nat) (tab : List Int) (rs : List (List Int)) (ar : Nat) : List Int := (List.range ar).map fun a => tab.getD (idxI sz (rs.map fun r => r.getD a 0)).toNat 0
theorem carried_len (sz : Nat) (tab : List Int) (rs : List (List Int)) (ar : Nat) : (carried sz tab rs ar).length = ar := by
  unfold carried
  rw [List.length_map, List.length_range]
theorem getD_ok {tab : List Int} {sz : Int} (h : ∀ x ∈ tab, 0 ≤ x ∧ x < sz) (hs : 0 < sz) (i : Nat) : 0 ≤ tab.getD i 0 ∧ tab.getD i 0 < sz := by
  rw [List.getD_eq_getElem?_getD]
  cases e : tab[i]? with
  | none => exact ⟨Int.le_refl _, hs⟩
  | some x => exact h x (List.mem_of_getElem? e)
theorem carried_ok {sz : Nat} {tab : List Int} {rs : List (List Int)} {ar : Nat} (h : ∀ x ∈ tab, 0 ≤ x ∧ x < (sz : Int)) (hs : 1 ≤ sz) : ∀ x ∈ carried sz tab rs ar, 0 ≤ x ∧ x < (sz : Int) := fun x hx => by
  unfold carried at hx
  obtain ⟨a, _, rfl⟩ := List.mem_map.mp hx
  exact getD_ok h (by omega) _
end MR

set_option Elab.async false
set_option linter.all false
set_option maxRecDepth 100000
set_option maxHeartbeats 4000000
namespace K15
open PySem PySem.Spec PyProof.Rows L2 TK MR
variable {P : Program} {w : World} {K : PySem.W.Frag} {mg : Str → Option Value} {base : Heap}
/-- an operation: how many arguments, its table -/
def opD (k : Int) (tab : List Int) : PyData := .tuple [.int k, rowD tab]
theorem DT.op_inv {H : Hp} {v : V} {k : Int} {tab : List Int} (h : DT K H v (opD k tab)) : ∃ a b, v = .ref a ∧ SqT K H a [.int k, .ref b] ∧ SqT K H b (tab.map V.int) := by
  obtain ⟨a, xs, e, h1, h2⟩ := h.tup_inv
  obtain ⟨v1, r1, rfl, h3, h4⟩ := h2.cons_inv
  obtain ⟨v2, r2, rfl, h5, h6⟩ := h4.cons_inv
  have := h6.nil_inv
  subst this
  obtain ⟨b, rfl, h7⟩ := DT.row_inv h5
  rw [h3.int_inv] at h1
  exact ⟨a, b, e, h1, h7⟩
/-! _law_value -/
def sp_law_value (K : PySem.W.Frag) : Sp := fun vs H Q _ => ∃ (sz : Nat) (v : V) (l : Addr) (as tab : List Int) (k : Int), vs = [.int sz, v, .ref l] ∧ sz ≤ 4 ∧ DT K H v (opD k tab) ∧ SqL K H l (as.map V.int) ∧ (∀ x ∈ as, 0 ≤ x ∧ x < (sz : Int)) ∧ as.length ≤ 3 ∧ tab.length = sz ^ as.length ∧ Q (.int (tab.getD (idxI sz as).toNat 0)) H
theorem ok_law_value (T : Txt K mg base) : FnOk P w K mg base CX0 1 T.law_value.f T.law_value.fd p_law_value (sp_law_value K) := by
  refine T.law_value.F.ok sc_law_value (fun vs H Q E h => ?_) (fun A outer s H vs Q E hr h => ?_)
  · obtain ⟨_, _, _, _, _, _, rfl, _⟩ := h
    rfl
  · obtain ⟨sz, v, l, as, tab, k, rfl, hsz, hv, hS, has, hl, ht, q⟩ := h
    obtain ⟨a, b, rfl, h1, h2⟩ := DT.op_inv hv
    refine ⟨_, pss_cons (ps_set (i := 3) sc_law_value.nd rfl (.inl rfl) pe_int)
      (pss_cons (ps_for PassesOwn.never rfl (pi_list (pv 2)) (pg_name (i := 4) sc_law_value.nd rfl (.inl rfl))
        (pss_one (ps_set (i := 3) sc_law_value.nd rfl (.inl rfl) (pe_op op_add (pe_op op_mul (pv 3) (pv 0)) (pv 4)))))
      (pss_one (ps_ret (pe_ix (ix_tupK K) (pe_ix (ix_tupK K) (pv 1) pe_int (fun _ _ => rfl)) (pv 3) (fun _ _ => rfl))))), ?_⟩
    refine ⟨.ref l, rfl, l, rfl, ⟨_, hS⟩, ?_⟩
    refine for_list (K := K) (xs := as.map V.int) (fun i σ H' => H' = H ∧ ∃ y4, σ = [some (.int sz), some (.ref a), some (.ref l), some (.int (idxI sz (as.take i))), y4]) ⟨rfl, none, rfl⟩ (fun i σ H' _ p => by rw [p.1]; exact hS) (fun i x σ H' ex p => ?_) (fun σ H' p => ?_)
    · obtain ⟨rfl, y4, rfl⟩ := p
      rw [List.getElem?_map] at ex
      obtain ⟨n, en, rfl⟩ := Option.map_eq_some_iff.mp ex
      have hb := idxI_bd (sz := sz) (as.take i) fun x hx => has x (List.mem_of_mem_take hx)
      have hp : (sz : Int) ^ (as.take i).length ≤ 64 := by
        have h1 : sz ^ (as.take i).length ≤ 64 := Nat.le_trans (Nat.pow_le_pow_left hsz _) (Nat.le_trans (Nat.pow_le_pow_right (by omega) (show (as.take i).length ≤ 3 by rw [List.length_take]; omega)) (by decide))
        rw [← Int.natCast_pow]
        omega
      refine ⟨_, rfl, .int sz, rfl, _, sz, rfl, rfl, .inl ⟨by omega, by omega⟩, .int n, rfl, _, n, rfl, rfl, rfl, some (.int n), ?_⟩
      rw [List.take_add_one, en]
      show _ = [_, _, _, some (V.int (idxI sz (as.take i ++ [n]))), _]
      rw [idxI_app]
      rfl
    · obtain ⟨rfl, y4, rfl⟩ := p
      have e : as.take (as.map V.int).length = as := List.take_of_length_le (by rw [List.length_map]; exact Nat.le_refl _)
      rw [e]
      have hi : (idxI sz as).toNat < tab.length := by rw [ht]; exact idxI_nat has
      have h0 := (idxI_bd as has).1
      refine ⟨.ref a, rfl, a, _, 1, .ref b, rfl, rfl, h1, atI_nat (j := 1) rfl, .int (idxI sz as), rfl, b, _, idxI sz as, .int (tab.getD (idxI sz as).toNat 0), rfl, rfl, h2, at_of (j := (idxI sz as).toNat) (by omega) ?_, q⟩
      rw [List.getElem?_map, List.getElem?_eq_getElem hi, List.getD_eq_getElem?_getD, List.getElem?_eq_getElem hi]
      rfl
/-! _law_carried -/
def sp_law_carried (K : PySem.W.Frag) : Sp := fun vs H Q _ => ∃ (sz : Nat) (v u : V) (rs : List (List Int)) (tab : List Int) (k : Int) (ar : Nat), vs = [.int sz, v, u] ∧ sz ≤ 4 ∧ DT K H v (opD k tab) ∧ DT K H u (.tuple (rs.map rowD)) ∧ rs ≠ [] ∧ rs.length ≤ 3 ∧ (∀ r ∈ rs, r.length = ar ∧ ∀ x ∈ r, 0 ≤ x ∧ x < (sz : Int)) ∧ ar ≤ 4 ∧ tab.length = sz ^ rs.length ∧
  ∀ z H', Gr H H' → DT K H' z (rowD (carried sz tab rs ar)) → Q z H'
theorem ok_law_carried (T : Txt K mg base) : FnOk P w K mg base CX0 2 T.law_carried.f T.law_carried.fd p_law_carried (sp_law_carried K) := by
  refine T.law_carried.F.ok sc_law_carried (fun vs H Q E h => ?_) (fun A outer s H vs Q E hr h => ?_)
  · obtain ⟨_, _, _, _, _, _, _, rfl, _⟩ := h
    rfl
  · obtain ⟨sz, v, u, rs, tab, k, ar, rfl, hsz, hv, hu, hne, hl3, hrs, har, ht, q⟩ := h
    refine ⟨_, pss_one (ps_ret (pe_callTy (call_tuple_ofK K) (by rfl) T.b_tuple boot_tuple (pa_cons
      (pe_lc (own := [("at", 3)]) (g := gName 3) (tt := tYes) rfl sc_law_carried.nd (pi_range1 (by rfl) T.b_range (pa_cons (pe_callB call_len_seq (by rfl) T.b_len PySem.boot_len (pa_cons (pe_ix (ix_tupK K) (pv 2) pe_int (fun _ _ => rfl)) pa_nil)) pa_nil))
        (blkOk_by (N := n_law_carried) (sc := defScope s_law_carried) (by decide +kernel)) (fun _ _ _ _ _ => pg_name (i := 3) sc_law_carried.nd rfl (Or.inr rfl)) (fun _ _ _ _ _ => pts_nil)
        (fun _ _ _ _ _ => pe_call (ok_law_value T) hr (by rfl) T.law_value.g T.law_value.F.kp T.law_value.b .nil pass0 (pa_cons (pv 0) (pa_cons (pv 1) (pa_cons
          (pe_lc (own := [("told", 4)]) (g := gName 4) (tt := tYes) rfl sc_law_carried.nd (pi_tupK K (pv 2)) (blkOk_by (by kernel_rfl)) (fun _ _ _ _ _ => pg_name (i := 4) sc_law_carried.nd rfl (Or.inl rfl)) (fun _ _ _ _ _ => pts_nil)
            (fun _ _ _ _ _ => pe_ix (ix_tupK K) (pv 4) (pv 3) (fun _ _ => rfl))) pa_nil))))) pa_nil))), ?_⟩
    obtain ⟨b, xs, rfl, hB, hDs⟩ := hu.tup_inv
    have hxl : xs.length = rs.length := by rw [hDs.1, List.length_map]
    obtain ⟨r0, rest, ers⟩ : ∃ r0 rest, rs = r0 :: rest := by
      cases rs with
      | nil => exact absurd rfl hne
      | cons r0 rest => exact ⟨r0, rest, rfl⟩
    have hr0 := hrs r0 (by rw [ers]; exact List.mem_cons_self)
    obtain ⟨v0, e0, d0⟩ := hDs.at (i := 0) (d := rowD r0) (by rw [ers]; rfl)
    obtain ⟨p0, rfl, s0⟩ := d0.row_inv
    have el : (r0.map V.int).length = ar := by rw [List.length_map]; exact hr0.1
    refine ⟨.ref b, rfl, b, xs, 0, .ref p0, rfl, rfl, hB, atI_nat (j := 0) e0, p0, _, rfl, .inr s0, _, rfl, by omega, by omega, fun D nD => ?_⟩
    rw [el]
    refine lc_range (n := (ar : Int).toNat) (fun a H' => Gr H H' ∧ a ≤ ar ∧ H' D = some (.lst (((List.range a).map fun a => tab.getD (idxI sz (rs.map fun r => r.getD a 0)).toNat 0).map V.int))) ⟨Gx.new nD, Nat.zero_le _, upd_same⟩ (fun a H' ha p => ?_) (fun H' p => ?_)
    · obtain ⟨g, _, hD⟩ := p
      have ha2 : a < ar := by omega
      refine ⟨rfl, yesT ⟨.int sz, rfl, v, rfl, .ref b, rfl, b, rfl, ⟨_, g.seqT hB⟩, fun D2 nD2 => ?_⟩⟩
      refine lc_tup (K := K) (a := b) (xs := xs) (fun j H2 => Gr H' H2 ∧ H2 D2 = some (.lst (((rs.take j).map fun r => r.getD a 0).map V.int))) ⟨Gx.new nD2, upd_same⟩ (fun j H2 _ p => (g.trans p.1).seqT hB) (fun j x H2 ex p => ?_) (fun H2 p => ?_)
      · obtain ⟨g2, hD2⟩ := p
        obtain ⟨dx, e1, dv⟩ := hDs.at' ex
        rw [List.getElem?_map] at e1
        obtain ⟨r, er, rfl⟩ := Option.map_eq_some_iff.mp e1
        have hrl := (hrs r (List.mem_of_getElem? er)).1
        refine ⟨rfl, yesT ⟨x, rfl, .int (0 + (a : Int)), rfl, row_ix (dv.gr (g.trans g2)) (Int.zero_add _) (by omega) ⟨_, hD2, ?_, g2.wr nD2, ?_⟩⟩⟩
        · rw [List.length_map, List.length_map, List.length_take]
          exact small1000 (by omega)
        · rw [upd_same, List.take_add_one, er, List.map_append, List.map_append]
          rfl
      · obtain ⟨g2, hD2⟩ := p
        rw [hxl, List.take_length] at hD2
        have hD' := g2.lst hD
        refine ⟨sz, v, D2, rs.map fun r => r.getD a 0, tab, k, rfl, hsz, hv.gr (g.trans g2), .inl (.inl hD2), fun x hx => ?_, by rw [List.length_map]; exact hl3, by rw [List.length_map]; exact ht, _, hD', ?_, (g.trans g2).wr nD, ha2, ?_⟩
        · obtain ⟨r, hr, rfl⟩ := List.mem_map.mp hx
          have := hrs r hr
          have ha3 : a < r.length := by omega
          rw [List.getD_eq_getElem?_getD, List.getElem?_eq_getElem ha3]
          exact this.2 _ (List.getElem_mem ha3)
        · rw [List.length_map, List.length_map, List.length_range]
          exact small1000 (by omega)
        · rw [upd_same, List.range_succ, List.map_append, List.map_append]
          rfl
    · obtain ⟨g, _, hD⟩ := p
      have e : (ar : Int).toNat = ar := by omega
      rw [e] at hD
      exact ⟨D, _, rfl, .inl ⟨.inl (.inl hD), fun l nl => q _ _ (g.trans (Gx.new nl)) (.row upd_same)⟩⟩

end K15

set_option Elab.async false
set_option linter.all false
set_option maxRecDepth 100000
namespace MR
def minOf : List Int → Int
  | [] => 0
  | n :: ns => ns.foldl min n
def maxOf : List Int → Int
  | [] => 0
  | n :: ns => ns.foldl max n
/-- the ascending arrangement -/
def ins (x : Int) : List Int → List Int
  | [] => [x]
  | y :: ys => if x ≤ y then x :: y :: ys else y :: ins x ys
def isort : List Int → List Int
  | [] => []
  | x :: xs => ins x (isort xs)
theorem ins_perm (x : Int) : ∀ l, (ins x l).Perm (x :: l)
  | [] => List.Perm.refl _
  | y :: ys => by
    unfold ins
    split
    · exact List.Perm.refl _
    · exact ((ins_perm x ys).cons y).trans (List.Perm.swap x y ys)
theorem isort_perm : ∀ l, (isort l).Perm l
  | [] => List.Perm.refl _
  | x :: xs => (ins_perm x _).trans ((isort_perm xs).cons x)
theorem ins_asc (x : Int) : ∀ {l : List Int}, l.Pairwise (· ≤ ·) → (ins x l).Pairwise (· ≤ ·)
  | [], _ => List.pairwise_singleton ..
  | y :: ys, h => by
    obtain ⟨h1, h2⟩ := List.pairwise_cons.mp h
    unfold ins
    split
    · rename_i hxy
      exact List.pairwise_cons.mpr ⟨fun z hz => (List.mem_cons.mp hz).elim (fun e => e ▸ hxy) fun hz => Int.le_trans hxy (h1 z hz), h⟩
    · rename_i hxy
      refine List.pairwise_cons.mpr ⟨fun z hz => ?_, ins_asc x h2⟩
      rcases List.mem_cons.mp ((ins_perm x ys).subset hz) with e | hz
      · rw [e]
        omega
      · exact h1 z hz
theorem isort_asc : ∀ l, (isort l).Pairwise (· ≤ ·)
  | [] => List.Pairwise.nil
  | x :: xs => ins_asc x (isort_asc xs)
/-- the second of the ascending list -/
def mid (r : List Int) : Int := (isort r).getD 1 0
def dif (sz : Nat) (r : List Int) : Int := Int.fmod (r.getD 0 0 - r.getD 1 0 + r.getD 2 0) sz
def pix (r : List Int) : Int := if r.getD 1 0 = r.getD 2 0 then r.getD 1 0 else r.getD 0 0
def named (sz : Nat) : List (Nat × List Int) :=
  [(2, (allRows sz 2).map minOf), (2, (allRows sz 2).map maxOf), (3, (allRows sz 3).map mid), (3, (allRows sz 3).map (dif sz)), (1, List.replicate sz 0), (3, (allRows sz 3).map pix)]
/-- two ascending arrangements are one -/
theorem sorted_one : ∀ {l m : List Int}, l.Perm m → l.Pairwise (· ≤ ·) → m.Pairwise (· ≤ ·) → l = m
  | [], m, h, _, _ => (List.nil_perm.mp h).symm
  | a :: l, [], h, _, _ => absurd h.length_eq (by simp)
  | a :: l, b :: m, h, h1, h2 => by
    have ha : a ∈ b :: m := h.subset List.mem_cons_self
    have hb : b ∈ a :: l := h.symm.subset List.mem_cons_self
    have e : a = b := by
      rcases List.mem_cons.mp ha with e | ha
      · exact e
      · rcases List.mem_cons.mp hb with e | hb
        · exact e.symm
        · exact Int.le_antisymm ((List.pairwise_cons.mp h1).1 b hb) ((List.pairwise_cons.mp h2).1 a ha)
    subst e
    rw [sorted_one (List.perm_cons a |>.mp h) (List.pairwise_cons.mp h1).2 (List.pairwise_cons.mp h2).2]
theorem mid_eq {r l : List Int} (h : l.Perm r) (hs : l.Pairwise (· ≤ ·)) : l.getD 1 0 = mid r := by
  unfold mid
  rw [sorted_one (h.trans (isort_perm r).symm) hs (isort_asc r)]
/-- an operation of so many arguments: its table -/
structure OpOk (sz k : Nat) (tab : List Int) : Prop where
  k1 : 1 ≤ k
  k3 : k ≤ 3
  len : tab.length = sz ^ k
  val : ∀ x ∈ tab, 0 ≤ x ∧ x < (sz : Int)
  /-- equal arguments give themselves, or all give zero -/
  own : (∀ v : Nat, v < sz → tab.getD (idxI sz (List.replicate k (v : Int))).toNat 0 = v) ∨ (∀ x ∈ tab, x = 0)
def opB (sz : Nat) (o : Nat × List Int) : Bool :=
  decide (1 ≤ o.1) && decide (o.1 ≤ 3) && decide (o.2.length = sz ^ o.1) && (o.2.all fun x => decide (0 ≤ x) && decide (x < (sz : Int))) &&
    (((List.range sz).all fun v => decide (o.2.getD (idxI sz (List.replicate o.1 (v : Int))).toNat 0 = v)) || o.2.all fun x => decide (x = 0))
theorem op_by {sz : Nat} {o : Nat × List Int} (h : opB sz o = true) : OpOk sz o.1 o.2 := by
  unfold opB at h
  simp only [Bool.and_eq_true, Bool.or_eq_true, decide_eq_true_eq, List.all_eq_true, List.mem_range] at h
  obtain ⟨⟨⟨⟨h1, h2⟩, h3⟩, h4⟩, h5⟩ := h
  exact ⟨h1, h2, h3, h4, h5⟩
theorem named_ok1 : (named 1).all (opB 1) = true := by decide +kernel
theorem named_ok2 : (named 2).all (opB 2) = true := by decide +kernel
theorem named_ok3 : (named 3).all (opB 3) = true := by decide +kernel
theorem named_ok4 : (named 4).all (opB 4) = true := by decide +kernel
theorem named_ok {sz : Nat} (h1 : 1 ≤ sz) (h4 : sz ≤ 4) : ∀ o ∈ named sz, OpOk sz o.1 o.2 := fun o ho => by
  have e : sz = 1 ∨ sz = 2 ∨ sz = 3 ∨ sz = 4 := by omega
  rcases e with rfl | rfl | rfl | rfl
  · exact op_by (List.all_eq_true.mp named_ok1 o ho)
  · exact op_by (List.all_eq_true.mp named_ok2 o ho)
  · exact op_by (List.all_eq_true.mp named_ok3 o ho)
  · exact op_by (List.all_eq_true.mp named_ok4 o ho)
end MR

set_option Elab.async false
set_option linter.all false
set_option maxRecDepth 100000
set_option maxHeartbeats 4000000
/-! min, max, sorted of a tuple of ints; tuple * 1 -/
namespace PyProof.Rows
open PySem
open Sem (wp)
section
variable {prog : Program} {w : World} {A : Around} {E : Value → Shared → Prop} {s : Shared}
theorem collect_tupleI {l : Addr} {vs : List Value} {Q : List Value → Shared → Prop} (hl : IsTup s.heap l vs.toArray)
    (h : Q vs { s with heap := (s.heap.push (seqObj "list" #[] 0)).update s.heap.objs.size (Obj.mapSeq (· ++ vs.toArray)) }) (hsz : vs.length ≤ sizeLine) :
    wpAny (model prog w) A (collect (.ref l)) Q E s := by
  obtain ⟨o, ho, hc, n, hd⟩ := id hl
  unfold collect
  refine wpAny_bind (wpAny_runValue (codeAny_builtin entry_proto_collect' ?_))
  show wpAny _ _ (do again (.builtin "list.__iadd__" ⟨[← newList [], .ref l], []⟩)) _ _ s
  refine wpAny_bind (wpAny_newList (wpAny_pure ⟨Code.quiet_builtin _ (by decide +kernel), codeAny_builtin entry_list_iadd' ?_⟩))
  show wpAny _ _ (Builtin.List.listExtendWith (.ref s.heap.objs.size) (.ref l) (.ref s.heap.objs.size)) _ _ { s with heap := s.heap.push (seqObj "list" #[] 0) }
  unfold Builtin.List.listExtendWith
  have ho' : (s.heap.push (seqObj "list" #[] 0)).get? l = some o := Heap.get?_push_of_some _ ho
  refine wpAny_bind (wpAny_typeOf (T := "tuple") ⟨o, ho', hc⟩ ?_)
  have ht : (Value.type "tuple" == Value.type "tuple") = true := by rfl
  rw [if_pos (by rw [ht]; simp)]
  refine wpAny_bind (listItems_at ho' hd ?_)
  refine wpAny_bind (listItems_at (xs := #[]) (n := 0) (Heap.get?_push_size _ rfl) rfl ?_)
  rw [if_neg (by simp)]
  refine wpAny_bind (listUpdate_at (xs := #[]) (n := 0) (Heap.get?_push_size _ rfl) rfl ?_ (Nat.zero_le _) (by show (#[] ++ vs.toArray).size ≤ sizeLine + 1; simp only [Array.size_append, List.size_toArray, List.length_nil]; omega))
  refine wpAny_pure ?_
  show wpAny (model prog w) A (do
      let o ← load s.heap.objs.size
      match o.data with
      | .seq xs _ => pure xs.toList
      | _ => unsupported "internal:collect") Q E { s with heap := (s.heap.push (seqObj "list" #[] 0)).update s.heap.objs.size (Obj.mapSeq (· ++ vs.toArray)) }
  refine wpAny_bind (wpAny_load (get?_update_seq (Heap.get?_push_size _ rfl) _) ?_)
  show wpAny _ _ (pure ((#[] : Array Value) ++ vs.toArray).toList) Q E _
  rw [show ((#[] : Array Value) ++ vs.toArray).toList = vs by simp]
  exact wpAny_pure h
theorem sorted_intsT {l : Addr} {vs : List Value} {ns : List Int} {Q : Value → Shared → Prop} (hl : IsTup s.heap l vs.toArray) (hI : IntsAre vs ns) (h64 : vs.length < 64)
    (h : ∀ (out : Array Value) (ns' : List Int), IntsAre out.toList ns' → ns'.Perm ns → ns'.Pairwise (· ≤ ·) → Q (.ref (s.heap.objs.size + 1)) { s with heap := sortedAll s.heap vs out }) :
    wpAny (model prog w) A (call (.builtin "sorted") [.ref l]) Q E s := by
  refine Calls.call_function_entry kind_sorted plain_sorted entry_sorted (args_sorted1 _) ?_
  unfold Builtin.«sorted»
  refine wpAny_bind (m := checkCount "sorted" 1 1 _) (wpAny_pure ?_)
  refine wpAny_bind (collect_tupleI hl ?_ (by rw [sizeLine_eq]; omega))
  refine wpAny_bind (wpAny_newList ?_)
  have hsz : ((s.heap.push (seqObj "list" #[] 0)).update s.heap.objs.size (Obj.mapSeq (· ++ vs.toArray))).objs.size = s.heap.objs.size + 1 := by
    rw [Heap.size_update, size_push']
  have hoL : (((s.heap.push (seqObj "list" #[] 0)).update s.heap.objs.size (Obj.mapSeq (· ++ vs.toArray))).push (seqObj "list" vs.toArray 0)).get? (s.heap.objs.size + 1) = some (seqObj "list" vs.toArray 0) := by
    rw [← hsz]; exact Heap.get?_push_size _ rfl
  show wpAny _ _ _ _ _ { s with heap := ((s.heap.push (seqObj "list" #[] 0)).update s.heap.objs.size (Obj.mapSeq (· ++ vs.toArray))).push (seqObj "list" vs.toArray 0) }
  rw [hsz]
  refine wpAny_bind (wpAny_holding (wpAny_call_entry slot_list_sort ⟨_, hoL, rfl⟩ entry_list_sort (list_sort_tree hoL hI h64 fun out ns' a1 a2 a3 => ⟨_, rfl, ?_⟩) (args_list_sort _)))
  exact wpAny_pure ⟨_, rfl, h out ns' a1 a2 a3⟩
end
end PyProof.Rows
namespace TK
open PySem PySem.Spec PyProof.Rows L2
section
variable {X : Cx}
theorem dpAll_ints {K : PySem.W.Frag} {H : Hp} : ∀ ns : List Int, DpAll K H (ns.map V.int) (ns.map PyData.int)
  | [] => .nil
  | n :: ns => .cons (.int n) (dpAll_ints ns)
theorem alikeInts (ns : List Int) : PySem.W.AlikeAll (ns.map PyData.int) := by
  refine ⟨fun x hx y hy => ?_, fun x hx => ?_⟩
  · obtain ⟨n, _, rfl⟩ := List.mem_map.mp hx
    obtain ⟨m, _, rfl⟩ := List.mem_map.mp hy
    rfl
  · obtain ⟨n, _, rfl⟩ := List.mem_map.mp hx
    exact fun z => by cases z
theorem depthInts : ∀ ns : List Int, PyData.depthAll (ns.map PyData.int) ≤ 1
  | [] => Nat.zero_le _
  | n :: ns => Nat.max_le.mpr ⟨by show PyData.depth (.int n) ≤ 1; simp [PyData.depth], depthInts ns⟩
/-- sorted(a tuple of ints) -/
def rSortedTI (K : PySem.W.Frag) : List V → Hp → VK → Prop := fun vs H Q => ∃ (a : Addr) (ns : List Int), vs = [V.ref a] ∧ SqT K H a (ns.map V.int) ∧ ns.length < 64 ∧ ∀ (ns' : List Int) (p : Addr), ns'.Perm ns → ns'.Pairwise (· ≤ ·) → H p = none → Q (.ref p) (upd H p (.lst (ns'.map V.int)))
theorem cr_sortedTI (K : PySem.W.Frag) (hK : X.K = K := by rfl) : CallR X (.builtin "sorted") (rSortedTI K) := by
  subst hK
  intro pins s σ H vs us Q I r h
  obtain ⟨a, ns, rfl, hs, h64, q⟩ := h
  obtain ⟨its, rv, hl, _⟩ := I.tuple hs
  rw [Vals.ref1 r]
  have hi := rv.ints
  refine PyProof.Rows.sorted_intsT hl hi (by rw [hi.length]; exact h64) fun out ns' h1 h2 h3 => ?_
  obtain ⟨ep, he'⟩ := PyProof.Rows.sortedAll_at s.heap its out
  have hlen : (ns'.map V.int).length ≤ sizeLine := by rw [List.length_map, h2.length_eq]; exact small64 h64
  exact ⟨.ref _, upd H (s.heap.objs.size + 1) (.lst (ns'.map V.int)), I.laid (t' := s.toks) (fun _ _ => PyProof.Rows.sortedAll_old) (Nat.le_succ _) ⟨hlen, out.toList, ep, vals_of_ints h1, he'⟩, rfl, q ns' _ h2 h3 (I.hok.fresh (Nat.le_succ _))⟩
/-- min, max of a tuple of ints -/
def rMinT (K : PySem.W.Frag) : List V → Hp → VK → Prop := fun vs H Q => ∃ (a : Addr) (n : Int) (ns : List Int), vs = [V.ref a] ∧ SqT K H a ((n :: ns).map V.int) ∧ Q (.int (ns.foldl min n)) H
def rMaxT (K : PySem.W.Frag) : List V → Hp → VK → Prop := fun vs H Q => ∃ (a : Addr) (n : Int) (ns : List Int), vs = [V.ref a] ∧ SqT K H a ((n :: ns).map V.int) ∧ Q (.int (ns.foldl max n)) H
theorem cr_minT (K : PySem.W.Frag) (hc : X.calm = true) (hu : X.A.units + 8 < cLine) (hK : X.K = K := by rfl) : CallR X (.builtin "min") (rMinT K) := by
  subst hK
  intro pins s σ H vs us Q I r h
  obtain ⟨a, n, ns, rfl, hs, q⟩ := h
  obtain ⟨its, rv, hl, _⟩ := I.tuple hs
  rw [Vals.ref1 r]
  obtain ⟨as, hr⟩ := Dp.readsAll I ((n :: ns).map PyData.int) _ its (dpAll_ints _) rv
  refine PySem.W.min_tuple_data (I.ok.hd hc) hl (by simpa using hr) (alikeInts (n :: ns)) (by have := depthInts (n :: ns); have e : PyData.depthAll (PyData.int n :: ns.map PyData.int) ≤ 1 := this; omega) fun i v h' tk bs _ hrd hk => ?_
  rw [PySem.W.minD_ints] at hrd
  cases hrd with
  | int i t => exact ⟨.int _, H, I.kept hk, ⟨t, rfl⟩, q⟩
theorem cr_maxT (K : PySem.W.Frag) (hc : X.calm = true) (hu : X.A.units + 8 < cLine) (hK : X.K = K := by rfl) : CallR X (.builtin "max") (rMaxT K) := by
  subst hK
  intro pins s σ H vs us Q I r h
  obtain ⟨a, n, ns, rfl, hs, q⟩ := h
  obtain ⟨its, rv, hl, _⟩ := I.tuple hs
  rw [Vals.ref1 r]
  obtain ⟨as, hr⟩ := Dp.readsAll I ((n :: ns).map PyData.int) _ its (dpAll_ints _) rv
  refine PySem.W.max_tuple_data (I.ok.hd hc) hl (by simpa using hr) (alikeInts (n :: ns)) (by have := depthInts (n :: ns); have e : PyData.depthAll (PyData.int n :: ns.map PyData.int) ≤ 1 := this; omega) fun i v h' tk bs _ hrd hk => ?_
  rw [PySem.W.maxD_ints] at hrd
  cases hrd with
  | int i t => exact ⟨.int _, H, I.kept hk, ⟨t, rfl⟩, q⟩
end
end TK

set_option Elab.async false
set_option linter.all false
set_option maxRecDepth 100000
set_option maxHeartbeats 4000000
/-! a tuple of one int, times k (1 to 4) -/
namespace TK
open PySem PySem.Spec PyProof.Rows L2
theorem tuple_mul1 (l : Addr) (items : Array Value) (n : Nat) (dd : Option Addr) (sl : Array (Option Value)) (u : Tok) :
    Meets (Builtin.«tuple.__mul__» ⟨[.ref l, .int 1 u], []⟩) (fun _ R s => s.heap.get? l = some { cls := .type "tuple", dict := dd, data := .seq items n, slots := sl } ∧ R (.ok (.ret (Value.ref l))) s) :=
  .of_wp fun prog w A R s h => by
    obtain ⟨hp, g, d, tk, os⟩ := s
    obtain ⟨hl, h⟩ := h
    have f1 := AutoSeq1.idx_int
    wp_walk using wpAny_loadPart' hl
    repeat (first
      | (refine wpAny_ite_false (decide_eq_false (by decide)) ?_; wp_walk using wpAny_loadPart' hl)
      | (refine wpAny_ite_true (decide_eq_true (by simp)) ?_; wp_walk using wpAny_loadPart' hl))
    exact ⟨_, rfl, h⟩
def rRepA (K : PySem.W.Frag) : R2 := fun x y H Q => ∃ l k xs, x = .ref l ∧ y = .int k ∧ SqT K H l xs ∧ xs ≠ [] ∧ 1 ≤ k ∧ k ≤ 1000 ∧ xs.length ≤ 1000 ∧ (k = 1 → Q (.ref l) H) ∧ (2 ≤ k → ∀ p, H p = none → Q (.ref p) (upd H p (.tup (List.replicate k.toNat xs).flatten)))
theorem op_repA {X : Cx} (K : PySem.W.Frag) (hK : X.K = K := by rfl) : OpR X (binaryOp .Mult) (rRepA K) := by
  subst hK
  intro pins s σ H x y v u Q I rx ry h
  obtain ⟨l, k, xs, rfl, rfl, hT, hne, h1, h2, hz, q1, q2⟩ := h
  by_cases hk : k = 1
  · subst hk
    cases rx
    obtain ⟨t, rfl⟩ := ry
    obtain ⟨its, r, ⟨⟨cls, dd, data, sl⟩, ho, hc, n, hd⟩, hs⟩ := I.tuple hT
    simp only at hc hd
    subst hc hd
    refine wpAny_binaryOp_repeat_ref (T := "tuple") (U := "int") (by decide) ⟨_, ho, rfl⟩ (fun s' => typeIs_int s' 1 t) noFill_tuple_mul F.fills_int_mul F.slot_int_rmul repeat_tuple F.slot_int_index.lookup
      (call_meets F.slot_int_rmul (typeIs_int s 1 t) F.entry_int_rmul (F.args_int_rmul_2 _ _) (int_rmul_tuple 1 t l its.toArray n dd sl)
        ⟨ho, rfl, ⟨_, ho, rfl⟩, call_meets F.slot_tuple_mul ⟨_, ho, rfl⟩ F.entry_tuple_mul (F.args_tuple_mul_2 _ _) (tuple_mul1 l its.toArray n dd sl t) ⟨ho, ?_⟩⟩)
    exact ⟨.ref l, H, I, rfl, q1 rfl⟩
  · exact op_repT pins s σ H (.ref l) (.int k) v u Q I rx ry ⟨l, k, xs, rfl, rfl, hT, hne, by omega, h2, hz, q2 (by omega)⟩
end TK

set_option Elab.async false
set_option linter.all false
set_option maxRecDepth 100000
set_option maxHeartbeats 4000000
namespace K15
open PySem PySem.Spec PyProof.Rows L2 TK MR
variable {P : Program} {w : World} {K : PySem.W.Frag} {mg : Str → Option Value} {base : Heap}
/-- [f(told) for told in a list of rows], f an int -/
theorem lc_ints {a : Addr} {xs : List V} {rows : List (List Int)} {te : TE} {j : Nat} {vs : List Nat} {σ : L2.St} {H1 : Hp} {D : Addr} {Qd : Hp → Prop} (f : List Int → Int) (hx : DTs K H1 xs (rows.map rowD)) (ha : SqL K H1 a xs) (hl : rows.length ≤ 900) (nD : H1 D = none)
    (hw : ∀ x, wipe ((wipe σ vs).set j (some x)) vs = wipe σ vs)
    (ht : ∀ x r H2 (k : VK), r ∈ rows → Gr H1 H2 → DT K H2 x (rowD r) → (∀ H3, Gr H2 H3 → k (.int (f r)) H3) → te ((wipe σ vs).set j (some x)) H2 k)
    (hd : ∀ H2, Gr H1 H2 → H2 D = some (.lst ((rows.map f).map V.int)) → Qd H2) :
    ∃ W : Nat → Nat → Hp → Prop, (∃ m, W 0 m (upd H1 D (.lst []))) ∧ ∀ i m H, W i m H →
      ((Itl K a).stop i H ∧ Qd H) ∨ ((Itl K a).go i H ∧ ∃ Nx : Hp → Prop, (∀ H', Nx H' → ∃ m', m' < m ∧ W (i + 1) m' H') ∧ ∀ x H', (Itl K a).yld i H x H' → gName j x (wipe σ vs) H' fun σ2 H2 => wipe σ2 vs = wipe σ vs ∧ tYes σ2 H2 fun b H3 =>
        if b = true then te σ2 H3 fun y H4 => ∃ acc, H4 D = some (.lst acc) ∧ acc.length < sizeLine ∧ Nx (upd H4 D (.lst (acc ++ [y]))) else Nx H3) := by
  have lx : xs.length = rows.length := by rw [hx.1, List.length_map]
  refine lc_list (K := K) (a := a) (xs := xs) (fun i H' => Gr H1 H' ∧ H' D = some (.lst (((rows.take i).map f).map V.int))) ⟨Gx.new nD, upd_same⟩ (fun i H' _ p => p.1.seqL ha) (fun i x H' ex p => ?_) (fun H' p => ?_)
  · obtain ⟨g, hD⟩ := p
    obtain ⟨dx, e1, dv⟩ := hx.at' ex
    rw [List.getElem?_map] at e1
    obtain ⟨r, er, rfl⟩ := Option.map_eq_some_iff.mp e1
    refine ⟨hw x, yesT (ht x r H' _ (List.mem_of_getElem? er) g (dv.gr g) fun H3 g3 => ⟨_, g3.lst hD, ?_, (g.trans g3).wr nD, ?_⟩)⟩
    · rw [List.length_map, List.length_map, List.length_take]
      exact small1000 (by omega)
    · rw [upd_same, List.take_add_one, er, List.map_append, List.map_append]
      rfl
  · obtain ⟨g, hD⟩ := p
    rw [lx, List.take_length] at hD
    exact hd H' g hD
/-- (k, tuple) laid -/
theorem op_laid {H : Hp} {l t : Addr} {k : Int} {tab : List Int} (h : H l = some (.tup (tab.map V.int))) (ht : H t = none) : DT K (upd H t (.tup [.int k, .ref l])) (.ref t) (opD k tab) :=
  .mk upd_same (.cons (.int k) (.one (.row (Gx.tupS (Gx.new (S := []) ht) .nil h))))
/-- a list of operations at p -/
def LO (K : PySem.W.Frag) (H : Hp) (p : Addr) (os : List (Nat × List Int)) : Prop := ∃ vs, H p = some (.lst vs) ∧ DTs K H vs (os.map fun o => opD o.1 o.2)
theorem LO.gr {H H' : Hp} {p : Addr} {os : List (Nat × List Int)} (g : Gr H H') (h : LO K H p os) : LO K H' p os := let ⟨vs, a, b⟩ := h; ⟨vs, g.lst a, b.gr g⟩
/-- found.append(op) -/
theorem LO.add {H : Hp} {p : Addr} {os : List (Nat × List Int)} (h : LO K H p os) (hl : os.length ≤ 900) {v : V} {o : Nat × List Int} (hv : DT K H v (opD o.1 o.2)) (Q : VK) (q : ∀ H', (∀ b, b ≠ p → H' b = H b) → LO K H' p (os ++ [o]) → Q .non H') : rAppend (.ref p) [v] H Q := by
  obtain ⟨vs, a, b⟩ := h
  refine ⟨p, vs, v, rfl, rfl, a, ?_, q _ (fun c hc => upd_ne hc) ⟨_, upd_same, ?_⟩⟩
  · rw [b.1, List.length_map]
    exact small1000 (by omega)
  · rw [List.map_append]
    exact (b.wr a).app (.one (DT.wr a hv))
theorem grBut {H H1 H2 : Hp} {p : Addr} (g : Gr H H1) (n : H p = none) (h : ∀ b, b ≠ p → H2 b = H1 b) : Gr H H2 := fun b o hb e => by
  rw [h b (ne_of_none e n)]
  exact g b o hb e
/-- (k, tuple([f(told) for told in a list of rows])) -/
theorem pair_ints {wi : TI} {te : TE} {σ : L2.St} {H : Hp} {Q : VK} {rows : List (List Int)} (k : Int) (f : List Int → Int) (hwi : ∀ R : It → Hp → Prop, (∀ p xs H1, Gr H H1 → SqL K H1 p xs → DTs K H1 xs (rows.map rowD) → R (Itl K p) H1) → wi σ H R) (hl : rows.length ≤ 900)
    (ht : ∀ x r H2 (k : VK), r ∈ rows → Gr H H2 → DT K H2 x (rowD r) → (∀ H3, Gr H2 H3 → k (.int (f r)) H3) → te ((wipe σ [2]).set 2 (some x)) H2 k)
    (q : ∀ v H', Gr H H' → DT K H' v (opD k (rows.map f)) → Q v H') (hw : ∀ x, wipe ((wipe σ [2]).set 2 (some x)) [2] = wipe σ [2] := by intro _; rfl) : tTup (tCons (tC (.int k)) (tCons (tCB (rTupleOf K) (tCons (tLc wi (gName 2) tYes te [2]) tNil)) tNil)) σ H Q := by
  refine hwi _ fun p xs H1 g1 hS hD D nD => ?_
  refine lc_ints (K := K) (xs := xs) (rows := rows) f hD hS hl nD hw (fun x r H2 k hr g dv kk => ht x r H2 k hr (g1.trans g) dv kk) fun H2 g2 hD2 => ?_
  refine ⟨D, _, rfl, .inl ⟨.inl (.inl hD2), fun l nl => ⟨by show 2 ≤ sizeLine; decide, fun t nt => ?_⟩⟩⟩
  exact q _ _ (((g1.trans g2).trans (Gx.new nl)).trans (Gx.new nt)) (op_laid upd_same nt)
/-- found.append(such a pair) -/
theorem app_op {te : TE} {u : TS} {D : Ends} {σ : L2.St} {H0 H : Hp} {p : Addr} {os : List (Nat × List Int)} (o : Nat × List Int) (hσ : σ[1]? = some (some (.ref p))) (hl : LO K H p os) (hn : os.length ≤ 900) (g : Gr H0 H) (np : H0 p = none)
    (hp : ∀ Q : VK, (∀ v H', Gr H H' → DT K H' v (opD o.1 o.2) → Q v H') → te σ H Q) (q : ∀ H', Gr H0 H' → Gx [p] H H' → LO K H' p (os ++ [o]) → u D σ H') : tSeq (tDrop (tBM K "list" rAppend (tVar 1) (tCons te tNil))) u D σ H := by
  refine ⟨.ref p, hσ, .inl ⟨rfl, _, .inl (.inl hl.choose_spec.1)⟩, hp _ fun v H' g' dv => ?_⟩
  exact (hl.gr g').add hn dv (fun _ H2 => u D σ H2) fun H2 hb hl2 => q H2 (grBut (g.trans g') np hb) (fun b o hb' e => by
    rw [hb b (fun z => hb' (List.mem_singleton.mpr z))]
    exact g' b o (by simp) e) hl2
/-- found = [such a pair] -/
theorem first_op {te : TE} {u : TS} {D : Ends} {σ : L2.St} {H : Hp} (o : Nat × List Int) (hp : ∀ Q : VK, (∀ v H', Gr H H' → DT K H' v (opD o.1 o.2) → Q v H') → te σ H Q)
    (q : ∀ p H', Gr H H' → H p = none → LO K H' p [o] → u D (σ.set 1 (some (.ref p))) H') : tSeq (tAsg (tLst (tCons te tNil)) (gName 1)) u D σ H :=
  hp _ fun v H1 g1 dv => ⟨by show 1 ≤ sizeLine; decide, fun p np => q p _ (g1.trans (Gx.new np)) (g1.free np) ⟨_, upd_same, .one (dv.gr (Gx.new np))⟩⟩
/-- return found + [such a pair] -/
theorem ret_op {te : TE} {D : Ends} {σ : L2.St} {H0 H : Hp} {p : Addr} {os : List (Nat × List Int)} (o : Nat × List Int) (hσ : σ[1]? = some (some (.ref p))) (hl : LO K H p os) (hn : os.length ≤ 900) (g : Gr H0 H)
    (hp : ∀ Q : VK, (∀ v H', Gr H H' → DT K H' v (opD o.1 o.2) → Q v H') → te σ H Q) (q : ∀ l H', Gr H0 H' → H0 l = none → LO K H' l (os ++ [o]) → D.rt (.ref l) H') : tRet (tOp rCat (tVar 1) (tLst (tCons te tNil))) D σ H := by
  refine ⟨.ref p, hσ, hp _ fun v H7 g7 dv => ⟨by show 1 ≤ sizeLine; decide, fun p7 np7 => ?_⟩⟩
  obtain ⟨vs, ev, dvs⟩ := hl
  have ev7 := g7.lst ev
  have hpp : p ≠ p7 := fun z => by
    rw [z] at ev7
    rw [ev7] at np7
    cases np7
  refine ⟨p, p7, vs, [v], rfl, rfl, by rw [upd_ne hpp]; exact ev7, upd_same, ?_, fun p8 np8 => ?_⟩
  · rw [dvs.1, List.length_map]
    exact Nat.le_of_lt (small1000 (n := os.length + 1) (by omega))
  · have gl : Gr H0 (upd (upd H7 p7 (.lst [v])) p8 (.lst (vs ++ [v]))) := ((g.trans g7).trans (Gx.new np7)).trans (Gx.new np8)
    refine q p8 _ gl (((g.trans g7).trans (Gx.new np7)).free np8) ⟨_, upd_same, ?_⟩
    have g8 : Gr H (upd (upd H7 p7 (.lst [v])) p8 (.lst (vs ++ [v]))) := (g7.trans (Gx.new np7)).trans (Gx.new np8)
    rw [List.map_append]
    exact (dvs.gr g8).app (.one (dv.gr ((Gx.new np7).trans (Gx.new np8))))
/-- told[a] -/
theorem ixc {σ : L2.St} {H : Hp} {i a : Nat} {x : V} {r : List Int} {Q : VK} (hσ : σ[i]? = some (some x)) (hd : DT K H x (rowD r)) (hc : a < r.length) (q : Q (.int (r.getD a 0)) H) : tOp (rIxT K) (tVar i) (tC (.int (a : Int))) σ H Q := by
  refine ⟨x, hσ, ?_⟩
  dsimp only [tC]
  exact row_ix hd rfl hc q
/-! _law_named -/
def sp_law_named (K : PySem.W.Frag) : Sp := fun vs H Q _ => ∃ sz : Nat, vs = [.int sz] ∧ 1 ≤ sz ∧ sz ≤ 4 ∧ ∀ p H', Gr H H' → H p = none → LO K H' p (named sz) → Q (.ref p) H'
theorem ok_law_named (T : Txt K mg base) : FnOk P w K mg base CX0 2 T.law_named.f T.law_named.fd p_law_named (sp_law_named K) := by
  refine T.law_named.F.ok sc_law_named (fun vs H Q E h => ?_) (fun A outer s H vs Q E hr h => ?_)
  · obtain ⟨_, rfl, _⟩ := h
    rfl
  · obtain ⟨sz, rfl, h1, h4, q⟩ := h
    have hu8 : (A.deeper (envOfC "_law_named" (defScope s_law_named) s.heap.objs.size T.law_named.f (.ref T.law_named.c))).units + 8 < cLine := by have := hr.units; omega
    refine ⟨_, pss_cons (ps_set (i := 1) sc_law_named.nd rfl (.inl rfl) (pe_lst (pa_cons (pe_tup (pa_cons pe_int (pa_cons (pe_callTy (call_tuple_ofK K) (by rfl) T.b_tuple boot_tuple (pa_cons
        (pe_lc (own := [("told", 2)]) (g := gName 2) (tt := tYes) rfl sc_law_named.nd (pi_listK K (pe_call (ok_law_rows T) hr (by rfl) T.law_rows.g T.law_rows.F.kp T.law_rows.b .nil pass0 (pa_cons (pv 0) (pa_cons pe_int pa_nil))))
          (blkOk_by (N := n_law_named) (sc := defScope s_law_named) (by decide +kernel)) (fun _ _ _ _ _ => pg_name (i := 2) sc_law_named.nd rfl (Or.inl rfl)) (fun _ _ _ _ _ => pts_nil)
          (fun _ _ _ _ _ => pe_callB (cr_minT K rfl hu8) (by rfl) T.b_min boot_min (pa_cons (pv 2) pa_nil))) pa_nil)) pa_nil))) pa_nil)))
      (pss_cons (ps_expr (pe_bm PySem.F.plainAttrs_list PySem.F.slot_list_append PySem.F.type_list_append mt_append (pv 1) (pa_cons (pe_tup (pa_cons pe_int (pa_cons (pe_callTy (call_tuple_ofK K) (by rfl) T.b_tuple boot_tuple (pa_cons
        (pe_lc (own := [("told", 2)]) (g := gName 2) (tt := tYes) rfl sc_law_named.nd (pi_listK K (pe_call (ok_law_rows T) hr (by rfl) T.law_rows.g T.law_rows.F.kp T.law_rows.b .nil pass0 (pa_cons (pv 0) (pa_cons pe_int pa_nil))))
          (blkOk_by (N := n_law_named) (sc := defScope s_law_named) (by decide +kernel)) (fun _ _ _ _ _ => pg_name (i := 2) sc_law_named.nd rfl (Or.inl rfl)) (fun _ _ _ _ _ => pts_nil)
          (fun _ _ _ _ _ => pe_callB (cr_maxT K rfl hu8) (by rfl) T.b_max boot_max (pa_cons (pv 2) pa_nil))) pa_nil)) pa_nil))) pa_nil)))
      (pss_cons (ps_set (i := 3) sc_law_named.nd rfl (.inl rfl) (pe_call (ok_law_rows T) hr (by rfl) T.law_rows.g T.law_rows.F.kp T.law_rows.b .nil pass0 (pa_cons (pv 0) (pa_cons pe_int pa_nil))))
      (pss_cons (ps_expr (pe_bm PySem.F.plainAttrs_list PySem.F.slot_list_append PySem.F.type_list_append mt_append (pv 1) (pa_cons (pe_tup (pa_cons pe_int (pa_cons (pe_callTy (call_tuple_ofK K) (by rfl) T.b_tuple boot_tuple (pa_cons
        (pe_lc (own := [("told", 2)]) (g := gName 2) (tt := tYes) rfl sc_law_named.nd (pi_listK K (pv 3))
          (blkOk_by (N := n_law_named) (sc := defScope s_law_named) (by decide +kernel)) (fun _ _ _ _ _ => pg_name (i := 2) sc_law_named.nd rfl (Or.inl rfl)) (fun _ _ _ _ _ => pts_nil)
          (fun _ _ _ _ _ => pe_ix (ix_listK K) (pe_callB (cr_sortedTI K) (by rfl) T.b_sorted boot_sorted (pa_cons (pv 2) pa_nil)) pe_int (fun _ _ => rfl))) pa_nil)) pa_nil))) pa_nil)))
      (pss_cons (ps_expr (pe_bm PySem.F.plainAttrs_list PySem.F.slot_list_append PySem.F.type_list_append mt_append (pv 1) (pa_cons (pe_tup (pa_cons pe_int (pa_cons (pe_callTy (call_tuple_ofK K) (by rfl) T.b_tuple boot_tuple (pa_cons
        (pe_lc (own := [("told", 2)]) (g := gName 2) (tt := tYes) rfl sc_law_named.nd (pi_listK K (pv 3))
          (blkOk_by (N := n_law_named) (sc := defScope s_law_named) (by decide +kernel)) (fun _ _ _ _ _ => pg_name (i := 2) sc_law_named.nd rfl (Or.inl rfl)) (fun _ _ _ _ _ => pts_nil)
          (fun _ _ _ _ _ => pe_op op_modN (pe_callTy call_int1 (by rfl) T.b_int boot_int (pa_cons (pe_op op_add (pe_op op_sub (pe_ix (ix_tupK K) (pv 2) pe_int (fun _ _ => rfl)) (pe_ix (ix_tupK K) (pv 2) pe_int (fun _ _ => rfl))) (pe_ix (ix_tupK K) (pv 2) pe_int (fun _ _ => rfl))) pa_nil)) (pv 0))) pa_nil)) pa_nil))) pa_nil)))
      (pss_cons (ps_expr (pe_bm PySem.F.plainAttrs_list PySem.F.slot_list_append PySem.F.type_list_append mt_append (pv 1) (pa_cons (pe_tup (pa_cons pe_int (pa_cons (pe_op (op_repA K) (pe_tup (pa_cons pe_int pa_nil)) (pv 0)) pa_nil))) pa_nil)))
      (pss_one (ps_ret (pe_op op_cat (pv 1) (pe_lst (pa_cons (pe_tup (pa_cons pe_int (pa_cons (pe_callTy (call_tuple_ofK K) (by rfl) T.b_tuple boot_tuple (pa_cons
        (pe_lc (own := [("told", 2)]) (g := gName 2) (tt := tYes) rfl sc_law_named.nd (pi_listK K (pv 3))
          (blkOk_by (N := n_law_named) (sc := defScope s_law_named) (by decide +kernel)) (fun _ _ _ _ _ => pg_name (i := 2) sc_law_named.nd rfl (Or.inl rfl)) (fun _ _ _ _ _ => pts_nil)
          (fun _ _ _ _ _ => pe_ifExp (pt_cmpR op_eq (pe_ix (ix_tupK K) (pv 2) pe_int (fun _ _ => rfl)) (pe_ix (ix_tupK K) (pv 2) pe_int (fun _ _ => rfl)) (nomark _)) (pe_ix (ix_tupK K) (pv 2) pe_int (fun _ _ => rfl)) (pe_ix (ix_tupK K) (pv 2) pe_int (fun _ _ => rfl)))) pa_nil)) pa_nil))) pa_nil)))))))))), ?_⟩
    have l2 : (allRows sz 2).length ≤ 900 := Nat.le_trans (allRows_len_le h4 (by omega)) (by omega)
    have l3 : (allRows sz 3).length ≤ 900 := Nat.le_trans (allRows_len_le h4 (by omega)) (by omega)
    have rows_of : ∀ (n : Nat), n ≤ 4 → ∀ {H1 : Hp} {R : It → Hp → Prop}, (∀ p xs H2, Gr H1 H2 → SqL K H2 p xs → DTs K H2 xs ((allRows sz n).map rowD) → R (Itl K p) H2) → ∀ σ : L2.St, σ[0]? = some (some (.int sz)) → iList K (tCall (sp_all_rows K) [] E0 (tCons (tVar 0) (tCons (tC (.int (n : Int))) tNil))) σ H1 R := fun n hn H1 R hR σ hσ =>
      ⟨.int sz, hσ, sz, n, rfl, h4, hn, fun p H2 g _ hl => by
        obtain ⟨vs, a, b⟩ := hl
        exact ⟨p, rfl, ⟨vs, .inl (.inl a)⟩, hR p vs H2 g (.inl (.inl a)) b⟩⟩
    -- found = [(2, least ones)]
    refine first_op (K := K) (2, (allRows sz 2).map minOf) (fun Q' hQ => ?_) fun p H1 g0 np0 hl0 => ?_
    · refine pair_ints (K := K) (rows := allRows sz 2) 2 minOf (fun R hR => rows_of 2 (by omega) hR _ rfl) l2 (fun x r H2 k hr g dv kk => ?_) hQ
      obtain ⟨a, rfl, hS⟩ := dv.row_inv
      have hlen := (allRows_ok hr).1
      cases r with
      | nil => cases hlen
      | cons n ns => exact ⟨.ref a, rfl, a, n, ns, rfl, hS, kk H2 Gx.refl⟩
    -- found.append((2, greatest ones))
    refine app_op (K := K) (2, (allRows sz 2).map maxOf) rfl hl0 (by simp) g0 np0 (fun Q' hQ => ?_) fun H2 g2 _ hl2 => ?_
    · refine pair_ints (K := K) (rows := allRows sz 2) 2 maxOf (fun R hR => rows_of 2 (by omega) hR _ rfl) l2 (fun x r H2 k hr g dv kk => ?_) hQ
      obtain ⟨a, rfl, hS⟩ := dv.row_inv
      have hlen := (allRows_ok hr).1
      cases r with
      | nil => cases hlen
      | cons n ns => exact ⟨.ref a, rfl, a, n, ns, rfl, hS, kk H2 Gx.refl⟩
    -- three
    refine ⟨.int sz, rfl, sz, 3, rfl, h4, by omega, fun p3 H3 g3 n3 hl3 => ?_⟩
    obtain ⟨ys, hy, hyD⟩ := hl3
    have np3 : p3 ≠ p := fun z => by
      obtain ⟨vs, a, _⟩ := hl2.gr g3
      obtain ⟨vs2, b, _⟩ := hl2
      rw [z, b] at n3
      cases n3
    have three : ∀ {H4 : Hp} {R : It → Hp → Prop} {zs : List V}, H4 p3 = some (.lst zs) → DTs K H4 zs ((allRows sz 3).map rowD) → (∀ p xs H5, Gr H4 H5 → SqL K H5 p xs → DTs K H5 xs ((allRows sz 3).map rowD) → R (Itl K p) H5) → ∀ σ : L2.St, σ[3]? = some (some (.ref p3)) → iList K (tVar 3) σ H4 R := fun {H4 R zs} hz hzD hR σ hσ =>
      ⟨.ref p3, hσ, p3, rfl, ⟨zs, .inl (.inl hz)⟩, hR p3 zs H4 Gx.refl (.inl (.inl hz)) hzD⟩
    have carry : ∀ {H4 H5 : Hp} {zs : List V} {os : List (Nat × List Int)}, LO K H4 p os → Gx [p] H4 H5 → H4 p3 = some (.lst zs) → DTs K H4 zs ((allRows sz 3).map rowD) → H5 p3 = some (.lst zs) ∧ DTs K H5 zs ((allRows sz 3).map rowD) := fun {H4 H5 zs os} hl g hz hzD => by
      obtain ⟨vs, a, _⟩ := hl
      exact ⟨g.at (fun z => np3 (List.mem_singleton.mp z)) hz (fun _ z => by cases z), hzD.gx g (.one a)⟩
    have row3 : ∀ {r : List Int}, r ∈ allRows sz 3 → r.length = 3 := fun hr => (allRows_ok hr).1
    -- the middle
    refine app_op (K := K) (3, (allRows sz 3).map mid) rfl (hl2.gr g3) (by simp) (g2.trans g3) np0 (fun Q' hQ => ?_) fun H4 g4 x4 hl4 => ?_
    · refine pair_ints (K := K) (rows := allRows sz 3) 3 mid (fun R hR => three hy hyD hR _ rfl) l3 (fun x r H5 k hr g dv kk => ?_) hQ
      obtain ⟨a, rfl, hS⟩ := dv.row_inv
      refine ⟨.ref a, rfl, a, r, rfl, hS, by rw [row3 hr]; omega, fun ns' p5 hp hs np5 => ?_⟩
      have hlen : ns'.length = 3 := by rw [hp.length_eq, row3 hr]
      refine ⟨p5, _, 1, .int (mid r), rfl, rfl, .inl (.inl upd_same), atI_nat (j := 1) ?_, kk _ (Gx.new np5)⟩
      rw [← mid_eq hp hs, List.getElem?_map, List.getD_eq_getElem?_getD, List.getElem?_eq_getElem (by omega)]
      rfl
    obtain ⟨hy4, hyD4⟩ := carry (hl2.gr g3) x4 hy hyD
    -- x - y + z
    refine app_op (K := K) (3, (allRows sz 3).map (dif sz)) rfl hl4 (by simp) g4 np0 (fun Q' hQ => ?_) fun H5 g5 x5 hl5 => ?_
    · refine pair_ints (K := K) (rows := allRows sz 3) 3 (dif sz) (fun R hR => three hy4 hyD4 hR _ rfl) l3 (fun x r H6 k hr g dv kk => ?_) hQ
      have hlen := row3 hr
      refine ixc (a := 0) rfl dv (by omega) (ixc (a := 1) rfl dv (by omega) ⟨_, _, rfl, rfl, ixc (a := 2) rfl dv (by omega) ⟨_, _, rfl, rfl, .inl ⟨_, rfl, ?_⟩⟩⟩)
      exact ⟨.int sz, rfl, _, sz, rfl, rfl, (by show (sz : Int) ≠ 0; omega), kk _ Gx.refl⟩
    obtain ⟨hy5, hyD5⟩ := carry hl4 x5 hy4 hyD4
    -- all zero
    refine app_op (K := K) (1, List.replicate sz 0) rfl hl5 (by simp) g5 np0 (fun Q' hQ => ?_) fun H6 g6 x6 hl6 => ?_
    · refine ⟨by show 1 ≤ sizeLine; decide, fun t nt => ?_⟩
      refine ⟨.int sz, rfl, ?_⟩
      have g1 : ([.int 0] : List V) ≠ [] := by intro z; cases z
      have g2 : (1 : Int) ≤ (sz : Int) := by omega
      have g3 : (sz : Int) ≤ 1000 := by omega
      have g4 : ([.int 0] : List V).length ≤ 1000 := by show 1 ≤ 1000; omega
      refine ⟨t, sz, [.int 0], rfl, rfl, .inl (.inl upd_same), g1, g2, g3, g4, fun e => ?_, fun e l nl => ?_⟩
      · have e : sz = 1 := by omega
        subst e
        exact ⟨by show 2 ≤ sizeLine; decide, fun t2 nt2 => hQ _ _ ((Gx.new nt).trans (Gx.new nt2)) (op_laid (tab := [0]) upd_same nt2)⟩
      · refine ⟨by show 2 ≤ sizeLine; decide, fun t2 nt2 => hQ _ _ (((Gx.new nt).trans (Gx.new nl)).trans (Gx.new nt2)) (op_laid (tab := List.replicate sz 0) ?_ nt2)⟩
        rw [upd_same]
        have e1 : (sz : Int).toNat = sz := by omega
        rw [e1]
        have e2 : ∀ n : Nat, (List.replicate n [V.int 0]).flatten = (List.replicate n (0 : Int)).map V.int := fun n => by
          induction n with
          | zero => rfl
          | succ n ih => rw [List.replicate_succ, List.flatten_cons, ih, List.replicate_succ]; rfl
        rw [e2]
    obtain ⟨hy6, hyD6⟩ := carry hl5 x6 hy5 hyD5
    -- the first unless two agree; the end
    refine ret_op (K := K) (3, (allRows sz 3).map pix) rfl hl6 (by simp) g6 (fun Q' hQ => ?_) fun l H7 g7 nl hl7 => q l H7 g7 nl hl7
    refine pair_ints (K := K) (rows := allRows sz 3) 3 pix (fun R hR => three hy6 hyD6 hR _ rfl) l3 (fun x r H7 k hr g dv kk => ?_) hQ
    have hlen := row3 hr
    refine ixc (a := 1) rfl dv (by omega) (ixc (a := 2) rfl dv (by omega) ⟨rfl, _, rfl, ite2 (fun e => ?_) (fun e => ?_)⟩)
    · have e' : r.getD 1 0 = r.getD 2 0 := V.int.inj (of_decide_eq_true e)
      have ep : pix r = r.getD 1 0 := if_pos e'
      exact ixc (a := 1) rfl dv (by omega) (by rw [← ep]; exact kk _ Gx.refl)
    · have e' : r.getD 1 0 ≠ r.getD 2 0 := fun z => e (decide_eq_true (by rw [z]))
      have ep : pix r = r.getD 0 0 := if_neg e'
      exact ixc (a := 0) rfl dv (by omega) (by rw [← ep]; exact kk _ Gx.refl)

end K15

set_option Elab.async false
set_option linter.all false
set_option maxRecDepth 100000
set_option maxHeartbeats 4000000
/-! sorted(d), d a dict whose keys are tuples of ints -/
namespace TK
open PySem PySem.Spec PyProof.Rows L2
section
variable {X : Cx} {pins : List (Addr × Obj)} {σ : L2.St} {H : Hp} {s : Shared}
def rSortedDT (d : Nat) (B : Int) : List V → Hp → VK → Prop := fun vs H Q => ∃ (a : Addr) (kvs : List (List Key × V)), vs = [.ref a] ∧ H a = some (.dT kvs) ∧ kvs.length < 64 ∧ (∀ p ∈ kvs, ∃ ns : List Int, p.1 = ns.map Sum.inl ∧ ns.length = d ∧ TS.Bd B ns) ∧
  ∀ (bs : List Addr) (ys : List V) (p : Addr), IsKeys H kvs bs → ys.Perm (bs.map V.ref) → ys.Pairwise (fun x y => ∀ n m : List Int, (∃ t, x = .ref t ∧ H t = some (.tup (n.map V.int))) → (∃ t, y = .ref t ∧ H t = some (.tup (m.map V.int))) → TS.code B n ≤ TS.code B m) → H p = none → Q (.ref p) (upd H p (.lst ys))
theorem keys_ints (ns : List Int) : (ns.map Sum.inl : List Key).map kV = ns.map V.int := by
  rw [List.map_map]
  rfl
theorem paired_mem {α β : Type} {F : α → β → Prop} : ∀ {l : List α} {m : List β}, Paired F l m → ∀ y ∈ m, ∃ x ∈ l, F x y := by
  intro l m h
  induction h with
  | nil => intro y hy; cases hy
  | @cons p q ps qs hq t ih =>
    intro y hy
    rcases List.mem_cons.mp hy with e | hy
    · subst e
      exact ⟨p, List.mem_cons_self, hq⟩
    · obtain ⟨x, hx, e⟩ := ih y hy
      exact ⟨x, List.mem_cons_of_mem _ hx, e⟩
theorem tupI_rawS (I : Inv X pins σ H s) {t : Addr} {ns : List Int} (h : H t = some (.tup (ns.map V.int))) : TS.TupInts s.heap (.ref t) ns := tupI_raw I (.inl (.inl h))
theorem cr_sortedDT {d : Nat} {B : Int} (hd1 : 1 ≤ d) (hc : X.calm = true) : CallR X (.builtin "sorted") (rSortedDT d B) := by
  intro pins s σ H vs us Q I r h
  obtain ⟨a, kvs, rfl, ha, h64, hk, q⟩ := h
  obtain ⟨u, eu, rx⟩ := vals1 r
  subst eu
  cases rx
  obtain ⟨z, hs, ks, pr, o, es, ep, ho, hx, hdt, he, hn⟩ := (show ObjOk X.prog X.w H s.heap a (.dT kvs) from I.hok a _ ha)
  have l1 : es.size = ks.length := size_of_entries he
  have l2 : kvs.length = ks.length := Paired.length pr
  refine Calls.call_function_entry PyProof.Rows.kind_sorted PyProof.Rows.plain_sorted PyProof.Rows.entry_sorted (PyProof.Rows.args_sorted1 _) ?_
  unfold Builtin.«sorted»
  refine wpAny_bind (m := checkCount "sorted" 1 1 _) (wpAny_pure ?_)
  refine wpAny_bind (PySem.W.kdu_collect (A := X.A.in1) (kdl_raw hs hx hdt) (I.ok.hd hc) ho (by omega) fun h' tk acc kp it => ?_)
  have ea : acc.toList = (ks.map fun x => x.2.1).map Value.ref := by
    have hl : acc.toList.length = ks.length := by rw [Array.length_toList, it.1]; exact l1
    apply List.ext_getElem?
    intro j
    rw [List.map_map, List.getElem?_map]
    cases hj : acc.toList[j]? with
    | none =>
      have h1 := List.getElem?_eq_none_iff.mp hj
      rw [List.getElem?_eq_none (by omega)]
      all_goals rfl
    | some v =>
      obtain ⟨en, hen, hv⟩ := it.2 j v (by rw [← Array.getElem?_toList]; exact hj)
      have qe := entry_at he j
      rw [hen] at qe
      cases hb : ks[j]? with
      | none =>
        rw [hb] at qe
        exact nomatch (show some en = none from qe)
      | some b =>
        rw [hb] at qe
        have e2 : en = entryOfKey (tupleKind (mixKind X.prog X.w)) b := Option.some.inj qe
        rw [hv, e2]
        all_goals rfl
  have hal : acc.toList.length = ks.length := by rw [ea, List.length_map, List.length_map]
  have I1 : Inv X pins σ H { s with heap := h', toks := tk } := I.kept kp
  have key : ∀ v ∈ acc.toList, ∃ (t : Addr) (ns : List Int), v = Value.ref t ∧ H t = some (.tup (ns.map V.int)) ∧ ns.length = d ∧ TS.Bd B ns := fun v hv => by
    rw [ea, List.map_map] at hv
    obtain ⟨x, hx1, rfl⟩ := List.mem_map.mp hv
    obtain ⟨p, hp, e1, e2, _⟩ := paired_mem pr x hx1
    obtain ⟨ns, e3, e4, e5⟩ := hk p hp
    refine ⟨x.2.1, ns, rfl, ?_, e4, e5⟩
    rw [e3, keys_ints] at e2
    exact e2
  refine wpAny_bind (wpAny_newList ?_ (by rw [hal, sizeLine_eq]; omega))
  have hoL : (h'.push (seqObj "list" acc.toList.toArray 0)).get? h'.objs.size = some (seqObj "list" acc.toList.toArray 0) := Heap.get?_push_size _ rfl
  show wpAny _ _ _ _ _ { s with heap := h'.push (seqObj "list" acc.toList.toArray 0), toks := tk }
  have tk2 : ∀ (t : Addr) (ns : List Int), H t = some (.tup (ns.map V.int)) → TS.TupInts (h'.push (seqObj "list" acc.toList.toArray 0)) (.ref t) ns := fun t ns e =>
    (tupI_rawS I1 e).keeps fun b o e _ => Heap.get?_push_of_some _ e
  have x : TS.TupsOk (h'.push (seqObj "list" acc.toList.toArray 0)) d B acc.toList := fun v hv => by
    obtain ⟨t, ns, rfl, e, e4, e5⟩ := key v hv
    exact ⟨ns, tk2 t ns e, e4, e5⟩
  refine wpAny_bind (wpAny_holding (TS.call_sort_tups (s := { s with heap := h'.push (seqObj "list" acc.toList.toArray 0), toks := tk }) hoL (by rw [hal]; omega) hd1 x fun out a1 a2 => ?_))
  obtain ⟨c, he'⟩ := sortedHeap_at (vs := acc.toList) (out := out) hoL
  have h3 : ∀ u ∈ out.toList, ∃ a, u = Value.ref a := fun u hu => by
    obtain ⟨t, _, e, _⟩ := key u (a1.mem_iff.mp hu)
    exact ⟨t, e⟩
  have hp : (out.toList.map bkV).Perm ((ks.map fun x => x.2.1).map V.ref) := by
    have e := a1.map bkV
    rw [ea, List.map_map] at e
    exact e
  have hlen : (out.toList.map bkV).length ≤ sizeLine := by
    rw [hp.length_eq, List.length_map, List.length_map, sizeLine_eq]
    omega
  refine wpAny_pure ⟨_, rfl, .ref h'.objs.size, upd H h'.objs.size (.lst (out.toList.map bkV)), I1.laid (t' := tk) (fun b u e => ?_) (Nat.le_refl _)
    (show ObjOk X.prog X.w _ _ _ (.lst (out.toList.map bkV)) from ⟨hlen, out.toList, c, bkV_vals h3, he'⟩), rfl, q _ _ _ (isKeys_of pr) hp ?_ (I1.hok.fresh (Nat.le_refl _))⟩
  · have hb : b < h'.objs.size := Heap.lt_size e
    rw [PyProof.Rows.sortedHeap_old (Nat.ne_of_lt hb) (by rw [size_push']; exact Nat.lt_succ_of_lt hb)]
    exact Heap.get?_push_of_some _ e
  · rw [List.pairwise_map]
    refine List.Pairwise.imp (fun {u v} huv n m hn hm => ?_) a2
    obtain ⟨t, et, ht⟩ := hn
    obtain ⟨t', et', ht'⟩ := hm
    have eu := bkV_ref et
    have ev := bkV_ref et'
    have i1 := (tk2 t n ht).ints
    have i2 := (tk2 t' m ht').ints
    rw [← i1, ← i2, ← eu, ← ev]
    exact huv
end
end TK

set_option linter.all false
set_option maxRecDepth 100000
/-! the order of rows, equality of rows -/
namespace MR
open PySem PySem.Spec PyProof.Rows L2 TK
theorem lex_of_code {B : Int} : ∀ {r q : List Int}, r.length = q.length → TS.Bd B r → TS.Bd B q → TS.code B r ≤ TS.code B q → r ≠ q → HT.lexLt r q = true
  | [], [], _, _, _, _, ne => absurd rfl ne
  | [], _ :: _, hl, _, _, _, _ => by simp at hl
  | _ :: _, [], hl, _, _, _, _ => by simp at hl
  | d :: r, e :: q, hl, h1, h2, hc, ne => by
    have hl' : r.length = q.length := by simpa using hl
    rw [HT.lexLt_cons]
    by_cases hde : d = e
    · subst hde
      rw [if_pos rfl]
      refine lex_of_code hl' h1.tail h2.tail ?_ fun z => ne (by rw [z])
      have := TS.code_same (B := B) (d := d) hl'.symm
      omega
    · rw [if_neg hde]
      refine decide_eq_true ?_
      rcases Int.lt_trichotomy d e with y | y | y
      · exact y
      · exact absurd y hde
      · have := TS.code_lt (B := B) hl'.symm h2.tail h1.tail y
        omega
theorem eqvAll_ints : ∀ (a b : List Int), PyData.eqvAll (a.map PyData.int) (b.map PyData.int) = decide (a = b)
  | [], [] => by simp [PyData.eqvAll]
  | [], _ :: _ => by simp [PyData.eqvAll]
  | _ :: _, [] => by simp [PyData.eqvAll]
  | x :: a, y :: b => by
    rw [List.map_cons, List.map_cons, PyData.eqvAll, eqvAll_ints a b, PyData.eqv]
    by_cases h : x = y
    · subst h
      by_cases h2 : a = b
      · subst h2; simp
      · simp [h2]
    · simp [h]
theorem row_eqv (a b : List Int) : PyData.eqv (rowD a) (rowD b) = decide (a = b) := by
  unfold rowD
  rw [PyData.eqv, eqvAll_ints]
theorem any_eqv (rows : List (List Int)) (r : List Int) : ((rows.map rowD).any fun z => PyData.eqv z (rowD r)) = decide (r ∈ rows) := by
  induction rows with
  | nil => rfl
  | cons q rows ih =>
    rw [List.map_cons, List.any_cons, ih, row_eqv]
    by_cases h : q = r
    · subst h; simp
    · have h' : ¬ r = q := fun z => h z.symm
      simp [h, h']
theorem row_lay (r : List Int) : (rowD r).canLay0 = true := by
  have : ∀ ns : List Int, PyData.canLayAll0 (ns.map PyData.int) = true := fun ns => by
    induction ns with
    | nil => simp [PyData.canLayAll0]
    | cons n ns ih => simp only [List.map_cons, PyData.canLayAll0, ih, PyData.canLay0, Bool.and_self]
  unfold rowD
  rw [PyData.canLay0]
  exact this r
theorem ints_depth : ∀ ns : List Int, PyData.depthAll (ns.map PyData.int) ≤ 1
  | [] => by simp [PyData.depthAll]
  | n :: ns => by
    have := ints_depth ns
    simp only [List.map_cons, PyData.depthAll, PyData.depth]
    omega
theorem row_depth (r : List Int) : (rowD r).depth ≤ 2 := by
  have := ints_depth r
  unfold rowD
  simp only [PyData.depth]
  omega
theorem row_shaped (r : List Int) : SeqAt.shaped (rowD r) = true := by
  have h := row_depth r
  show ((rowD r).canLay0 && decide ((rowD r).depth ≤ 64)) = true
  rw [Bool.and_eq_true]
  exact ⟨row_lay r, decide_eq_true (by omega)⟩
theorem rows_lay : ∀ rows : List (List Int), PyData.canLayAll0 (rows.map rowD) = true
  | [] => by simp [PyData.canLayAll0]
  | r :: rows => by simp [PyData.canLayAll0, row_lay r, rows_lay rows]
theorem rows_depth : ∀ rows : List (List Int), PyData.depthAll (rows.map rowD) ≤ 2
  | [] => by simp [PyData.depthAll]
  | r :: rows => by
    have h1 := rows_depth rows
    have h2 := row_depth r
    simp only [List.map_cons, PyData.depthAll]
    omega
theorem rows_shaped (rows : List (List Int)) : SeqAt.shaped (.list (rows.map rowD)) = true := by
  have h1 := rows_depth rows
  have h2 : PyData.depth (.list (rows.map rowD)) ≤ 64 := by
    simp only [PyData.depth]
    omega
  show (PyData.canLay0 (.list (rows.map rowD)) && decide (PyData.depth (.list (rows.map rowD)) ≤ 64)) = true
  rw [Bool.and_eq_true]
  exact ⟨by simp only [PyData.canLay0]; exact rows_lay rows, decide_eq_true h2⟩
end MR
namespace TK
open PySem PySem.Spec PyProof.Rows L2 MR
variable {K : PySem.W.Frag} {H : Hp}
theorem dpAll_of : ∀ {vs : List V} {ds : List PyData}, DTs K H vs ds → DpAll K H vs ds
  | [], [], _ => .nil
  | [], _ :: _, h => by have := h.1; simp at this
  | _ :: _, [], h => by have := h.1; simp at this
  | v :: vs, d :: ds, h => by
    obtain ⟨w, ws, e, h1, h2⟩ := h.cons_inv
    cases e
    exact .cons h1.dp (dpAll_of h2)
theorem dp_rows {p : Addr} {vs : List V} {rows : List (List Int)} (h : H p = some (.lst vs)) (d : DTs K H vs (rows.map rowD)) : Dp K H (.ref p) (.list (rows.map rowD)) := .lst (.inl (.inl h)) (dpAll_of d)
def unI : V → Int
  | .int n => n
  | _ => 0
/-- the ints of a row, read off the heap -/
def rowOf (H : Hp) : V → List Int
  | .ref a => match H a with
    | some (.tup xs) => xs.map unI
    | _ => []
  | _ => []
theorem unI_ints (ns : List Int) : (ns.map V.int).map unI = ns := by
  rw [List.map_map]
  induction ns with
  | nil => rfl
  | cons n ns ih => rw [List.map_cons, ih]; rfl
theorem rowOf_eq {v : V} {r : List Int} (h : DT K H v (rowD r)) : rowOf H v = r := by
  obtain ⟨a, rfl, e⟩ := h.row_invS
  show (match H a with | some (.tup xs) => xs.map unI | _ => []) = r
  rw [e]
  exact unI_ints r
theorem rows_read {xs : List V} {rows : List (List Int)} (h : DTs K H xs (rows.map rowD)) : rows = xs.map (rowOf H) := by
  induction rows generalizing xs with
  | nil => rw [h.nil_inv]; rfl
  | cons r rows ih =>
    obtain ⟨w, ws, rfl, h1, h2⟩ := h.cons_inv
    rw [List.map_cons, ← ih h2, rowOf_eq h1]
theorem rows_each {xs : List V} {rows : List (List Int)} (h : DTs K H xs (rows.map rowD)) : ∀ x ∈ xs, DT K H x (rowD (rowOf H x)) ∧ rowOf H x ∈ rows := by
  induction rows generalizing xs with
  | nil => rw [h.nil_inv]; intro x hx; simp at hx
  | cons r rows ih =>
    obtain ⟨w, ws, rfl, h1, h2⟩ := h.cons_inv
    intro x hx
    rcases List.mem_cons.mp hx with e | hx
    · subst e
      rw [rowOf_eq h1]
      exact ⟨h1, List.mem_cons_self⟩
    · exact ⟨(ih h2 x hx).1, List.mem_cons_of_mem _ (ih h2 x hx).2⟩
theorem rows_of {ys : List V} (h : ∀ y ∈ ys, DT K H y (rowD (rowOf H y))) : DTs K H ys ((ys.map (rowOf H)).map rowD) := by
  induction ys with
  | nil => exact .nil
  | cons y ys ih => exact .cons (h y List.mem_cons_self) (ih fun z hz => h z (List.mem_cons_of_mem _ hz))
/-- sorted rows -/
theorem sorted_rows {B : Int} {d : Nat} {xs ys : List V} {rows : List (List Int)} (hx : DTs K H xs (rows.map rowD)) (hp : ys.Perm xs) (nd : rows.Nodup) (ok : ∀ r ∈ rows, r.length = d ∧ TS.Bd B r)
    (hw : ys.Pairwise fun x y => ∀ n m : List Int, (∃ t, x = .ref t ∧ H t = some (.tup (n.map V.int))) → (∃ t, y = .ref t ∧ H t = some (.tup (m.map V.int))) → TS.code B n ≤ TS.code B m) :
    ∃ qs : List (List Int), DTs K H ys (qs.map rowD) ∧ qs.Perm rows ∧ qs.Pairwise fun r q => HT.lexLt r q = true := by
  have hr := rows_read hx
  have he : ∀ y ∈ ys, DT K H y (rowD (rowOf H y)) ∧ rowOf H y ∈ rows := fun y hy => rows_each hx y (hp.mem_iff.mp hy)
  have pm : (ys.map (rowOf H)).Perm rows := by
    rw [hr]
    exact hp.map _
  refine ⟨ys.map (rowOf H), rows_of fun y hy => (he y hy).1, pm, ?_⟩
  have ndy : (ys.map (rowOf H)).Nodup := pm.nodup_iff.mpr nd
  rw [List.Nodup, List.pairwise_map] at ndy
  rw [List.pairwise_map]
  refine List.Pairwise.imp_of_mem ?_ (hw.and ndy)
  rintro x y hx' hy' ⟨c, ne⟩
  obtain ⟨a, ea, ha⟩ := (he x hx').1.row_invS
  obtain ⟨b, eb, hb⟩ := (he y hy').1.row_invS
  obtain ⟨l1, b1⟩ := ok _ (he x hx').2
  obtain ⟨l2, b2⟩ := ok _ (he y hy').2
  exact lex_of_code (by rw [l1, l2]) b1 b2 (c _ _ ⟨a, ea, ha⟩ ⟨b, eb, hb⟩) ne
end TK
namespace MR
theorem lex_irr : ∀ r : List Int, HT.lexLt r r = false
  | [] => rfl
  | x :: r => by rw [HT.lexLt_cons, if_pos rfl, lex_irr r]
theorem lex_asymm : ∀ {r q : List Int}, HT.lexLt r q = true → HT.lexLt q r = false
  | [], [], h => rfl
  | [], _ :: _, _ => rfl
  | _ :: _, [], h => by cases h
  | x :: r, y :: q, h => by
    rw [HT.lexLt_cons] at h ⊢
    by_cases e : x = y
    · subst e
      rw [if_pos rfl] at h ⊢
      exact lex_asymm h
    · rw [if_neg e] at h
      rw [if_neg fun z => e z.symm]
      have := of_decide_eq_true h
      exact decide_eq_false (by omega)
/-- two ascending lists of the same rows are the same -/
theorem asc_unique : ∀ {l m : List (List Int)}, l.Pairwise (fun r q => HT.lexLt r q = true) → m.Pairwise (fun r q => HT.lexLt r q = true) → (∀ x, x ∈ l ↔ x ∈ m) → l = m
  | [], [], _, _, _ => rfl
  | [], y :: m, _, _, h => by
    have := (h y).mpr List.mem_cons_self
    cases this
  | x :: l, [], _, _, h => by
    have := (h x).mp List.mem_cons_self
    cases this
  | x :: l, y :: m, hl, hm, h => by
    obtain ⟨l1, l2⟩ := List.pairwise_cons.mp hl
    obtain ⟨m1, m2⟩ := List.pairwise_cons.mp hm
    have e : x = y := by
      rcases List.mem_cons.mp ((h x).mp List.mem_cons_self) with e | e
      · exact e
      · rcases List.mem_cons.mp ((h y).mpr List.mem_cons_self) with e2 | e2
        · exact e2.symm
        · have a := l1 y e2
          have b := lex_asymm (m1 x e)
          rw [a] at b
          cases b
    subst e
    have nl : x ∉ l := fun z => by
      have := l1 x z
      rw [lex_irr] at this
      cases this
    have nm : x ∉ m := fun z => by
      have := m1 x z
      rw [lex_irr] at this
      cases this
    refine congrArg (x :: ·) (asc_unique l2 m2 fun z => ⟨fun hz => ?_, fun hz => ?_⟩)
    · rcases List.mem_cons.mp ((h z).mp (List.mem_cons_of_mem _ hz)) with e | e
      · subst e
        exact absurd hz nl
      · exact e
    · rcases List.mem_cons.mp ((h z).mpr (List.mem_cons_of_mem _ hz)) with e | e
      · subst e
        exact absurd hz nm
      · exact e
end MR

set_option Elab.async false
set_option linter.all false
set_option maxRecDepth 100000
set_option maxHeartbeats 4000000
/-! x in s, s a set of tuples of ints; set(t), t a tuple of such -/
namespace TK
open PySem PySem.Spec PyProof.Rows L2
/-- the c-th probe for the hash h -/
abbrev wk (t : SetTable) (h : Int) (c : Nat) : SetTable.Probe := nth t.mask (runAt t.mask (SetTable.bits h % (t.mask + 1)) (SetTable.bits h)) c
theorem wk_add (t : SetTable) (h : Int) (c q : Nat) : nth t.mask (wk t h c) q = wk t h (c + q) := (nth_add t.mask c _ q).symm
theorem wk_clean (t : SetTable) (h : Int) (c : Nat) : (wk t h c).dummy = none := by
  have all : ∀ (n : Nat) (p : SetTable.Probe), p.dummy = none → (nth t.mask p n).dummy = none := by
    intro n
    induction n with
    | zero => exact fun p e => e
    | succ n ih => exact fun p e => ih (adv t.mask p) (by unfold adv; split <;> exact e)
  exact all c _ rfl
section
variable {P : Program} {w : World} {A : Around} {E : Value → Shared → Prop} {s : Shared} {a : Addr} {L : List (Addr × List Int)} {es : Array (Int × Value)} {ep : Nat} {t : SetTable}
theorem ask_from (R : SetTR P w s.heap a L es ep t) {x : Addr} {k : List Int} (hx : IsT P w s.heap k x) (hu : A.units < cLine) {M : Nat} (hM : M < 10 * SetTable.turns t.mask)
    (free : (wk t (thash P w k) M).j ∉ t.place.toList) (full : ∀ c, c < M → (wk t (thash P w k) c).j ∈ t.place.toList) {Q : SetFound → Shared → Prop}
    (yes : k ∈ L.map (·.2) → ∀ i, Q (.there (some i)) s) (no : k ∉ L.map (·.2) → ∀ j, Q (.free j false) s) (f : Nat) :
    ∀ (c : Nat) (stand : Option SetTable.Probe), stand.getD (t.probeStart (thash P w k)) = wk t (thash P w k) c → c ≤ M → M - c < f →
      (∀ (i : Nat) p, L[i]? = some p → p.2 = k → ∃ c', c ≤ c' ∧ c' < M ∧ t.place.toList[i]? = some (wk t (thash P w k) c').j) →
      wpAny (model P w) A (setSearchFrom a (.ref x) (thash P w k) false f stand) Q E s := by
  have sz : t.place.toList.length = L.length := by
    have h2 := R.tab.sz
    rw [List.length_map] at h2
    rw [Array.length_toList]
    exact h2
  obtain ⟨o, ho, hex, hd⟩ := R.ob
  have fits := R.fits
  have hash_of : ∀ {i : Nat} {p : Addr × List Int}, L[i]? = some p → ((es[i]?.map (·.1)).getD 0 : Int) = thash P w p.2 := fun hp => by
    rw [R.entry hp]
    rfl
  induction f with
  | zero => exact fun c _ _ _ hf => absurd hf (Nat.not_lt_zero _)
  | succ f ih =>
    intro c stand hst hc hf left
    rw [setSearchFrom_succ]
    refine wpAny_bind (wpAny_setState_of ho hd fits ?_)
    dsimp only
    refine wp_if_neg R.gw ?_
    try refine wpAny_bind (wpAny_pure ?_)
    have at_ : ∀ q, (nth t.mask (wk t (thash P w k) c) q).j = (wk t (thash P w k) (c + q)).j := fun q => congrArg SetTable.Probe.j (wk_add t _ c q)
    rcases go_spec t R.tab.ris R.tab.dm (fun i => (es[i]?.map (·.1)).getD 0) (thash P w k) (10 * SetTable.turns t.mask) (M - c) (wk t (thash P w k) c) (wk_clean t _ c) (by omega)
      (fun q hq => by rw [at_]; exact full (c + q) (by omega)) (by rw [at_, show c + (M - c) = M by omega]; exact free) with ⟨q, i, hq, hi, hh, before, e⟩ | ⟨before, e⟩
    · have met : t.probe (fun i => (es[i]?.map (·.1)).getD 0) (thash P w k) (stand.getD (t.probeStart (thash P w k))) = some (.candidate (wk t (thash P w k) (c + q)).j i (wk t (thash P w k) (c + (q + 1)))) := by
        rw [hst, ← at_, ← wk_add t _ c (q + 1)]
        exact e
      rw [met]
      dsimp only
      rw [at_] at hi
      have hil : i < L.length := by
        rw [← sz]
        exact (List.getElem?_eq_some_iff.mp hi).1
      obtain ⟨p, hp⟩ : ∃ p, L[i]? = some p := ⟨_, List.getElem?_eq_getElem hil⟩
      have mem : p ∈ L := List.mem_of_getElem? hp
      have live := slot_live R.tab.ris hi
      have after : wpAny (model P w) A (searchRest a (.ref x) (thash P w k) false f es t (wk t (thash P w k) (c + q)).j i (wk t (thash P w k) (c + (q + 1)))) Q E s := by
        unfold searchRest
        rw [R.entry hp]
        dsimp only
        refine wpAny_bind (wpAny_holding (wpAny_eqBool_tuple hu (R.tup p mem) hx (wpAny_bind (wpAny_setState_of ho hd fits ?_))))
        dsimp only
        refine wp_if_neg (by simp) ?_
        try refine wpAny_bind (wpAny_pure ?_)
        rw [sameMem]
        dsimp only
        simp only [if_true, live, R.entry hp]
        refine wpAny_bind (wpAny_isSame_ref_self (wpAny_bind (wpAny_pure ?_)))
        simp only [if_true]
        rcases Classical.em (p.2 = k) with same | other
        · exact wp_if_pos (by simp [same]) (wpAny_pure (yes (List.mem_map.mpr ⟨p, mem, same⟩) i))
        · refine wp_if_neg (by simp [other]) (ih (c + (q + 1)) _ rfl (by omega) (by omega) fun i0 p0 h0 hk0 => ?_)
          obtain ⟨c', b1, b2, b3⟩ := left i0 p0 h0 hk0
          refine ⟨c', ?_, b2, b3⟩
          rcases Nat.lt_trichotomy c' (c + q) with l | l | l
          · refine absurd ((hash_of h0).trans (congrArg (thash P w) hk0)) (before (c' - c) i0 (by omega) ?_)
            rw [at_, show c + (c' - c) = c' by omega]
            exact b3
          · rw [l] at b3
            have two := (slot_live R.tab.ris b3).symm.trans live
            injection two with two
            rw [two, hp] at h0
            exact absurd ((congrArg Prod.snd (Option.some.inj h0)).trans hk0) other
          · omega
      rcases Classical.em (t.led = true) with l | l
      · refine wp_if_neg (by simp [l]) ?_
        try refine wpAny_bind (wpAny_pure ?_)
        exact after
      · refine wp_if_pos (by simp [l]) (wpAny_bind (seen_tup hx (fun y hy => ?_) (wp_if_neg (by decide) ?_)))
        · obtain ⟨e0, h0, ee⟩ := List.mem_map.mp hy
          have h1 : e0 ∈ es.toList := by
            have z : e0 ∈ es ∧ e0.1 = thash P w k := by simpa using h0
            simpa using z.1
          rw [R.rows] at h1
          obtain ⟨p2, m2, e2⟩ := List.mem_map.mp h1
          exact ⟨p2.2, p2.1, by rw [← ee, ← e2], R.tup p2 m2⟩
        · try refine wpAny_bind (wpAny_pure ?_)
          exact after
    · have met : t.probe (fun i => (es[i]?.map (·.1)).getD 0) (thash P w k) (stand.getD (t.probeStart (thash P w k))) = some (.empty (wk t (thash P w k) M).j none) := by
        have e2 : (wk t (thash P w k) M).j = (nth t.mask (wk t (thash P w k) c) (M - c)).j := by
          rw [at_, show c + (M - c) = M by omega]
        rw [hst, e2]
        exact e
      rw [met]
      dsimp only
      refine wpAny_pure (no (fun hm => ?_) _)
      obtain ⟨p0, m0, hk0⟩ := List.mem_map.mp hm
      obtain ⟨i0, hi0, e0⟩ := List.getElem_of_mem m0
      have h00 : L[i0]? = some p0 := by rw [List.getElem?_eq_getElem hi0, e0]
      obtain ⟨c', b1, b2, b3⟩ := left i0 p0 h00 hk0
      refine before (c' - c) i0 (by omega) ?_ ((hash_of h00).trans (congrArg (thash P w) hk0))
      rw [at_, show c + (c' - c) = c' by omega]
      exact b3
theorem find_tup (R : SetTR P w s.heap a L es ep t) {x : Addr} {k : List Int} (hx : IsT P w s.heap k x) (hu : A.units < cLine) {Q : Option Nat → Shared → Prop}
    (h : ∀ r : Option Nat, r.isSome = decide (k ∈ L.map (·.2)) → Q r s) : wpAny (model P w) A (setFind a (.ref x) (thash P w k)) Q E s := by
  obtain ⟨o, ho, hex, hd⟩ := R.ob
  have room := R.room
  obtain ⟨M, hM, free, full⟩ := R.tab.first (by rw [List.length_map]; omega) (thash P w k)
  have big : M < 100000 := by
    have : 10 * SetTable.turns t.mask ≤ 1420 := by
      unfold SetTable.turns
      rcases R.tab.mok with e | e | e <;> omega
    omega
  unfold setFind setFindIn
  refine wpAny_bind (wpAny_setState_of ho hd R.fits ?_)
  dsimp only
  refine wp_if_neg (by simp [byScan, Value.scannable]) ?_
  try refine wpAny_bind (wpAny_pure ?_)
  unfold setSearch
  refine wpAny_bind (ask_from R hx hu hM free full (fun hm i => ?_) (fun hm j => ?_) 100000 0 none rfl (Nat.zero_le _) (by omega) fun i p hp hk => ?_)
  · exact wpAny_pure (h _ (by simp [hm]))
  · exact wpAny_pure (h _ (by simp [hm]))
  · have hi : (L.map fun p => thash P w p.2)[i]? = some (thash P w k) := by
      rw [List.getElem?_map, hp, ← hk]
      rfl
    have hil : i < t.place.toList.length := by
      have h1 : i < L.length := (List.getElem?_eq_some_iff.mp hp).1
      have h2 := R.tab.sz
      rw [List.length_map] at h2
      rw [Array.length_toList]
      omega
    have hj := List.getElem?_eq_getElem hil
    obtain ⟨c, hc, e⟩ := R.tab.before free hi hj
    exact ⟨c, Nat.zero_le _, hc, by rw [hj, ← e]⟩
theorem in_tup (R : SetTR P w s.heap a L es ep t) {x : Addr} {k : List Int} (hx : IsT P w s.heap k x) (hu : A.units + 8 < cLine) {Q : Value → Shared → Prop}
    (h : ∀ tk, Q (.bool (decide (k ∈ L.map (·.2)))) { s with toks := tk }) : wpAny (model P w) A (compareOp .In (.ref x) (.ref a)) Q E s := by
  obtain ⟨o, ho, hex, hd⟩ := R.ob
  have ty : s.TypeIs (.ref a) "set" := ⟨o, ho, hex.1⟩
  show wpAny _ _ (do return .bool (← contains (.ref a) (.ref x))) Q E s
  refine wpAny_bind ?_
  unfold contains
  try with_reducible refine wpAny_holding ?_
  refine wpAny_bind (wpAny_specialOf ty F.slot_set_contains.lookup ?_)
  show wpAny _ _ (if (some (Value.builtin "set.__contains__") == some Value.none) = true then _ else _) _ E s
  rw [if_neg (by rw [beq_builtin_none]; exact Bool.false_ne_true)]
  refine wpAny_bind (wpAny_callSpecialUnlessNone?_slot (name := Str.ofString "__contains__") ty F.slot_set_contains (wpAny_call_entry F.slot_set_contains ty entry_set_contains ?_ (F.args_set_contains_2 _ _)))
  unfold Builtin.«frozenset.__contains__» Builtin.Frozenset.oneOther
  simp only [List.isEmpty_nil, bind_assoc]
  unfold Builtin.Frozenset.addrOf Builtin.Frozenset.withSetAsKey setContains
  refine wpAny_bind (wpAny_pure ?_)
  try dsimp only
  refine wpAny_bind (wpAny_pure ?_)
  try dsimp only
  refine wpAny_bind (wpAny_tryCatch (wpAny_holding (wpAny_bind (wpAny_pyHash_tuple ?_ hx (wpAny_bind (find_tup (s := { s with toks := s.toks + (k.length + 1) }) (R.keep (fun _ e => e) R.tup) hx ?_ fun r hr => wpAny_pure ?_))))))
  · show A.units + 1 < cLine
    omega
  · show A.units + 1 < cLine
    omega
  · show wpAny _ _ (ret (Value.bool r.isSome)) _ _ _
    rw [hr]
    exact wpAny_pure ⟨_, rfl, wpAny_truthy_bool (wpAny_pure (h _))⟩
end
section
variable {X : Cx}
/-- t in s, s the set of the tuples L -/
def rInSetT (K : PySem.W.Frag) (P : Program) (w : World) : R2 := fun x y H Q => ∃ (b a : Addr) (k : List Int) (L : List (Addr × List Int)), x = .ref b ∧ y = .ref a ∧ SqT K H b (k.map V.int) ∧ H a = some (SetTO P w a L) ∧ (∀ p ∈ L, SqT K H p.1 (p.2.map V.int)) ∧ Q (.bl (decide (k ∈ L.map (·.2)))) H
theorem op_inSetT (K : PySem.W.Frag) (P : Program) (w : World) (hu : X.A.units + 8 < cLine) (hK : X.K = K := by rfl) (hP : X.prog = P := by rfl) (hw : X.w = w := by rfl) : OpR X (compareOp .In) (rInSetT K P w) := by
  subst hK hP hw
  intro pins s σ H x y v u Q I rx ry h
  obtain ⟨b, a, k, L, rfl, rfl, hb, ha, hL, q⟩ := h
  cases rx
  cases ry
  have R0 : SetT0 X.prog X.w s.heap a L := (I.hok a _ ha).1
  obtain ⟨es, ep, t, R⟩ := R0.full fun p hp => I.isT (hL p hp)
  exact in_tup R (I.isT hb) hu fun tk => ⟨.bl _, H, I.tok tk, rfl, q⟩
end
end TK

set_option Elab.async false
set_option linter.all false
set_option maxRecDepth 100000
set_option maxHeartbeats 4000000
/-! set(t), t a tuple of tuples of ints -/
namespace TK
open PySem PySem.Spec PyProof.Rows L2
/-- a set that was just made -/
abbrev bareSet (w : World) : Obj := { cls := .type "set", dict := none, data := .set #[] 0 (.fresh 0 0 (!w.params.followText "set-order")) }
section
variable {P : Program} {w : World} {A : Around} {E : Value → Shared → Prop} {s : Shared}
theorem set_of_tuple {l : Addr} {items : Array Value} (ks : List (Addr × List Int)) {Q : Value → Shared → Prop} (hh : A.handled = none) (hl : s.heap.IsTuple l items) (hit : items.toList = ks.map fun p => Value.ref p.1)
    (hk : ∀ p ∈ ks, IsT P w s.heap p.2 p.1) (few : ks.length < 64) (hu : A.units + 3 < cLine)
    (h : ∀ (h' : Heap) (tk : Nat) L es ep t, SetTR P w h' s.heap.objs.size L es ep t → Got ks ks.length L → (∀ b o, s.heap.get? b = some o → h'.get? b = some o) → Q (.ref s.heap.objs.size) { s with heap := h', toks := tk }) :
    wpAny (model P w) A (call (.type "set") [.ref l]) Q E s := by
  have many : items.size = ks.length := by
    have q := congrArg List.length hit
    rw [Array.length_toList, List.length_map] at q
    exact q
  obtain ⟨c, tl, hmro⟩ := F.called_set.mro
  have hmade := F.called_set.made
  have hsub := F.called_set.sub
  refine wpAny_call (codeAny_of_tree ?_)
  show wpAny _ _ (callAny (.type "set") _) _ _ _
  refine wpAny_pure ⟨Code.quiet_builtin _ (by decide +kernel), codeAny_builtin F.entry_type_call ?_⟩
  rw [Around.under_plain (weight_type_call_type "set" [.ref l] []) rfl]
  have h1 := F.called_set.notType
  have h2 := F.called_set.canCreate
  have hct := F.typeCall_set_1 (.ref l)
  repeat (any_goals (first | assumption | wp_step))
  refine codeAny_mono (code_set_led1 (.ref l) (E := E) (Q₁ := fun obj s₁ => obj = .ref s.heap.objs.size ∧ s₁ = { s with heap := s.heap.push (bareSet w) }) ⟨rfl, rfl⟩) fun r s₁ hr => ?_
  cases r with
  | error e => exact hr
  | ok fl =>
    cases fl with
    | ret obj =>
      obtain ⟨rfl, rfl⟩ := hr
      have hS : (s.heap.push (bareSet w)).get? s.heap.objs.size = some (bareSet w) := Heap.get?_push_size _ rfl
      have hT : Shared.TypeIs { s with heap := s.heap.push (bareSet w) } (.ref s.heap.objs.size) "set" := ⟨_, hS, rfl⟩
      have hli := F.called_set.init.lookup
      have hbi := F.called_set.init.bind (.ref s.heap.objs.size)
      repeat (any_goals (first | assumption | wp_step))
      refine codeAny_mono (codeAny_call_builtin (R := wants (fun r s₂ => r = .none ∧ ∃ h' tk L es ep t, s₂ = { s with heap := h', toks := tk } ∧ SetTR P w h' s.heap.objs.size L es ep t ∧ Got ks ks.length L ∧ (∀ b o, s.heap.get? b = some o → h'.get? b = some o)) E)
        F.called_set.init.plain F.entry_set_init (check_set_init_1 hT ?_)) fun r₂ s₂ hr₂ => ?_
      · obtain ⟨ol, hol, hcl, nl, hdl⟩ := hl
        obtain ⟨ocls, odict, odata, oslots⟩ := ol
        simp only at hcl hdl
        subst hcl; subst hdl
        have hol' : (s.heap.push (bareSet w)).get? l = some { cls := .type "tuple", dict := odict, data := .seq items nl, slots := oslots } := Heap.get?_push_of_some _ hol
        have hsls := F.sub_tuple_set
        have hslf := F.sub_tuple_frozenset
        have hne : (Value.type "tuple" == Value.type "dict") = false := by decide
        have hl1 : (s.heap.push (bareSet w)).IsTuple l items := ⟨_, hol', rfl, nl, rfl⟩
        unfold Builtin.«set.__init__» noKeywords Builtin.Frozenset.updateFrom
        generalize hPI : pyIter = PI
        wp_walk
        subst hPI
        refine wpAny_pyIter_tuple hl1 (wpAny_bind (wpAny_runValue ?_))
        have lt : l < s.heap.objs.size := Heap.lt_size hol
        have hh3 : A.in1.in1.in1.handled = none := by simp [hh]
        have z1 : (s.heap.push (bareSet w)).objs.size = s.heap.objs.size + 1 := Heap.size_push ..
        have apart : l ≠ (s.heap.push (bareSet w)).objs.size := by
          rw [Heap.size_push]
          exact Nat.ne_of_lt (Nat.lt_succ_of_lt lt)
        have away : s.heap.objs.size ∉ [(s.heap.push (bareSet w)).objs.size, l] := by
          simp only [List.mem_cons, List.not_mem_nil, or_false, not_or]
          rw [Heap.size_push]
          exact ⟨Nat.ne_of_lt (Nat.lt_succ_self _), Nat.ne_of_gt lt⟩
        have val : ∀ (i : Nat) (v : Value), items[i]? = some v → ∃ p, ks[i]? = some p ∧ v = .ref p.1 := fun i v hv => by
          have q : items.toList[i]? = some v := by rw [Array.getElem?_toList]; exact hv
          rw [hit, List.getElem?_map] at q
          obtain ⟨p, hp, e⟩ := Option.map_eq_some_iff.mp q
          exact ⟨p, hp, e.symm⟩
        have none_of : ∀ b, s.heap.objs.size ≤ b → s.heap.get? b = none := fun b hb => by
          cases q : s.heap.get? b with
          | none => rfl
          | some o => exact absurd (Nat.lt_of_lt_of_le (Heap.lt_size q) hb) (Nat.lt_irrefl _)
        refine set_update_tups ((Walks.tuple hh3 _ l apart items).toS) s.heap.objs.size away ks many few val s.heap hk (none_of _ (Nat.le_refl _)) (fun b hb => none_of b (by
            rw [List.mem_singleton.mp hb, Heap.size_push]
            exact Nat.le_succ _)) hu (items.size - 0) 0 _ (by omega) (Nat.zero_le _)
          ⟨⟨_, Heap.get?_push_size _ rfl, rfl, rfl⟩, (hl1.push _)⟩ (fun b o e => Heap.get?_push_of_some _ (Heap.get?_push_of_some _ e)) ?start ?stop
        case start =>
          exact ⟨[], #[], 0, _, setTR_fresh (Heap.get?_push_of_some _ hS), Got.zero ks⟩
        case stop =>
          intro s' L es ep t hm hS' g' hkp
          obtain ⟨h', g2, d', tk', os'⟩ := s'
          have eg : g2 = s.gens := hm.gens
          have ed : d' = s.drawn := hm.drawn
          have eo : os' = s.os := hm.os
          subst eg; subst ed; subst eo
          rw [many] at g'
          exact wpAny_pure (wpAny_pure ⟨rfl, h', tk', L, es, ep, t, rfl, hS', g', hkp⟩)
      · cases r₂ with
        | error e => exact hr₂
        | ok fl₂ =>
          cases fl₂ with
          | ret r =>
            obtain ⟨rfl, h', tk, L, es, ep, t, rfl, hS', g', hk'⟩ := hr₂
            repeat (any_goals (first | assumption | wp_step))
            exact h _ _ _ _ _ _ hS' g' hk'
          | _ => exact hr₂.elim
    | _ => exact hr.elim
end
section
variable {X : Cx}
/-- set(t), t a tuple of tuples of ints -/
def rSetOfTT (K : PySem.W.Frag) (P : Program) (w : World) : List V → Hp → VK → Prop := fun xs H Q => ∃ (l : Addr) (ks : List (Addr × List Int)), xs = [V.ref l] ∧ SqT K H l (ks.map fun p => V.ref p.1) ∧ (∀ p ∈ ks, SqT K H p.1 (p.2.map V.int)) ∧ ks.length < 64 ∧
  ∀ a L, H a = none → (∀ p ∈ L, p ∈ ks) → (∀ p ∈ ks, p.2 ∈ L.map (·.2)) → Q (.ref a) (upd H a (SetTO P w a L))
theorem cr_setOfTT (K : PySem.W.Frag) (P : Program) (w : World) (hc : X.calm = true) (hu : X.A.units + 64 < cLine) (hK : X.K = K := by rfl) (hP : X.prog = P := by rfl) (hw : X.w = w := by rfl) : CallR X (.type "set") (rSetOfTT K P w) := by
  subst hK hP hw
  intro pins s σ H xs us Q I r h
  obtain ⟨l, ks, rfl, hl, hk, hf, q⟩ := h
  rw [Vals.ref1 r]
  obtain ⟨its, rv, pl, hz⟩ := I.tuple hl
  have hn : H s.heap.objs.size = none := I.hok.fresh (Nat.le_refl _)
  refine set_of_tuple (P := X.prog) (w := X.w) ks (I.ok.hd hc) pl (by simpa using refs_of_vals rv) (fun p hp => I.isT (hk p hp)) hf (by omega) fun h' tk L es ep t R g k => ?_
  exact ⟨.ref s.heap.objs.size, upd H s.heap.objs.size (SetTO X.prog X.w s.heap.objs.size L), I.laid (t' := tk) k (Nat.le_refl _) (setTO_new R.t0), rfl, q _ L hn (fun p hp => List.mem_of_mem_take (g.sub p hp)) fun p hp => g.all p (by rw [List.take_length]; exact hp)⟩
end
end TK

set_option Elab.async false
set_option linter.all false
set_option maxRecDepth 100000
set_option maxHeartbeats 4000000
namespace K15
open PySem PySem.Spec PyProof.Rows L2 TK MR
variable {P : Program} {w : World} {K : PySem.W.Frag} {mg : Str → Option Value} {base : Heap}
theorem op_notInDK (K : PySem.W.Frag) {X : Cx} (hu : X.A.units + 65 < cLine) (hK : X.K = K := by rfl) : OpR X (compareOp .NotIn) (rNotInD K) := hK ▸ op_notInD hu
theorem cr_sortTK (K : PySem.W.Frag) {X : Cx} {d : Nat} {B : Int} (hd : 1 ≤ d) (hK : X.K = K := by rfl) : CallR X (.builtin "sorted") (rSortU K d B) := hK ▸ cr_sortT hd
theorem LR.gx {S : List Addr} {H H' : Hp} {p : Addr} {rows : List (List Int)} (g : Gx S H H') (hS : LS S H) (n : p ∉ S) (h : LR K H p rows) : LR K H' p rows := let ⟨vs, a, b⟩ := h; ⟨vs, g.at n a (fun _ z => by cases z), b.gx g hS⟩
theorem LR.gr {H H' : Hp} {p : Addr} {rows : List (List Int)} (g : Gr H H') (h : LR K H p rows) : LR K H' p rows := h.gx g .nil (by simp)
theorem LR.wr {H : Hp} {p q : Addr} {xs : List V} {o : HO} {rows : List (List Int)} (e : H q = some (.lst xs)) (n : p ≠ q) (h : LR K H p rows) : LR K (upd H q o) p rows := let ⟨vs, a, b⟩ := h; ⟨vs, by rw [upd_ne n]; exact a, b.wr e⟩
/-- the script stands somewhere -/
def Lv (K : PySem.W.Frag) (H : Hp) (c : Addr) : Prop := H c ≠ none ∨ ∃ ns : List Int, SqL K (fun _ => none) c (ns.map V.int)
theorem RowSt.wr {H : Hp} {r c p : Addr} {o : HO} (h : RowSt K H r c) (n : r ≠ p) (nc : c ≠ p ∨ ∃ ns : List Int, SqL K (fun _ => none) c (ns.map V.int)) : RowSt K (upd H p o) r c := by
  obtain ⟨ns, i, st, d, h1, h2, h3, h4⟩ := h
  rcases nc with nc | ⟨ms, k⟩
  · exact ⟨ns, i, st, d, by rw [upd_ne n]; exact h1, seqL_ne h2 nc, h3, h4⟩
  · exact ⟨ms, i, st, d, by rw [upd_ne n]; exact h1, seqL_frag k, .inr k, h4⟩
theorem Lv.gx {H H' : Hp} {r c : Addr} (g : Gx [r] H H') (hR : RowSt K H' r c) (h : Lv K H c) : Lv K H' c := by
  rcases h with h | h
  · by_cases e : c = r
    · subst e
      obtain ⟨xs, e⟩ := hR.lst
      exact .inl (by rw [e]; intro z; cases z)
    · obtain ⟨o, e1⟩ := Option.ne_none_iff_exists'.mp h
      exact .inl (g c o (fun z => e (List.mem_singleton.mp z)) e1).some
  · exact .inr h
theorem live_ne {H : Hp} {c p : Addr} (h : Lv K H c) (n : H p = none) : c ≠ p ∨ ∃ ns : List Int, SqL K (fun _ => none) c (ns.map V.int) := h.imp_left fun h z => h (by rw [z]; exact n)
/-! _law_some_rows -/
def sp_law_some_rows (K : PySem.W.Frag) : Sp := fun vs H Q _ => ∃ (r c : Addr) (sz ar most : Nat), vs = [.ref r, .int sz, .int ar, .int most] ∧ RowSt K H r c ∧ Lv K H c ∧ (1 ≤ sz ∧ sz ≤ 4) ∧ (1 ≤ ar ∧ ar ≤ 4) ∧ (1 ≤ most ∧ most ≤ 9) ∧
  ∀ (v : V) (rows : List (List Int)) H', Gx [r] H H' → RowSt K H' r c → DT K H' v (.tuple (rows.map rowD)) → rows ≠ [] → rows.length ≤ most → RelOk sz ar rows → Q v H'
theorem ok_law_some_rows (T : Txt K mg base) : FnOk P w K mg base CX0 3 T.law_some_rows.f T.law_some_rows.fd p_law_some_rows (sp_law_some_rows K) := by
  refine T.law_some_rows.F.ok sc_law_some_rows (fun vs H Q E h => ?_) (fun A outer s H vs Q E hr h => ?_)
  · obtain ⟨_, _, _, _, _, rfl, _⟩ := h
    rfl
  · obtain ⟨r, c, sz, ar, most, rfl, hR, hc, ⟨s1, s4⟩, ⟨a1, a4⟩, ⟨m1, m9⟩, q⟩ := h
    have hu65 : (A.deeper (envOfC "_law_some_rows" (defScope s_law_some_rows) s.heap.objs.size T.law_some_rows.f (.ref T.law_some_rows.c))).units + 65 < cLine := by have := hr.un; omega
    refine ⟨_, pss_cons (ps_par (i := 4) (j := 5) (by rfl) sc_law_some_rows.nd rfl rfl (by decide) rfl rfl (pa_cons (pe_call (ok_law_rows T) (hr.mono (by decide)) (by rfl) T.law_rows.g T.law_rows.F.kp T.law_rows.b .nil pass0 (pa_cons (pv 1) (pa_cons (pv 2) pa_nil))) (pa_cons (pe_lst pa_nil) pa_nil)) (by rfl))
      (pss_cons (ps_for PassesOwn.never rfl (pi_range1 (by rfl) T.b_range (pa_cons (pe_op op_add pe_int (pe_call (ok_law_taken T) (hr.mono (by decide)) (by rfl) T.law_taken.g T.law_taken.F.kp T.law_taken.b .nil pass0 (pa_cons (pv 0) (pa_cons (pv 3) pa_nil)))) pa_nil)) (pg_name (i := 6) sc_law_some_rows.nd rfl (.inl rfl))
        (pss_cons (ps_set (i := 7) sc_law_some_rows.nd rfl (.inl rfl) (pe_call (ok_law_pick T) hr (by rfl) T.law_pick.g T.law_pick.F.kp T.law_pick.b .nil pass0 (pa_cons (pv 0) (pa_cons (pv 4) pa_nil))))
        (pss_one (ps_if (pt_cmpR (op_notInDK K hu65) (pv 7) (pv 5) (by rfl)) (pss_one (ps_expr (pe_bm PySem.F.plainAttrs_list PySem.F.slot_list_append PySem.F.type_list_append mt_append (pv 5) (pa_cons (pv 7) pa_nil)))) pss_nil))))
      (pss_one (ps_ret (pe_callTy (call_tuple_ofK K) (by rfl) T.b_tuple boot_tuple (pa_cons (pe_callB (cr_sortTK K (d := ar) (B := 4) a1) (by rfl) T.b_sorted boot_sorted (pa_cons (pv 5) pa_nil)) pa_nil))))), ?_⟩
    have len256 : (allRows sz ar).length ≤ 256 := allRows_len_le s4 a4
    have len1 : 1 ≤ (allRows sz ar).length := by
      rw [allRows_len]
      exact Nat.pow_pos (by omega)
    refine ⟨.int sz, rfl, .int ar, rfl, sz, ar, rfl, s4, a4, fun e H1 g1 ne he => ?_⟩
    refine ⟨Nat.zero_le _, fun p np => ⟨_, _, rfl, ?_⟩⟩
    have gp : Gr H1 (upd H1 p (.lst [])) := Gx.new np
    have hpH : H p = none := g1.free np
    have hpe : p ≠ e := fun z => by
      obtain ⟨vs, a, _⟩ := he
      rw [z, a] at np
      cases np
    have hR0 := hR.gr (g1.trans gp)
    have g0 : Gr H (upd H1 p (.lst [])) := g1.trans gp
    have he0 : LR K (upd H1 p (.lst [])) e (allRows sz ar) := he.gr gp
    have hp0 : LR K (upd H1 p (.lst [])) p [] := ⟨[], upd_same, .nil⟩
    generalize upd H1 p (.lst []) = H2 at *
    have rr : ∀ {H' : Hp} {x : Addr}, RowSt K H' r c → H' x = none → r ≠ x := fun h n z => by
      obtain ⟨xs, e⟩ := h.lst
      rw [z, n] at e
      cases e
    have nrp : r ≠ p := rr hR hpH
    have nre : r ≠ e := rr hR ne
    have ncp := live_ne hc hpH
    refine ⟨.ref r, rfl, .int most, rfl, r, c, most, rfl, hR0, by omega, by omega, fun x H3 hx0 hx1 g3 hR3 => ⟨_, _, rfl, rfl, 1 + x, rfl, by omega, by omega, ?_⟩⟩
    have nn : ∀ {z : Addr}, r ≠ z → z ∉ [r] := fun h z => h (List.mem_singleton.mp z).symm
    have he3 : LR K H3 e (allRows sz ar) := he0.gx g3 hR0.ls (nn nre)
    have hp3 : LR K H3 p [] := hp0.gx g3 hR0.ls (nn nrp)
    refine for_range (n := (1 + x).toNat) (fun i σ H' => ∃ y6 y7 rows, σ = [some (.ref r), some (.int sz), some (.int ar), some (.int most), some (.ref e), some (.ref p), y6, y7] ∧ Gx [r] H H' ∧ RowSt K H' r c ∧ LR K H' e (allRows sz ar) ∧ LR K H' p rows ∧ rows.length ≤ i ∧ rows.Nodup ∧ (∀ z ∈ rows, z ∈ allRows sz ar) ∧ (1 ≤ i → rows ≠ []))
      ⟨none, none, [], rfl, g0.thn g3, hR3, he3, hp3, Nat.zero_le _, List.nodup_nil, fun z hz => by simp at hz, fun z => by omega⟩ (fun i σ H' hi hp => ?_) (fun σ H' hp => ?_)
    · obtain ⟨y6, y7, rows, rfl, g4, hR4, he4, hp4, hl, nd, hm, _⟩ := hp
      obtain ⟨es, ee, ed⟩ := id he4
      have el : es.length = (allRows sz ar).length := by rw [ed.1, List.length_map]
      refine ⟨.ref r, rfl, .ref e, rfl, r, c, e, es, rfl, hR4, .inl (.inl ee), fun z => nre z.symm, by omega, by omega, fun j v H5 ev g5 hR5 => ?_⟩
      obtain ⟨d, e1, dv⟩ := ed.at' ev
      rw [List.getElem?_map] at e1
      obtain ⟨ro, er, rfl⟩ := Option.map_eq_some_iff.mp e1
      have hmem := List.mem_of_getElem? er
      have dv5 : DT K H5 v (rowD ro) := dv.gx g5 hR4.ls
      have he5 := he4.gx g5 hR4.ls (nn nre)
      have hp5 := hp4.gx g5 hR4.ls (nn nrp)
      obtain ⟨fs, ef, fd⟩ := id hp5
      refine ⟨v, rfl, .ref p, rfl, _, _, dv5.dp, dp_rows ef fd, row_shaped ro, rows_shaped rows, _, rfl, ?_⟩
      rw [any_eqv]
      refine ite2 (fun hn => ?_) (fun hn => ?_)
      · have hnot : ro ∉ rows := by simpa using hn
        refine ⟨.ref p, rfl, .inl ⟨rfl, _, .inl (.inl ef)⟩, v, rfl, p, fs, v, rfl, rfl, ef, ?_, ?_⟩
        · rw [fd.1, List.length_map]
          exact small1000 (by omega)
        · refine ⟨_, _, rows ++ [ro], rfl, ?_, hR5.wr nrp ncp, he5.wr ef fun z => hpe z.symm, ⟨_, upd_same, LR.app (fd.wr ef) (DT.wr ef dv5)⟩, by rw [List.length_append]; show rows.length + 1 ≤ i + 1; omega, ?_, ?_, fun _ => by simp⟩
          · exact (g4.trans g5).wr hpH
          · rw [List.nodup_append]
            exact ⟨nd, by simp, fun a ha b hb => by
              rw [List.mem_singleton.mp hb]
              exact fun z => hnot (z ▸ ha)⟩
          · intro z hz
            rcases List.mem_append.mp hz with hz | hz
            · exact hm z hz
            · rw [List.mem_singleton.mp hz]
              exact hmem
      · have hin : ro ∈ rows := by simpa using hn
        exact ⟨_, _, rows, rfl, g4.trans g5, hR5, he5, hp5, by omega, nd, hm, fun _ z => by rw [z] at hin; cases hin⟩
    · obtain ⟨y6, y7, rows, rfl, g4, hR4, he4, hp4, hl, nd, hm, hne⟩ := hp
      have hl9 : rows.length ≤ most := by omega
      have ok4 : ∀ z ∈ rows, z.length = ar ∧ TS.Bd 4 z := fun z hz => by
        obtain ⟨h1, h2⟩ := allRows_ok (hm z hz)
        exact ⟨h1, fun m hmm => by have := h2 m hmm; omega⟩
      obtain ⟨fs, ef, fd⟩ := hp4
      have fl : fs.length = rows.length := by rw [fd.1, List.length_map]
      refine ⟨.ref p, rfl, p, fs, rfl, .inl (.inl ef), by omega, fun y hy => ?_, fun ys p2 pm pw np2 => ?_⟩
      · obtain ⟨h1, h2⟩ := rows_each fd y hy
        obtain ⟨t, e1, e2⟩ := h1.row_invS
        exact ⟨_, ⟨t, e1, .inl (.inl e2)⟩, ok4 _ h2⟩
      · obtain ⟨qs, qd, qp, qw⟩ := sorted_rows (B := 4) (d := ar) fd pm nd ok4 (pw.imp fun h n m hn hm => h n m (let ⟨t, a, b⟩ := hn; ⟨t, a, .inl (.inl b)⟩) (let ⟨t, a, b⟩ := hm; ⟨t, a, .inl (.inl b)⟩))
        refine ⟨p2, ys, rfl, .inl ⟨.inl (.inl upd_same), fun l nl => ?_⟩⟩
        have g6 : Gr H' (upd (upd H' p2 (.lst ys)) l (.tup ys)) := (Gx.new np2).trans (Gx.new nl)
        refine q _ qs _ (g4.thn g6) (hR4.gr g6) (.mk upd_same (qd.gr g6)) ?_ ?_ ?_
        · intro z
          rw [z] at qp
          exact hne (by omega) (List.Perm.nil_eq qp).symm
        · rw [qp.length_eq]
          exact hl9
        · exact ⟨by omega, by omega, fun z hz => by have := (ok4 z (qp.mem_iff.mp hz)).1; omega, fun z hz x' hx' => by have := (allRows_ok (hm z (qp.mem_iff.mp hz))).2 x' hx'; omega, qw, by rw [qp.length_eq]; omega⟩

end K15

set_option linter.all false
set_option maxRecDepth 100000
/-! rows that an operation closes; a dict of rows -/
namespace MR
open PySem PySem.Spec PyProof.Rows L2 TK
theorem nodup_le : ∀ {l S : List (List Int)}, l.Nodup → (∀ x ∈ l, x ∈ S) → l.length ≤ S.length
  | [], _, _, _ => Nat.zero_le _
  | x :: l, S, nd, h => by
    obtain ⟨n1, n2⟩ := List.nodup_cons.mp nd
    have hx := h x List.mem_cons_self
    have : l.length ≤ (S.erase x).length := nodup_le n2 fun y hy => by
      have hy' := h y (List.mem_cons_of_mem _ hy)
      exact (List.mem_erase_of_ne (by rintro rfl; exact n1 hy)).mpr hy'
    rw [List.length_erase_of_mem hx] at this
    have p : 0 < S.length := List.length_pos_of_mem hx
    rw [List.length_cons]
    omega
/-- some rows within S, which the operation closes -/
structure Clo (sz k : Nat) (tab : List Int) (ar : Nat) (rows S : List (List Int)) : Prop where
  few : S.length ≤ 8
  sub : ∀ r ∈ rows, r ∈ S
  shut : ∀ rs : List (List Int), rs.length = k → (∀ r ∈ rs, r ∈ S) → carried sz tab rs ar ∈ S
theorem all_same {rs : List (List Int)} {r : List Int} (h : ∀ q ∈ rs, q = r) : rs = List.replicate rs.length r := by
  induction rs with
  | nil => rfl
  | cons q rs ih =>
    have e : q = r := h q List.mem_cons_self
    subst e
    rw [List.length_cons, List.replicate_succ, ← ih fun p hp => h p (List.mem_cons_of_mem _ hp)]
theorem clo_one {sz k ar : Nat} {tab : List Int} (O : OpOk sz k tab) {r : List Int} (hl : r.length = ar) (hv : ∀ x ∈ r, 0 ≤ x ∧ x < (sz : Int)) : ∃ S, Clo sz k tab ar [r] S := by
  rcases O.own with own | zero
  · refine ⟨[r], by show 1 ≤ 8; omega, fun q hq => hq, fun rs hk hs => ?_⟩
    have e := all_same (rs := rs) (r := r) fun q hq => List.mem_singleton.mp (hs q hq)
    rw [hk] at e
    refine List.mem_singleton.mpr ?_
    rw [e]
    unfold carried
    apply List.ext_getElem
    · rw [List.length_map, List.length_range, hl]
    · intro i h1 h2
      have hi : i < r.length := h2
      rw [List.getElem_map, List.getElem_range, List.map_replicate]
      have g : r.getD i 0 = r[i] := by rw [List.getD_eq_getElem?_getD, List.getElem?_eq_getElem hi]; rfl
      obtain ⟨b1, b2⟩ := hv r[i] (List.getElem_mem hi)
      obtain ⟨v, ev⟩ := Int.eq_ofNat_of_zero_le b1
      rw [g, ev]
      rw [ev] at b2
      exact own v (by omega)
  · refine ⟨[r, List.replicate ar 0], by show 2 ≤ 8; omega, fun q hq => by rw [List.mem_singleton.mp hq]; exact List.mem_cons_self, fun rs _ _ => ?_⟩
    have e : carried sz tab rs ar = List.replicate ar 0 := by
      unfold carried
      apply List.ext_getElem
      · rw [List.length_map, List.length_range, List.length_replicate]
      · intro i h1 h2
        rw [List.getElem_map, List.getElem_replicate, List.getD_eq_getElem?_getD]
        cases h : tab[(idxI sz (rs.map fun r => r.getD ((List.range ar)[i]'(by rw [List.length_map] at h1; exact h1)) 0)).toNat]? with
        | none => rfl
        | some x => exact zero x (List.mem_of_getElem? h)
    rw [e]
    exact List.mem_cons_of_mem _ List.mem_cons_self
/-- the dict whose keys are these rows, each True -/
def kd (rows : List (List Int)) : List (List Key × V) := rows.map fun r => (r.map Sum.inl, V.bl true)
theorem inl_inj {a b : List Int} : (a.map Sum.inl : List Key) = b.map Sum.inl ↔ a = b := by
  constructor
  · intro h
    have e := congrArg (List.map kV) h
    rw [keys_ints, keys_ints] at e
    have e2 := congrArg (List.map unI) e
    rw [unI_ints, unI_ints] at e2
    exact e2
  · intro h
    rw [h]
theorem kd_any (rows : List (List Int)) (r : List Int) : ((kd rows).any fun kv => decide (kv.1 = r.map Sum.inl)) = decide (r ∈ rows) := by
  induction rows with
  | nil => rfl
  | cons q rows ih =>
    show (decide ((q.map Sum.inl : List Key) = r.map Sum.inl) || (kd rows).any fun kv => decide (kv.1 = r.map Sum.inl)) = _
    rw [ih]
    have e : decide ((q.map Sum.inl : List Key) = r.map Sum.inl) = decide (q = r) := decide_eq_decide.mpr inl_inj
    rw [e]
    by_cases h : q = r
    · subst h; simp
    · have h' : ¬ r = q := fun z => h z.symm
      simp [h, h']
theorem kd_has (rows : List (List Int)) (r : List Int) : (valV (kd rows) (r.map Sum.inl)).isSome = decide (r ∈ rows) := by
  rw [← valV_any, kd_any]
theorem kd_old {rows : List (List Int)} {r : List Int} (h : r ∈ rows) : putK (kd rows) (r.map Sum.inl) (V.bl true) = kd rows := by
  unfold putK
  rw [kd_any, if_pos (decide_eq_true h)]
  have : ∀ l : List (List Int), (kd l).map (fun kv => if kv.1 = (r.map Sum.inl : List Key) then (kv.1, V.bl true) else kv) = kd l := fun l => by
    induction l with
    | nil => rfl
    | cons q l ih =>
      show (if (q.map Sum.inl : List Key) = r.map Sum.inl then _ else _) :: (kd l).map _ = _
      rw [ih]
      have e : (if (q.map Sum.inl : List Key) = r.map Sum.inl then ((q.map Sum.inl : List Key), V.bl true) else ((q.map Sum.inl : List Key), V.bl true)) = ((q.map Sum.inl : List Key), V.bl true) := ite_self _
      rw [e]
      rfl
  exact this rows
theorem kd_new {rows : List (List Int)} {r : List Int} (h : r ∉ rows) : putK (kd rows) (r.map Sum.inl) (V.bl true) = kd (rows ++ [r]) := by
  unfold putK
  rw [kd_any, if_neg (by simpa using h)]
  show kd rows ++ [_] = _
  unfold kd
  rw [List.map_append]
  rfl
theorem kd_len (rows : List (List Int)) : (kd rows).length = rows.length := by
  unfold kd
  rw [List.length_map]
end MR

set_option Elab.async false
set_option linter.all false
set_option maxRecDepth 100000
set_option maxHeartbeats 4000000
namespace K15
open PySem PySem.Spec PyProof.Rows L2 TK MR
variable {P : Program} {w : World} {K : PySem.W.Frag} {mg : Str → Option Value} {base : Heap}
/-- tuples stand, so data stand -/
theorem DT.keep {H H1 : Hp} (k : ∀ a xs, H a = some (.tup xs) → H1 a = some (.tup xs)) {v : V} {d : PyData} (h : DT K H v d) : DT K H1 v d := by
  induction h with
  | non => exact .non
  | bl b => exact .bl b
  | int i => exact .int i
  | str x => exact .str x
  | tup h1 h2 _ ih => exact .tup (k _ _ h1) h2 ih
theorem DTs.keep {H H1 : Hp} (k : ∀ a xs, H a = some (.tup xs) → H1 a = some (.tup xs)) {vs : List V} {ds : List PyData} (h : DTs K H vs ds) : DTs K H1 vs ds := ⟨h.1, fun i v d e e' => DT.keep k (h.2 i v d e e')⟩
/-- all but p stands -/
def But (p : Addr) (H H1 : Hp) : Prop := ∀ b, b ≠ p → H1 b = H b
theorem But.tups {p : Addr} {H H1 : Hp} (h : But p H H1) {o : HO} (e : H p = some o) (n : ∀ xs, o ≠ .tup xs) : ∀ a xs, H a = some (.tup xs) → H1 a = some (.tup xs) := fun a xs ea => by
  rw [h a fun z => by
    rw [z, e] at ea
    exact n xs (Option.some.inj ea)]
  exact ea
theorem But.upd {p : Addr} {H H1 : Hp} {o : HO} (h : But p H H1) : But p H (upd H1 p o) := fun b hb => by rw [upd_ne hb, h b hb]
theorem But.refl {p : Addr} {H : Hp} : But p H H := fun _ _ => rfl
theorem grB {H H1 H2 : Hp} {p : Addr} (g : Gr H H1) (n : H p = none) (h : But p H1 H2) : Gr H H2 := grBut g n h
theorem Gx.but {H H1 H2 : Hp} {p : Addr} (g : Gr H H1) (n : H p = none) (h : Gx [p] H1 H2) : Gr H H2 := fun b o hb e => by
  have hbp : b ≠ p := ne_of_none e n
  exact (g b o hb e).trans fun u e' => h b u (fun z => hbp (List.mem_singleton.mp z)) e'
theorem keys_DTs {H : Hp} {keys : List (List Int)} {bs : List Addr} (h : IsKeys H (kd keys) bs) : DTs K H (bs.map V.ref) (keys.map rowD) := by
  unfold IsKeys at h
  induction keys generalizing bs with
  | nil =>
    cases h
    exact .nil
  | cons r keys ih =>
    cases h with
    | cons h t =>
      refine .cons (.row ?_) (ih t)
      have e : (r.map Sum.inl : List Key).map kV = r.map V.int := keys_ints r
      rw [← e]
      exact h
/-- a row of so many values below sz -/
def Good (sz ar : Nat) (r : List Int) : Prop := r.length = ar ∧ ∀ x ∈ r, 0 ≤ x ∧ x < (sz : Int)
theorem Good.bd {sz ar : Nat} {r : List Int} (h : Good sz ar r) (s4 : sz ≤ 4) : r.length = ar ∧ TS.Bd 4 r := ⟨h.1, fun m hm => by have := h.2 m hm; omega⟩
/-- (arity, tuple(sorted(known))) -/
theorem closed_end {D : Ends} {σ : L2.St} {H' : Hp} {d : Addr} {sz ar : Nat} {keys : List (List Int)} (h2 : σ[2]? = some (some (.int ar))) (h4 : σ[4]? = some (some (.ref d))) (hd : H' d = some (.dT (kd keys))) (nd : keys.Nodup) (hl : keys.length ≤ 8) (ok : ∀ r ∈ keys, Good sz ar r)
    (s4 : sz ≤ 4) (a1 : 1 ≤ ar) (a4 : ar ≤ 4) (q : ∀ v rs H2, Gr H' H2 → DT K H2 v (relD ar rs) → RelOk sz ar rs → rs.Perm keys → D.rt v H2) :
    tRet (tTup (tCons (tVar 2) (tCons (tCB (rTupleOf K) (tCons (tCB (rSortedDT ar 4) (tCons (tVar 4) tNil)) tNil)) tNil))) D σ H' := by
  refine ⟨.int ar, h2, .ref d, h4, d, kd keys, rfl, hd, by rw [kd_len]; omega, fun p hp => ?_, fun bs ys p2 hk pm pw np2 => ?_⟩
  · obtain ⟨r, hr, rfl⟩ := List.mem_map.mp hp
    exact ⟨r, rfl, (ok r hr).bd s4⟩
  · obtain ⟨qs, qd, qp, qw⟩ := sorted_rows (B := 4) (d := ar) (keys_DTs (K := K) hk) pm nd (fun r hr => (ok r hr).bd s4) pw
    refine ⟨p2, ys, rfl, .inl ⟨.inl (.inl upd_same), fun l nl => ⟨by show 2 ≤ sizeLine; decide, fun t nt => ?_⟩⟩⟩
    have g2 : Gr H' (upd (upd H' p2 (.lst ys)) l (.tup ys)) := (Gx.new np2).trans (Gx.new nl)
    refine q _ qs _ (g2.trans (Gx.new nt)) (rel_laid (.mk upd_same (qd.gr g2)) nt) ?_ qp
    exact ⟨by omega, by omega, fun z hz => by have := (ok z (qp.mem_iff.mp hz)).1; omega, fun z hz x hx => by have := (ok z (qp.mem_iff.mp hz)).2 x hx; omega, qw, by rw [qp.length_eq]; omega⟩
theorem asc_nodup {l : List (List Int)} (h : l.Pairwise fun r q => HT.lexLt r q = true) : l.Nodup := h.imp fun {a b} h z => by
  rw [z, lex_irr] at h
  cases h
theorem RelOk.good {sz ar : Nat} {rows : List (List Int)} (h : RelOk sz ar rows) : ∀ r ∈ rows, Good sz ar r := fun r hr => ⟨by have := h.len r hr; omega, fun x hx => by have := h.val r hr x hx; omega⟩
theorem any_nil (rows : List (List Int)) : PyData.eqv (.list (rows.map rowD)) (.list []) = decide (rows = []) := by
  cases rows with
  | nil => simp [PyData.eqv, PyData.eqvAll]
  | cons r rows => simp [PyData.eqv, PyData.eqvAll]
/-- known[told] = True -/
theorem put_row {H : Hp} {d b : Addr} {keys : List (List Int)} {r : List Int} (hd : H d = some (.dT (kd keys))) (hb : H b = some (.tup (r.map V.int))) (hl : keys.length ≤ 900) : DPut H d (.ref b) (.bl true) (upd H d (.dT (putK (kd keys) (r.map Sum.inl) (.bl true)))) :=
  DPut.t hd (by rw [keys_ints]; exact hb) (by rw [kd_len]; exact small1000 (by omega))
theorem get_row {H : Hp} {d b : Addr} {keys : List (List Int)} {r : List Int} (hd : H d = some (.dT (kd keys))) (hb : H b = some (.tup (r.map V.int))) : DGet H d (.ref b) (valV (kd keys) (r.map Sum.inl)) :=
  DGet.t hd (by rw [keys_ints]; exact hb)
theorem rows_in {qs : List (List Int)} : ∀ {es : List PyData}, (∀ e ∈ es, e ∈ qs.map rowD) → ∃ rs : List (List Int), es = rs.map rowD ∧ ∀ r ∈ rs, r ∈ qs
  | [], _ => ⟨[], rfl, fun r hr => by simp at hr⟩
  | e :: es, h => by
    obtain ⟨r, hr, e1⟩ := List.mem_map.mp (h e List.mem_cons_self)
    obtain ⟨rs, e2, h2⟩ := rows_in fun e he => h e (List.mem_cons_of_mem _ he)
    exact ⟨r :: rs, by rw [List.map_cons, e1, ← e2], fun q hq => by
      rcases List.mem_cons.mp hq with z | z
      · rw [z]; exact hr
      · exact h2 q z⟩
/-! _law_closed -/
def sp_law_closed (K : PySem.W.Frag) : Sp := fun vs H Q _ => ∃ (sz ar k : Nat) (v u : V) (tab : List Int) (rows : List (List Int)), vs = [.int sz, v, .int ar, u] ∧ (1 ≤ sz ∧ sz ≤ 4) ∧ (1 ≤ ar ∧ ar ≤ 4) ∧ DT K H v (opD k tab) ∧ OpOk sz k tab ∧ DT K H u (.tuple (rows.map rowD)) ∧ rows ≠ [] ∧ rows.length ≤ 8 ∧ RelOk sz ar rows ∧
  (∀ H', Gr H H' → (¬ ∃ S, Clo sz k tab ar rows S) → Q .non H') ∧ ∀ z rs H', Gr H H' → DT K H' z (relD ar rs) → RelOk sz ar rs → rs.length ≤ 8 → rs ≠ [] → Q z H'
theorem ok_law_closed (T : Txt K mg base) : FnOk P w K mg base CX0 3 T.law_closed.f T.law_closed.fd p_law_closed (sp_law_closed K) := by
  refine T.law_closed.F.ok sc_law_closed (fun vs H Q E h => ?_) (fun A outer s H vs Q E hr h => ?_)
  · obtain ⟨_, _, _, _, _, _, _, rfl, _⟩ := h
    rfl
  · obtain ⟨sz, ar, k, v, u, tab, rows, rfl, ⟨s1, s4⟩, ⟨a1, a4⟩, hv, O, hu, hne, hl8, R, qn, q⟩ := h
    have hu65 : (A.deeper (envOfC "_law_closed" (defScope s_law_closed) s.heap.objs.size T.law_closed.f (.ref T.law_closed.c))).units + 65 < cLine := by have := hr.un; omega
    have hu1 : (A.deeper (envOfC "_law_closed" (defScope s_law_closed) s.heap.objs.size T.law_closed.f (.ref T.law_closed.c))).units + 1 < cLine := by omega
    refine ⟨_, pss_cons (ps_par (i := 4) (j := 5) (by rfl) sc_law_closed.nd rfl rfl (by decide) rfl rfl (pa_cons pe_dnewT (pa_cons (pe_callTy call_list_of (by rfl) T.b_list boot_list (pa_cons (pv 3) pa_nil)) pa_nil)) (by rfl))
      (pss_cons (ps_for PassesOwn.never rfl (pi_tup (pv 3)) (pg_name (i := 6) sc_law_closed.nd rfl (.inl rfl)) (pss_one (ps_dput hu1 (pv 4) (pv 6) pe_bl rfl)))
      (pss_cons (ps_for PassesOwn.never rfl (pi_range1 (by rfl) T.b_range (pa_cons pe_int pa_nil)) (pg_name (i := 7) sc_law_closed.nd rfl (.inl rfl))
        (pss_cons (ps_if (pt_cmpR (op_eqD hr.units) (pv 5) (pe_lst pa_nil) (nomark _)) (pss_one ps_break) pss_nil)
        (pss_cons (ps_set (i := 8) sc_law_closed.nd rfl (.inl rfl) (pe_lst pa_nil))
        (pss_cons (ps_for PassesOwn.never rfl (pi_list (pe_call (ok_law_tuples T) (hr.mono (by decide)) (by rfl) T.law_tuples.g T.law_tuples.F.kp T.law_tuples.b .nil pass0 (pa_cons (pe_callB (cr_sortedDT (d := ar) (B := 4) a1 (by rfl)) (by rfl) T.b_sorted boot_sorted (pa_cons (pv 4) pa_nil)) (pa_cons (pe_ix ix_tup (pv 1) pe_int (fun _ _ => rfl)) pa_nil)))) (pg_name (i := 9) sc_law_closed.nd rfl (.inl rfl))
          (pss_cons (ps_set (i := 10) sc_law_closed.nd rfl (.inl rfl) (pe_call (ok_law_carried T) hr (by rfl) T.law_carried.g T.law_carried.F.kp T.law_carried.b .nil pass0 (pa_cons (pv 0) (pa_cons (pv 1) (pa_cons (pv 9) pa_nil)))))
          (pss_one (ps_if (PW.pt (pw_and (pt_cmp (pc_dnotin hu1 (pv 10) (pv 4))) (pw_and1 (pt_cmpR (op_notInDK K hu65) (pv 10) (pv 8) (by rfl))))) (pss_one (ps_expr (pe_bm PySem.F.plainAttrs_list PySem.F.slot_list_append PySem.F.type_list_append mt_append (pv 8) (pa_cons (pv 10) pa_nil)))) pss_nil))))
        (pss_cons (ps_for PassesOwn.never rfl (pi_list (pv 8)) (pg_name (i := 6) sc_law_closed.nd rfl (.inl rfl)) (pss_one (ps_dput hu1 (pv 4) (pv 6) pe_bl rfl)))
        (pss_cons (ps_if (pt_cmpR op_gt (pe_callB call_len_dT (by rfl) T.b_len boot_len (pa_cons (pv 4) pa_nil)) pe_int (nomark _)) (pss_one (ps_ret pe_non)) pss_nil)
        (pss_one (ps_set (i := 5) sc_law_closed.nd rfl (.inl rfl) (pv 8)))))))))
      (pss_one (ps_ret (pe_tup (pa_cons (pv 2) (pa_cons (pe_callTy (call_tuple_ofK K) (by rfl) T.b_tuple boot_tuple (pa_cons (pe_callB (cr_sortedDT (d := ar) (B := 4) a1 (by rfl)) (by rfl) T.b_sorted boot_sorted (pa_cons (pv 4) pa_nil)) pa_nil)) pa_nil))))))), ?_⟩
    have nd := asc_nodup R.asc
    have good := RelOk.good R
    obtain ⟨ub, us, rfl, hub, hus⟩ := hu.tup_invS
    have ul : us.length = rows.length := by rw [hus.1, List.length_map]
    refine fun d nd0 => ⟨.ref ub, rfl, ub, us, rfl, .inr (.inl (.inl (Gx.tupS (Gx.new (S := []) nd0) .nil hub))), fun f nf => ⟨_, _, rfl, ?_⟩⟩
    have g1 : Gr H (upd (upd H d (.dT [])) f (.lst us)) := (Gx.new nd0).trans (Gx.new nf)
    have hf0 : H f = none := Gr.free (Gx.new nd0) nf
    have ndf : d ≠ f := fun z => by
      rw [← z, upd_same] at nf
      cases nf
    have hd1 : (upd (upd H d (.dT [])) f (.lst us)) d = some (.dT (kd [])) := by rw [upd_ne ndf, upd_same]; rfl
    have hf1 : LR K (upd (upd H d (.dT [])) f (.lst us)) f rows := ⟨us, upd_same, hus.gr g1⟩
    generalize upd (upd H d (.dT [])) f (.lst us) = H1 at *
    have hub1 := Gx.tupS g1 .nil hub
    have hus1 := hus.gr g1
    refine ⟨.ref ub, rfl, ub, rfl, ⟨_, .inl (.inl hub1)⟩, ?_⟩
    have nub : ub ≠ d := fun z => by
      rw [z, hd1] at hub1
      cases hub1
    refine for_tup (K := K) (xs := us) (fun i σ H' => ∃ y6, σ = [some (.int sz), some v, some (.int ar), some (.ref ub), some (.ref d), some (.ref f), y6, none, none, none, none] ∧ But d H1 H' ∧ H' d = some (.dT (kd (rows.take i))))
      ⟨none, rfl, But.refl, by rw [List.take_zero]; exact hd1⟩ (fun i σ H' _ hp => by
        obtain ⟨y6, _, b, _⟩ := hp
        exact .inl (.inl (by rw [b ub nub]; exact hub1))) (fun i x σ H' ex hp => ?_) (fun σ H' hp => ?_)
    · obtain ⟨y6, rfl, b, hd'⟩ := hp
      obtain ⟨dx, e1, dv⟩ := hus1.at' ex
      rw [List.getElem?_map] at e1
      obtain ⟨r, er, rfl⟩ := Option.map_eq_some_iff.mp e1
      obtain ⟨t, rfl, ht⟩ := (DT.keep (b.tups hd1 fun _ z => by cases z) dv).row_invS
      have hi : i < rows.length := (List.getElem?_eq_some_iff.mp er).1
      refine ⟨.ref d, rfl, .ref t, rfl, d, _, rfl, put_row hd' ht (by rw [List.length_take]; omega), _, rfl, b.upd, ?_⟩
      rw [upd_same, List.take_add_one, er]
      rw [kd_new]
      · rfl
      · intro z
        obtain ⟨j, hj, e⟩ := List.mem_iff_getElem.mp z
        rw [List.getElem_take] at e
        rw [List.length_take] at hj
        have e2 : rows[i] = r := (List.getElem?_eq_some_iff.mp er).2
        exact List.pairwise_iff_getElem.mp nd j i (by omega) hi (by omega) (e.trans e2.symm)
    · obtain ⟨y6, rfl, b, hd'⟩ := hp
      rw [ul, List.take_length] at hd'
      have g2 : Gr H H' := grB g1 nd0 b
      have hf2 : LR K H' f rows := by
        obtain ⟨vs, a, c⟩ := hf1
        exact ⟨vs, by rw [b f ndf.symm]; exact a, DTs.keep (b.tups hd1 fun _ z => by cases z) c⟩
      refine ⟨10, rfl, by decide, by decide, ?_⟩
      refine for_range (n := (10 : Int).toNat) (fun i σ H' => ∃ f y6 y7 y8 y9 y10 keys fresh, σ = [some (.int sz), some v, some (.int ar), some (.ref ub), some (.ref d), some (.ref f), y6, y7, y8, y9, y10] ∧ Gr H H' ∧ H' d = some (.dT (kd keys)) ∧ LR K H' f fresh ∧ d ≠ f ∧ keys.Nodup ∧ keys.length ≤ 8 ∧ keys ≠ [] ∧ (∀ r ∈ keys, Good sz ar r) ∧ (∀ S, Clo sz k tab ar rows S → ∀ r ∈ keys, r ∈ S))
        ⟨f, y6, none, none, none, none, rows, rows, rfl, g2, hd', hf2, ndf, nd, hl8, hne, good, fun S C => C.sub⟩ (fun i σ H' hi hp => ?_) (fun σ H' hp => ?_)
      · obtain ⟨f, y6, y7, y8, y9, y10, keys, fresh, rfl, g3, hd3, hf3, ndf3, knd, kl, kne, kg, kc⟩ := hp
        obtain ⟨fs, ef, fd⟩ := hf3
        -- if fresh == []
        refine ⟨.ref f, rfl, Nat.zero_le _, fun e ne => ?_⟩
        have ge : Gr H' (upd H' e (.lst [])) := Gx.new ne
        refine ⟨_, .list [], dp_rows (ge.lst ef) (fd.gr ge), .lst (.inl (.inl upd_same)) .nil, rows_shaped fresh, by decide, _, rfl, ?_⟩
        rw [any_nil]
        have hd4 : (upd H' e (.lst [])) d = some (.dT (kd keys)) := by
          rw [upd_ne fun z => by
            rw [z, ne] at hd3
            cases hd3]
          exact hd3
        have g4 := g3.trans ge
        generalize upd H' e (.lst []) = H4 at *
        refine ite2 (fun _ => ?_) (fun _ => ?_)
        · refine closed_end rfl rfl hd4 knd kl kg s4 a1 a4 fun v rs H2 g5 dv ok pm => q v rs H2 (g4.trans g5) dv ok (by rw [pm.length_eq]; exact kl) fun z => ?_
          rw [z] at pm
          exact kne (List.Perm.nil_eq pm).symm
        · -- later = []
          refine ⟨Nat.zero_le _, fun lt nlt => ?_⟩
          have gl : Gr H4 (upd H4 lt (.lst [])) := Gx.new nlt
          have nlH : H lt = none := g4.free nlt
          have ndl : d ≠ lt := fun z => by
            rw [z, nlt] at hd4
            cases hd4
          have hd5 : (upd H4 lt (.lst [])) d = some (.dT (kd keys)) := by rw [upd_ne ndl]; exact hd4
          have hl5 : LR K (upd H4 lt (.lst [])) lt [] := ⟨[], upd_same, .nil⟩
          have g5 := g4.trans gl
          generalize upd H4 lt (.lst []) = H5 at *
          -- sorted(known)
          refine ⟨.ref d, rfl, d, kd keys, rfl, hd5, by rw [kd_len]; omega, fun p hp => ?_, fun bs ys p2 hk pm pw np2 => ?_⟩
          · obtain ⟨r, hr, rfl⟩ := List.mem_map.mp hp
            exact ⟨r, rfl, (kg r hr).bd s4⟩
          obtain ⟨qs, qd, qp, qw⟩ := sorted_rows (B := 4) (d := ar) (keys_DTs (K := K) hk) pm knd (fun r hr => (kg r hr).bd s4) pw
          have gs : Gr H5 (upd H5 p2 (.lst ys)) := Gx.new np2
          obtain ⟨oa, ob, rfl, ho1, ho2⟩ := DT.op_inv (hv.gr (g5.trans gs))
          refine ⟨.ref oa, rfl, oa, _, 0, .int k, rfl, rfl, ho1, atI_nat (j := 0) rfl, ?_⟩
          refine ⟨p2, ys, qs.map rowD, k, rfl, .inl (.inl upd_same), qd.gr gs, by rw [List.length_map, qp.length_eq]; exact kl, O.k3, fun L H6 ws g6 nL hL wl hW => ?_⟩
          have g56 : Gr H5 H6 := gs.trans g6
          have g06 := g5.trans g56
          have hv6 := hv.gr g06
          have hd6 : H6 d = some (.dT (kd keys)) := g56.at (by simp) hd5 fun _ z => by cases z
          have hl6 : LR K H6 lt [] := LR.gr g56 hl5
          have nLl : L ≠ lt := fun z => by
            obtain ⟨xs, e, _⟩ := hl5
            have e2 := gs.lst e
            rw [← z, nL] at e2
            cases e2
          refine ⟨L, rfl, ⟨ws, .inl (.inl hL)⟩, ?_⟩
          refine for_list (K := K) (xs := ws) (fun j σ H' => ∃ y9 y10 later, σ = [some (.int sz), some (.ref oa), some (.int ar), some (.ref ub), some (.ref d), some (.ref f), y6, some (.int (0 + (i : Int))), some (.ref lt), y9, y10] ∧ Gx [lt] H6 H' ∧ LR K H' lt later ∧ later.length ≤ j ∧ later.Nodup ∧ (∀ r ∈ later, Good sz ar r ∧ r ∉ keys) ∧ (∀ S, Clo sz k tab ar rows S → ∀ r ∈ later, r ∈ S))
            ⟨y9, y10, [], rfl, Gx.refl, hl6, Nat.zero_le _, List.nodup_nil, fun r hr => by simp at hr, fun S C r hr => by simp at hr⟩ (fun j σ H' _ hp => ?_) (fun j x σ H' ex hp => ?_) (fun σ H' hp => ?_)
          · obtain ⟨_, _, _, _, g, _⟩ := hp
            exact .inl (.inl (g.at (by simp [nLl]) hL fun _ z => by cases z))
          · obtain ⟨y9, y10, later, rfl, g7, hl7, lj, lnd, lg, lc⟩ := hp
            have wj : j < ws.length := (List.getElem?_eq_some_iff.mp ex).1
            have lsl : LS [lt] H6 := by
              obtain ⟨vs, e, _⟩ := hl6
              exact .one e
            have ndl' : d ∉ [lt] := fun z => ndl (List.mem_singleton.mp z)
            obtain ⟨es, de, el, em⟩ := hW x (List.mem_of_getElem? ex)
            obtain ⟨rs, rfl, hrs⟩ := rows_in em
            rw [List.length_map] at el
            have inkeys : ∀ r ∈ rs, r ∈ keys := fun r hr => qp.mem_iff.mp (hrs r hr)
            refine ⟨.int sz, rfl, .ref oa, rfl, x, rfl, sz, .ref oa, x, rs, tab, k, ar, rfl, s4, hv6.gx g7 lsl, de.gx g7 lsl, ?_, by rw [el]; exact O.k3, fun r hr => kg r (inkeys r hr), a4, by rw [el]; exact O.len, fun z H8 g8 dz => ?_⟩
            · intro z
              rw [z] at el
              have := O.k1
              simp at el
              omega
            have hd8 : H8 d = some (.dT (kd keys)) := g8.at (by simp) (g7.at ndl' hd6 fun _ z => by cases z) fun _ z => by cases z
            have hl8 : LR K H8 lt later := LR.gr g8 hl7
            obtain ⟨t, rfl, ht⟩ := dz.row_invS
            refine ⟨.ref t, rfl, .ref d, rfl, d, _, rfl, get_row hd8 ht, _, rfl, ?_⟩
            rw [kd_has]
            refine ite2 (fun h1 => ?_) (fun h1 => ?_)
            · obtain ⟨vs, ev, dvs⟩ := id hl8
              refine ⟨.ref t, rfl, .ref lt, rfl, _, _, dz.dp, dp_rows ev dvs, row_shaped _, rows_shaped later, _, rfl, ?_⟩
              rw [any_eqv]
              refine ite2 (fun h2 => ?_) (fun h2 => ?_)
              · have nk : carried sz tab rs ar ∉ keys := by simpa using h1
                have nl : carried sz tab rs ar ∉ later := by simpa using h2
                refine ⟨.ref lt, rfl, .inl ⟨rfl, _, .inl (.inl ev)⟩, .ref t, rfl, lt, vs, .ref t, rfl, rfl, ev, ?_, ?_⟩
                · rw [dvs.1, List.length_map]
                  exact small1000 (by omega)
                · refine ⟨_, _, later ++ [carried sz tab rs ar], rfl, (g7.thn g8).wrS (List.mem_singleton.mpr rfl), ⟨_, upd_same, LR.app (dvs.wr ev) (DT.wr ev dz)⟩, by rw [List.length_append]; show later.length + 1 ≤ j + 1; omega, ?_, ?_, ?_⟩
                  · rw [List.nodup_append]
                    exact ⟨lnd, by simp, fun a ha b hb => by
                      rw [List.mem_singleton.mp hb]
                      rintro rfl
                      exact nl ha⟩
                  · intro r hr
                    rcases List.mem_append.mp hr with hr | hr
                    · exact lg r hr
                    · rw [List.mem_singleton.mp hr]
                      exact ⟨⟨carried_len .., carried_ok O.val s1⟩, nk⟩
                  · intro S C r hr
                    rcases List.mem_append.mp hr with hr | hr
                    · exact lc S C r hr
                    · rw [List.mem_singleton.mp hr]
                      exact C.shut rs el fun q hq => kc S C q (inkeys q hq)
              · exact ⟨_, _, later, rfl, g7.thn g8, hl8, by omega, lnd, lg, lc⟩
            · exact iteF ⟨_, _, later, rfl, g7.thn g8, hl8, by omega, lnd, lg, lc⟩
          · obtain ⟨y9, y10, later, rfl, g7, hl7, lj, lnd, lg, lc⟩ := hp
            have ndl' : d ∉ [lt] := fun z => ndl (List.mem_singleton.mp z)
            have hd7 : H' d = some (.dT (kd keys)) := g7.at ndl' hd6 fun _ z => by cases z
            have g07 : Gr H H' := Gx.but g06 nlH g7
            obtain ⟨ls, ev, dvs⟩ := id hl7
            have ll : ls.length = later.length := by rw [dvs.1, List.length_map]
            refine ⟨.ref lt, rfl, lt, rfl, ⟨ls, .inl (.inl ev)⟩, ?_⟩
            refine for_list (K := K) (xs := ls) (fun j σ H2 => ∃ y6, σ = [some (.int sz), some (.ref oa), some (.int ar), some (.ref ub), some (.ref d), some (.ref f), y6, some (.int (0 + (i : Int))), some (.ref lt), y9, y10] ∧ But d H' H2 ∧ H2 d = some (.dT (kd (keys ++ later.take j))))
              ⟨y6, rfl, But.refl, by rw [List.take_zero, List.append_nil]; exact hd7⟩ (fun j σ H2 _ hp => ?_) (fun j x σ H2 ex hp => ?_) (fun σ H2 hp => ?_)
            · obtain ⟨_, _, b, _⟩ := hp
              exact .inl (.inl (by rw [b lt ndl.symm]; exact ev))
            · obtain ⟨y6', rfl, b, hd8⟩ := hp
              obtain ⟨dx, e1, dv⟩ := dvs.at' ex
              rw [List.getElem?_map] at e1
              obtain ⟨r, er, rfl⟩ := Option.map_eq_some_iff.mp e1
              obtain ⟨t, rfl, ht⟩ := (DT.keep (b.tups hd7 fun _ z => by cases z) dv).row_invS
              have hj : j < later.length := (List.getElem?_eq_some_iff.mp er).1
              refine ⟨.ref d, rfl, .ref t, rfl, d, _, rfl, put_row hd8 ht (by rw [List.length_append, List.length_take]; omega), _, rfl, b.upd, ?_⟩
              rw [upd_same, List.take_add_one, er]
              rw [kd_new]
              · rw [List.append_assoc]
                rfl
              · intro z
                rcases List.mem_append.mp z with z | z
                · exact (lg r (List.mem_of_getElem? er)).2 z
                · obtain ⟨j', hj', e⟩ := List.mem_iff_getElem.mp z
                  rw [List.getElem_take] at e
                  rw [List.length_take] at hj'
                  have e2 : later[j] = r := (List.getElem?_eq_some_iff.mp er).2
                  exact List.pairwise_iff_getElem.mp lnd j' j (by omega) hj (by omega) (e.trans e2.symm)
            · obtain ⟨y6', rfl, b, hd8⟩ := hp
              rw [ll, List.take_length] at hd8
              have g08 : Gr H H2 := grB g07 nd0 b
              have nd2 : (keys ++ later).Nodup := by
                rw [List.nodup_append]
                exact ⟨knd, lnd, fun a ha c hc => by
                  rintro rfl
                  exact (lg a hc).2 ha⟩
              have cl2 : ∀ S, Clo sz k tab ar rows S → ∀ r ∈ keys ++ later, r ∈ S := fun S C r hr => (List.mem_append.mp hr).elim (kc S C r) (lc S C r)
              refine ⟨.ref d, rfl, d, _, rfl, hd8, _, _, rfl, rfl, _, rfl, ite2 (fun h9 => ?_) (fun h9 => ?_)⟩
              · rw [kd_len] at h9
                have h9' := of_decide_eq_true h9
                refine qn H2 g08 fun ⟨S, C⟩ => ?_
                have := nodup_le nd2 (cl2 S C)
                have := C.few
                omega
              · rw [kd_len] at h9
                have h9' : ¬ ((keys ++ later).length : Int) > 8 := fun z => h9 (decide_eq_true z)
                have hlt2 : LR K H2 lt later := ⟨ls, by rw [b lt ndl.symm]; exact ev, DTs.keep (b.tups hd7 fun _ z => by cases z) dvs⟩
                refine ⟨.ref lt, rfl, lt, y6', _, _, _, _, keys ++ later, later, rfl, g08, hd8, hlt2, ndl, nd2, by omega, fun z => kne (List.append_eq_nil_iff.mp z).1, fun r hr => (List.mem_append.mp hr).elim (kg r) fun z => (lg r z).1, cl2⟩
      · obtain ⟨f, y6, y7, y8, y9, y10, keys, fresh, rfl, g3, hd3, hf3, ndf3, knd, kl, kne, kg, kc⟩ := hp
        refine closed_end rfl rfl hd3 knd kl kg s4 a1 a4 fun v rs H2 g4 dv ok pm => q v rs H2 (g3.trans g4) dv ok (by rw [pm.length_eq]; exact kl) fun z => ?_
        rw [z] at pm
        exact kne (List.Perm.nil_eq pm).symm

end K15

set_option Elab.async false
set_option linter.all false
set_option maxRecDepth 100000
set_option maxHeartbeats 4000000
namespace K15
open PySem PySem.Spec PyProof.Rows L2 TK MR
variable {P : Program} {w : World} {K : PySem.W.Frag} {mg : Str → Option Value} {base : Heap}
theorem cut_first {x : V} {xs : List V} : cutV (x :: xs) none (some 1) = [x] := by
  unfold cutV
  rw [show HT.sIx (x :: xs).length (x :: xs).length (some 1) = min 1 (x :: xs).length from HT.sIx_nat (x :: xs).length _ 1, HT.sIx_none]
  rw [show min 1 (x :: xs).length = 1 by rw [List.length_cons]; omega]
  rfl
theorem not_whole {n : Nat} (h : 2 ≤ n) : ¬ (HT.sIx n 0 none = 0 ∧ HT.sIx n n (some 1) = n) := by
  rw [show HT.sIx n n (some 1) = min 1 n from HT.sIx_nat n n 1]
  omega
theorem DT.op_gx {S : List Addr} {H H' : Hp} (g : Gx S H H') (hS : LS S H) {v : V} {k : Int} {tab : List Int} (h : DT K H v (opD k tab)) : DT K H' v (opD k tab) := h.gx g hS
/-! _law_kept -/
def sp_law_kept (K : PySem.W.Frag) : Sp := fun vs H Q _ => ∃ (r c : Addr) (sz ar k : Nat) (v : V) (tab : List Int), vs = [.ref r, .int sz, v, .int ar] ∧ RowSt K H r c ∧ Lv K H c ∧ (1 ≤ sz ∧ sz ≤ 4) ∧ (1 ≤ ar ∧ ar ≤ 4) ∧ DT K H v (opD k tab) ∧ OpOk sz k tab ∧
  ∀ z (rs : List (List Int)) H', Gx [r] H H' → RowSt K H' r c → DT K H' z (relD ar rs) → rs ≠ [] → rs.length ≤ 9 → RelOk sz ar rs → Q z H'
theorem ok_law_kept (T : Txt K mg base) : FnOk P w K mg base CX0 4 T.law_kept.f T.law_kept.fd p_law_kept (sp_law_kept K) := by
  refine T.law_kept.F.ok sc_law_kept (fun vs H Q E h => ?_) (fun A outer s H vs Q E hr h => ?_)
  · obtain ⟨_, _, _, _, _, _, _, rfl, _⟩ := h
    rfl
  · obtain ⟨r, c, sz, ar, k, v, tab, rfl, hR, hc, ⟨s1, s4⟩, ⟨a1, a4⟩, hv, O, q⟩ := h
    refine ⟨_, pss_cons (ps_set (i := 4) sc_law_kept.nd rfl (.inl rfl) (pe_call (ok_law_some_rows T) hr (by rfl) T.law_some_rows.g T.law_some_rows.F.kp T.law_some_rows.b .nil pass0 (pa_cons (pv 0) (pa_cons (pv 1) (pa_cons (pv 3) (pa_cons pe_int pa_nil))))))
      (pss_cons (ps_set (i := 5) sc_law_kept.nd rfl (.inl rfl) (pe_call (ok_law_closed T) hr (by rfl) T.law_closed.g T.law_closed.F.kp T.law_closed.b .nil pass0 (pa_cons (pv 1) (pa_cons (pv 2) (pa_cons (pv 3) (pa_cons (pv 4) pa_nil))))))
      (pss_one (ps_ret (pe_ifExp (pt_cmpR op_notN (pv 5) pe_non (nomark _)) (pv 5) (pe_call (ok_law_closed T) hr (by rfl) T.law_closed.g T.law_closed.F.kp T.law_closed.b .nil pass0 (pa_cons (pv 1) (pa_cons (pv 2) (pa_cons (pv 3) (pa_cons (pe_slice sl_tup (pv 4) po_none (po_some pe_int)) pa_nil))))))))), ?_⟩
    refine ⟨.ref r, rfl, .int sz, rfl, .int ar, rfl, r, c, sz, ar, 3, rfl, hR, hc, ⟨s1, s4⟩, ⟨a1, a4⟩, ⟨by omega, by omega⟩, fun u rows H1 g1 hR1 hu hne hl R => ?_⟩
    have hv1 : DT K H1 v (opD k tab) := hv.gx g1 hR.ls
    refine ⟨.int sz, rfl, v, rfl, .int ar, rfl, u, rfl, sz, ar, k, v, u, tab, rows, rfl, ⟨s1, s4⟩, ⟨a1, a4⟩, hv1, O, hu, hne, by omega, R, fun H2 g2 no => ?_, fun z rs H2 g2 dz Rz lz nz => ?_⟩
    · refine ⟨.non, rfl, rfl, _, rfl, ?_⟩
      rw [show (!decide (V.non = V.non)) = false by simp]
      refine iteF ?_
      obtain ⟨a, us, rfl, ha, hus⟩ := (hu.gr g2).tup_invS
      have ul : us.length = rows.length := by rw [hus.1, List.length_map]
      have good := RelOk.good R
      have two : 2 ≤ rows.length := by
        match rows, hne with
        | [x], _ => exact absurd (clo_one O (good x List.mem_cons_self).1 (good x List.mem_cons_self).2) no
        | _ :: _ :: _, _ => simp
      match rows, us, hne with
      | x :: rows', y :: us', _ =>
        obtain ⟨hy, _⟩ : DT K H2 y (rowD x) ∧ True := by
          obtain ⟨w1, ws1, e, h1, _⟩ := hus.cons_inv
          cases e
          exact ⟨h1, trivial⟩
        refine ⟨.int sz, rfl, v, rfl, .int ar, rfl, .ref a, rfl, 1, rfl, a, y :: us', rfl, .inl (.inl ha), not_whole (by omega), fun p np => ?_⟩
        have gp : Gr H2 (upd H2 p (.tup (cutV (y :: us') none (some 1)))) := Gx.new np
        refine ⟨sz, ar, k, v, .ref p, tab, [x], rfl, ⟨s1, s4⟩, ⟨a1, a4⟩, hv1.gr (g2.trans gp), O, ?_, by simp, by simp, ?_, fun H3 g3 no => ?_, fun z rs H3 g3 dz Rz lz nz => ?_⟩
        · rw [cut_first] at gp ⊢
          exact .mk upd_same (.one (hy.gr gp))
        · exact ⟨R.ar1, R.ar4, fun q hq => R.len q (by rw [List.mem_singleton.mp hq]; exact List.mem_cons_self), fun q hq => R.val q (by rw [List.mem_singleton.mp hq]; exact List.mem_cons_self), by simp, by simp⟩
        · exact absurd (clo_one O (good x List.mem_cons_self).1 (good x List.mem_cons_self).2) no
        · have g4 := (g2.trans gp).trans g3
          exact q z rs H3 (g1.thn g4) (hR1.gr g4) dz nz (by omega) Rz
    · refine ⟨z, rfl, rfl, _, rfl, ?_⟩
      obtain ⟨a, xs, rfl, _⟩ := dz.tup_inv
      rw [show (!decide (V.ref a = V.non)) = true by simp]
      exact iteT ⟨.ref a, rfl, q _ rs H2 (g1.thn g2) (hR1.gr g2) dz nz (by omega) Rz⟩

end K15

set_option Elab.async false
set_option linter.all false
set_option maxRecDepth 100000
set_option maxHeartbeats 4000000
namespace K15
open PySem PySem.Spec PyProof.Rows L2 TK MR
variable {P : Program} {w : World} {K : PySem.W.Frag} {mg : Str → Option Value} {base : Heap}
/-! _law_relation -/
def sp_law_relation (K : PySem.W.Frag) : Sp := fun vs H Q _ => ∃ (r c : Addr) (sz ar most : Nat), vs = [.ref r, .int sz, .int ar, .int most] ∧ RowSt K H r c ∧ Lv K H c ∧ (1 ≤ sz ∧ sz ≤ 4) ∧ (1 ≤ ar ∧ ar ≤ 4) ∧ (1 ≤ most ∧ most ≤ 9) ∧
  ∀ z (rs : List (List Int)) H', Gx [r] H H' → RowSt K H' r c → DT K H' z (relD ar rs) → rs ≠ [] → rs.length ≤ 9 → RelOk sz ar rs → Q z H'
theorem ok_law_relation (T : Txt K mg base) : FnOk P w K mg base CX0 5 T.law_relation.f T.law_relation.fd p_law_relation (sp_law_relation K) := by
  refine T.law_relation.F.ok sc_law_relation (fun vs H Q E h => ?_) (fun A outer s H vs Q E hr h => ?_)
  · obtain ⟨_, _, _, _, _, rfl, _⟩ := h
    rfl
  · obtain ⟨r, c, sz, ar, most, rfl, hR, hc, ⟨s1, s4⟩, ⟨a1, a4⟩, ⟨m1, m9⟩, q⟩ := h
    refine ⟨_, pss_cons (ps_set (i := 4) sc_law_relation.nd rfl (.inl rfl) (pe_call (ok_law_some_rows T) (hr.mono (by decide)) (by rfl) T.law_some_rows.g T.law_some_rows.F.kp T.law_some_rows.b .nil pass0 (pa_cons (pv 0) (pa_cons (pv 1) (pa_cons (pv 2) (pa_cons (pv 3) pa_nil))))))
      (pss_cons (ps_if (pt_cmpR op_eq (pe_call (ok_law_taken T) (hr.mono (by decide)) (by rfl) T.law_taken.g T.law_taken.F.kp T.law_taken.b .nil pass0 (pa_cons (pv 0) (pa_cons pe_int pa_nil))) pe_int (nomark _))
        (pss_one (ps_ret (pe_call (ok_law_kept T) hr (by rfl) T.law_kept.g T.law_kept.F.kp T.law_kept.b .nil pass0 (pa_cons (pv 0) (pa_cons (pv 1) (pa_cons (pe_call (ok_law_pick T) (hr.mono (by decide)) (by rfl) T.law_pick.g T.law_pick.F.kp T.law_pick.b .nil pass0 (pa_cons (pv 0) (pa_cons (pe_call (ok_law_named T) (hr.mono (by decide)) (by rfl) T.law_named.g T.law_named.F.kp T.law_named.b .nil pass0 (pa_cons (pv 1) pa_nil)) pa_nil))) (pa_cons (pv 2) pa_nil))))))) pss_nil)
      (pss_one (ps_ret (pe_tup (pa_cons (pv 2) (pa_cons (pv 4) pa_nil)))))), ?_⟩
    refine ⟨.ref r, rfl, .int sz, rfl, .int ar, rfl, .int most, rfl, r, c, sz, ar, most, rfl, hR, hc, ⟨s1, s4⟩, ⟨a1, a4⟩, ⟨m1, m9⟩, fun u rows H1 g1 hR1 hu hne hl R => ?_⟩
    refine ⟨.ref r, rfl, r, c, 2, rfl, hR1, by omega, by omega, fun x H2 hx0 hx1 g2 hR2 => ⟨rfl, _, rfl, ite2 (fun _ => ?_) (fun _ => ?_)⟩⟩
    · refine ⟨.ref r, rfl, .int sz, rfl, .ref r, rfl, .int sz, rfl, sz, rfl, s1, s4, fun p H3 g3 np hO => ?_⟩
      have hR3 := hR2.gr g3
      obtain ⟨vs, ev, dvs⟩ := hO
      have vl : vs.length = 6 := by rw [dvs.1]; rfl
      have npr : p ≠ r := fun z => by
        obtain ⟨xs, e⟩ := hR2.lst
        rw [z, e] at np
        cases np
      refine ⟨r, c, p, vs, rfl, hR3, .inl (.inl ev), npr, by omega, by omega, fun j v H4 ej g4 hR4 => ?_⟩
      obtain ⟨d, e1, dv⟩ := dvs.at' ej
      rw [List.getElem?_map] at e1
      obtain ⟨o, eo, rfl⟩ := Option.map_eq_some_iff.mp e1
      have O := named_ok s1 s4 o (List.mem_of_getElem? eo)
      have g13 : Gx [r] H H4 := ((g1.trans g2).thn g3).trans g4
      exact ⟨.int ar, rfl, r, c, sz, ar, o.1, v, o.2, rfl, hR4, Lv.gx g13 hR4 hc, ⟨s1, s4⟩, ⟨a1, a4⟩, dv.gx g4 hR3.ls, O, fun z rs H5 g5 hR5 dz nz lz Rz => q z rs H5 (g13.trans g5) hR5 dz nz lz Rz⟩
    · refine ⟨.int ar, rfl, u, rfl, by show 2 ≤ sizeLine; decide, fun t nt => ?_⟩
      have gt : Gr H2 (upd H2 t (.tup [.int ar, u])) := Gx.new nt
      exact q _ rows _ ((g1.trans g2).thn gt) (hR2.gr gt) (rel_laid (hu.gx g2 hR1.ls) nt) hne (by omega) R

end K15

set_option Elab.async false
set_option linter.all false
set_option maxRecDepth 100000
set_option maxHeartbeats 4000000
namespace K15
open PySem PySem.Spec PyProof.Rows L2 TK MR
variable {P : Program} {w : World} {K : PySem.W.Frag} {mg : Str → Option Value} {base : Heap}
/-- ints, and tuples of such, so deep -/
def IT : Nat → PyData → Prop
  | _ + 1, .int _ => True
  | n + 1, .tuple ds => ds.length ≤ 1000 ∧ ∀ e ∈ ds, IT n e
  | _, _ => False
theorem IT.cases {n : Nat} {d : PyData} (h : IT (n + 1) d) : (∃ i, d = .int i) ∨ ∃ ds, d = .tuple ds ∧ ds.length ≤ 1000 ∧ ∀ e ∈ ds, IT n e := by
  cases d with
  | int i => exact .inl ⟨i, rfl⟩
  | tuple ds => exact .inr ⟨ds, rfl, h⟩
  | _ => exact h.elim
theorem IT.none {d : PyData} (h : IT 0 d) : False := by cases d <;> exact h
theorem isiTL {H : Hp} {t : Addr} {x : V} {T : Value} {b : Bool} {Q : VK} (hx : TyX K H x T) (ht : H t = some (.tup [.ty "tuple", .ty "list"])) (hk : PySem.W.kitAny K T [.type "tuple", .type "list"] = some b) (q : Q (.bl b) H) : rIsiT K [x, .ref t] H Q :=
  ⟨x, t, _, T, _, b, rfl, ht, .cons (.ty _) (.cons (.ty _) .nil), hx, hk, q⟩
theorem anyT : PySem.W.kitAny K (.type "tuple") [.type "tuple", .type "list"] = some true := kitAny_cons (b := true) (kit_ty (by decide +kernel)) (fun z => by cases z) fun _ => rfl
theorem anyI : PySem.W.kitAny K (.type "int") [.type "tuple", .type "list"] = some false := kitAny_cons (b := false) (kit_ty (by decide +kernel)) (fun _ => kitAny_cons (b := false) (kit_ty (by decide +kernel)) (fun _ => kitAny_nil) fun z => by cases z) fun z => by cases z
theorem tyI {H : Hp} (n : Int) : TyX K H (.int n) (.type "int") := .base (.int n)
/-! _law_alike -/
def sp_law_alike (K : PySem.W.Frag) (n : Nat) : Sp := fun vs H Q _ => ∃ (v u : V) (d : PyData), vs = [v, u] ∧ DT K H v d ∧ DT K H u d ∧ IT n d ∧ ∀ H', Gr H H' → Q (.bl true) H'
theorem ok_law_alike (T : Txt K mg base) : ∀ n, FnOk P w K mg base CX0 (n + 1) T.law_alike.f T.law_alike.fd p_law_alike (sp_law_alike K n)
  | 0 => T.law_alike.F.ok sc_law_alike (fun vs H Q E h => by obtain ⟨_, _, _, _, _, _, h, _⟩ := h; exact h.none.elim) (fun A outer s H vs Q E hr h => by obtain ⟨_, _, _, _, _, _, h, _⟩ := h; exact h.none.elim)
  | n + 1 => by
    refine T.law_alike.F.ok sc_law_alike (fun vs H Q E h => ?_) (fun A outer s H vs Q E hr h => ?_)
    · obtain ⟨_, _, _, rfl, _⟩ := h
      rfl
    · obtain ⟨v, u, d, rfl, hv, hu, hd, q⟩ := h
      refine ⟨_, pss_cons (ps_if (pt_val (pe_callB call_isiT (by rfl) T.b_isinstance boot_isinstance (pa_cons (pv 1) (pa_cons (pe_tup (pa_cons (pe_bltn (v := .ty "tuple") (by rfl) T.b_tuple boot_tuple rfl) (pa_cons (pe_bltn (v := .ty "list") (by rfl) T.b_list boot_list rfl) pa_nil))) pa_nil))))
          (pss_cons (ps_if (PW.pt (pw_or (pt_not (pt_val (pe_callB call_isiT (by rfl) T.b_isinstance boot_isinstance (pa_cons (pv 0) (pa_cons (pe_tup (pa_cons (pe_bltn (v := .ty "tuple") (by rfl) T.b_tuple boot_tuple rfl) (pa_cons (pe_bltn (v := .ty "list") (by rfl) T.b_list boot_list rfl) pa_nil))) pa_nil)))))
            (pw_or1 (pt_cmpR op_ne (pe_callB call_isi (by rfl) T.b_isinstance boot_isinstance (pa_cons (pv 0) (pa_cons (pe_bltn (v := .ty "list") (by rfl) T.b_list boot_list rfl) pa_nil))) (pe_callB call_isi (by rfl) T.b_isinstance boot_isinstance (pa_cons (pv 1) (pa_cons (pe_bltn (v := .ty "list") (by rfl) T.b_list boot_list rfl) pa_nil))) (nomark _))))) (pss_one ps_never) pss_nil)
          (pss_cons (ps_if (pt_cmpR op_ne (pe_callB call_len_seq (by rfl) T.b_len PySem.boot_len (pa_cons (pv 0) pa_nil)) (pe_callB call_len_seq (by rfl) T.b_len PySem.boot_len (pa_cons (pv 1) pa_nil)) (nomark _)) (pss_one ps_never) pss_nil)
          (pss_one (ps_ret (pe_cmpR (op_eqD hr.units)
            (pe_lc (own := [("k", 2)]) (g := gName 2) rfl sc_law_alike.nd (pi_range1 (by rfl) T.b_range (pa_cons (pe_callB call_len_seq (by rfl) T.b_len PySem.boot_len (pa_cons (pv 1) pa_nil)) pa_nil))
              (blkOk_by (N := n_law_alike) (sc := defScope s_law_alike) (by decide +kernel)) (fun _ _ _ _ _ => pg_name (i := 2) sc_law_alike.nd rfl (Or.inl rfl))
              (fun _ _ _ _ _ => pts_one (pt_not (pt_val (pe_call (ok_law_alike T n) hr (by rfl) T.law_alike.g T.law_alike.F.kp T.law_alike.b .nil pass0 (pa_cons (pe_ix (ix_tupK K) (pv 0) (pv 2) (fun _ _ => rfl)) (pa_cons (pe_ix (ix_tupK K) (pv 1) (pv 2) (fun _ _ => rfl)) pa_nil))))))
              (fun _ _ _ _ _ => pv 2))
            (pe_lst pa_nil) (nomark _)))))) pss_nil)
        (pss_cons (ps_if (PW.pt (pw_or (pt_cmpR op_isN (pv 1) pe_non (nomark _)) (pw_or1 (pt_val (pe_callB call_isi (by rfl) T.b_isinstance boot_isinstance (pa_cons (pv 1) (pa_cons (pe_bltn (v := .ty "str") (by rfl) T.b_str boot_str rfl) pa_nil))))))) (pss_one ps_never) pss_nil)
        (pss_one (ps_ret (pe_and (pe_callB call_isi (by rfl) T.b_isinstance boot_isinstance (pa_cons (pv 0) (pa_cons (pe_bltn (v := .ty "int") (by rfl) T.b_int boot_int rfl) pa_nil)))
          (pe_and (pe_cmpR op_eq (pe_callB call_isi (by rfl) T.b_isinstance boot_isinstance (pa_cons (pv 0) (pa_cons (pe_bltn (v := .ty "bool") (by rfl) T.b_bool boot_bool rfl) pa_nil))) (pe_callB call_isi (by rfl) T.b_isinstance boot_isinstance (pa_cons (pv 1) (pa_cons (pe_bltn (v := .ty "bool") (by rfl) T.b_bool boot_bool rfl) pa_nil))) (nomark _))
            (pe_one (pe_cmpR op_eq (pv 0) (pv 1) (nomark _)))))))), ?_⟩
      rcases hd.cases with ⟨i, rfl⟩ | ⟨ds, rfl, hdl, hds⟩
      · -- an int
        cases hv.int_inv
        cases hu.int_inv
        refine ⟨.int i, rfl, by show 2 ≤ sizeLine; decide, fun t nt => ?_⟩
        have g1 : Gr H (upd H t (.tup [.ty "tuple", .ty "list"])) := Gx.new nt
        refine ⟨.int i, t, _, .type "int", _, false, rfl, upd_same, .cons (.ty _) (.cons (.ty _) .nil), tyI i, anyI, false, rfl, iteF ?_⟩
        refine ⟨.int i, rfl, rfl, _, rfl, ?_⟩
        rw [show decide (V.int i = V.non) = false by simp]
        refine iteF ⟨.int i, rfl, .int i, .ty "str", _, _, false, rfl, .ty _, tyI i, kit_ty (by decide +kernel), false, rfl, iteF ?_⟩
        refine ⟨.int i, rfl, .int i, .ty "int", _, _, true, rfl, .ty _, tyI i, kit_ty (by decide +kernel), true, rfl, iteT ?_⟩
        refine ⟨.int i, rfl, .int i, .ty "bool", _, _, false, rfl, .ty _, tyI i, kit_ty (by decide +kernel), .int i, rfl, .int i, .ty "bool", _, _, false, rfl, .ty _, tyI i, kit_ty (by decide +kernel), rfl, _, rfl, ?_⟩
        rw [decide_eq_true rfl]
        refine iteT ⟨.int i, rfl, .int i, rfl, rfl, ?_⟩
        rw [decide_eq_true rfl]
        exact q _ g1
      · -- a tuple
        obtain ⟨a, xs, rfl, hS, hD⟩ := hv.tup_inv
        obtain ⟨b, ys, rfl, hS2, hD2⟩ := hu.tup_inv
        refine ⟨.ref b, rfl, by show 2 ≤ sizeLine; decide, fun t nt => ?_⟩
        have g1 : Gr H (upd H t (.tup [.ty "tuple", .ty "list"])) := Gx.new nt
        refine ⟨.ref b, t, _, .type "tuple", _, true, rfl, upd_same, .cons (.ty _) (.cons (.ty _) .nil), tyT (g1.seqT hS2), anyT, true, rfl, iteT ?_⟩
        generalize upd H t (.tup [.ty "tuple", .ty "list"]) = H1 at *
        refine ⟨.ref a, rfl, by show 2 ≤ sizeLine; decide, fun t2 nt2 => ?_⟩
        have g2 : Gr H1 (upd H1 t2 (.tup [.ty "tuple", .ty "list"])) := Gx.new nt2
        refine ⟨.ref a, t2, _, .type "tuple", _, true, rfl, upd_same, .cons (.ty _) (.cons (.ty _) .nil), tyT ((g1.trans g2).seqT hS), anyT, true, rfl, ?_⟩
        have g02 := g1.trans g2
        generalize upd H1 t2 (.tup [.ty "tuple", .ty "list"]) = H2 at *
        refine iteF ?_
        have k1 := g02.seqT hS
        have k2 := g02.seqT hS2
        refine ⟨.ref a, rfl, .ref a, .ty "list", _, _, false, rfl, .ty _, tyT k1, kit_ty (by decide +kernel), .ref b, rfl, .ref b, .ty "list", _, _, false, rfl, .ty _, tyT k2, kit_ty (by decide +kernel), rfl, _, rfl, ?_⟩
        rw [decide_eq_true rfl]
        refine iteF ?_
        have lx : xs.length = ds.length := hD.1
        have ly : ys.length = ds.length := hD2.1
        refine ⟨.ref a, rfl, a, xs, rfl, .inr k1, .ref b, rfl, b, ys, rfl, .inr k2, rfl, _, rfl, ?_⟩
        rw [decide_eq_true (by rw [lx, ly])]
        refine iteF ?_
        -- each place
        refine ⟨.ref b, rfl, b, ys, rfl, .inr k2, ys.length, rfl, by omega, ?_, fun D nD => ?_⟩
        · omega
        refine lc_range (n := ((ys.length : Nat) : Int).toNat) (fun i H' => Gr H2 H' ∧ H' D = some (.lst [])) ⟨Gx.new nD, upd_same⟩ (fun i H' hi p => ?_) (fun H' p => ?_)
        · obtain ⟨g3, hD3⟩ := p
          have iy : i < ys.length := by omega
          have ix : i < xs.length := by omega
          have idd : i < ds.length := by omega
          have g03 := g02.trans g3
          have ezi : (0 : Int) + (i : Int) = (i : Int) := Int.zero_add _
          refine ⟨rfl, .ref a, rfl, .int (0 + (i : Int)), rfl, a, xs, _, xs[i], rfl, rfl, g03.seqT hS, by rw [ezi]; exact atI_nat (List.getElem?_eq_getElem ix), ?_⟩
          refine ⟨.ref b, rfl, .int (0 + (i : Int)), rfl, b, ys, _, ys[i], rfl, rfl, g03.seqT hS2, by rw [ezi]; exact atI_nat (List.getElem?_eq_getElem iy), ?_⟩
          refine ⟨xs[i], ys[i], ds[i], rfl, (hD.2 i _ _ (List.getElem?_eq_getElem ix) (List.getElem?_eq_getElem idd)).gr g03, (hD2.2 i _ _ (List.getElem?_eq_getElem iy) (List.getElem?_eq_getElem idd)).gr g03, hds _ (List.getElem_mem idd), fun H4 g4 => ⟨true, rfl, iteF ⟨g3.trans g4, g4.lst hD3⟩⟩⟩
        · obtain ⟨g3, hD3⟩ := p
          refine ⟨Nat.zero_le _, fun l nl => ?_⟩
          have gl : Gr H' (upd H' l (.lst [])) := Gx.new nl
          refine ⟨.list [], .list [], .lst (.inl (.inl (gl.lst hD3))) .nil, .lst (.inl (.inl upd_same)) .nil, by decide, by decide, ?_⟩
          exact q _ ((g02.trans g3).trans gl)
theorem it_row {r : List Int} (h : r.length ≤ 1000) : IT 2 (rowD r) := ⟨by rw [List.length_map]; exact h, fun e he => by
  obtain ⟨i, _, rfl⟩ := List.mem_map.mp he
  exact trivial⟩
theorem it_rel {ar : Int} {rows : List (List Int)} (h : rows.length ≤ 1000) (hl : ∀ r ∈ rows, r.length ≤ 1000) : IT 4 (relD ar rows) := ⟨by show 2 ≤ 1000; omega, fun e he => by
  rcases List.mem_cons.mp he with rfl | he
  · exact trivial
  · rw [List.mem_singleton.mp he]
    exact ⟨by rw [List.length_map]; exact h, fun e he => by
      obtain ⟨r, hr, rfl⟩ := List.mem_map.mp he
      exact it_row (hl r hr)⟩⟩

end K15

set_option Elab.async false
set_option linter.all false
set_option maxRecDepth 100000
set_option maxHeartbeats 4000000
namespace EN
open PySem PySem.Spec PyProof.Rows L2
open Sem (wp)
open AutoSeq1 (wpAny_loadPart')
theorem meets_enumerate_newT (l : Addr) (items : Array Value) (n : Nat) (dct : Option Addr) (sl : Array (Option Value)) :
    Meets (Builtin.«enumerate.__new__» ⟨[.type "enumerate", .ref l], []⟩) (fun _ R s => s.heap.get? l = some { cls := .type "tuple", dict := dct, data := .seq items n, slots := sl } ∧
      R (.ok (.ret (.ref (s.heap.push { cls := .type "tuple_iterator", data := .fields #[.ref l, .int 0 0] }).objs.size)))
        { s with heap := (s.heap.push { cls := .type "tuple_iterator", data := .fields #[.ref l, .int 0 0] }).push { cls := .type "enumerate", data := .fields #[.none, .bool false, .ref s.heap.objs.size, rawInt 0, .none, .none] } }) :=
  .of_wp fun prog w A R s h => by
    obtain ⟨hp, g, d, tk, os⟩ := s; obtain ⟨hl, h⟩ := h
    have hsub := sub_enumerate
    have hL : Heap.IsTuple (Shared.heap ⟨hp, g, d, tk, os⟩) l items := ⟨_, hl, rfl, n, rfl⟩
    wp_walk using wpAny_loadPart' hl
    refine wpAny_stack_any fun st => wpAny_pure ?_
    split
    · rename_i c _ _ _ _ _
      cases (c == Value.type "enumerate")
      · wp_walk using wpAny_loadPart' hl, wpAny_pyIter_tuple hL
        exact ⟨_, rfl, h⟩
      · wp_walk using wpAny_loadPart' hl, wpAny_pyIter_tuple hL
        exact ⟨_, rfl, h⟩
    · wp_walk using wpAny_loadPart' hl, wpAny_pyIter_tuple hL
      exact ⟨_, rfl, h⟩
section
variable {prog : Program} {w : World} {A : Around} {E : Value → Shared → Prop} {s : Shared}
theorem call_enumerate_tuple {l : Addr} {items : Array Value} {Q : Value → Shared → Prop} (hL : s.heap.IsTuple l items)
    (h : ∀ h', IsEnum h' (s.heap.objs.size + 1) s.heap.objs.size 0 .none → h'.IsTupleIter s.heap.objs.size l 0 → h'.objs.size = s.heap.objs.size + 2 →
      (∀ b o, s.heap.get? b = some o → h'.get? b = some o) → Q (.ref (s.heap.objs.size + 1)) { s with heap := h' }) :
    wpAny (model prog w) A (call (.type "enumerate") [.ref l]) Q E s := by
  obtain ⟨⟨c, dct, dt, sl⟩, hl, hc, n, hd⟩ := hL
  replace hc : c = .type "tuple" := hc
  replace hd : dt = .seq items n := hd
  subst hc hd
  refine callType_new F.called_enumerate (by decide) (F.typeCall_enumerate_1 _) (F.newCall_enumerate_1 _) (fun obj => F.args_object_init_2 obj _) F.entry_enumerate_new
    (meets_enumerate_newT l items n dct sl) ⟨hl, ?_⟩
  have hz : (s.heap.push { cls := .type "tuple_iterator", data := .fields #[.ref l, .int 0 0] }).objs.size = s.heap.objs.size + 1 := Heap.size_push ..
  show _ ∧ _
  rw [hz]
  have he : IsEnum ((s.heap.push { cls := .type "tuple_iterator", data := .fields #[.ref l, .int 0 0] }).push
      { cls := .type "enumerate", data := .fields #[.none, .bool false, .ref s.heap.objs.size, rawInt 0, .none, .none] }) (s.heap.objs.size + 1) s.heap.objs.size 0 .none := by
    have := Heap.get?_push_size (s.heap.push { cls := .type "tuple_iterator", data := .fields #[.ref l, .int 0 0] })
      (o := { cls := .type "enumerate", data := .fields #[.none, .bool false, .ref s.heap.objs.size, rawInt 0, .none, .none] }) rfl
    rw [hz] at this; exact this
  refine ⟨⟨_, he, rfl⟩, h _ he ⟨_, Heap.get?_push_of_some _ (Heap.get?_push_size _ rfl), rfl, rfl⟩ (by rw [Heap.size_push, hz]) fun b o x => Heap.get?_push_of_some _ (Heap.get?_push_of_some _ x)⟩
end
/-- the tuple at a, each item in a new pair with its number -/
def Itet (K : PySem.W.Frag) (a : Addr) : It :=
  ⟨fun i H => ∃ (xs : List V) (x : V), SqT K H a xs ∧ xs[i]? = some x, fun i H v H' => ∃ T x, v = .ref T ∧ H T = none ∧ H' = upd H T (.tup [.int (i : Nat), x]) ∧ ∀ xs, SqT K H a xs → xs[i]? = some x, fun i H => ∃ xs : List V, SqT K H a xs ∧ xs.length = i⟩
theorem turn_enumT {P : Program} {w : World} {K : PySem.W.Frag} {elts : List Expr} {kk : Nat} {tpos : Pos} (a e it : Addr) :
    Turn P w K (.Tuple elts kk tpos) (Itet K a) [e, it] e (fun i h => (∃ old, IsEnum h e it ((i : Nat) : Int) old) ∧ h.IsTupleIter it a i ∧ e ≠ it ∧ a ≠ it ∧ e ≠ a) where
  mem := by simp
  obj := fun i h st b hb => by
    obtain ⟨⟨old, he⟩, ⟨o, ho, hc, hd⟩, _⟩ := st
    have e' : b = e ∨ b = it := by simpa using hb
    rcases e' with z | z
    · rw [z]; exact ⟨_, he, fun v q => nomatch q⟩
    · rw [z]; exact ⟨o, ho, fun v q => by rw [hd] at q; cases q⟩
  keep := fun i h h' st k => let ⟨⟨old, he⟩, hi, hne⟩ := st; ⟨⟨old, k e (by simp) _ he⟩, hi.at fun o q => k it (by simp) o q, hne⟩
  item := by
    intro X hP hw hK hc i pins s σ H E I hf st hg
    subst hP hw hK
    obtain ⟨⟨old, he⟩, hit, hne, hai, hea⟩ := st
    obtain ⟨xs, x, hq, hx⟩ := hg
    obtain ⟨its, rv, p, hz⟩ := I.tuple hq
    have p' : s.heap.IsTuple a its.toArray := p
    obtain ⟨u, hu, ru⟩ := rv.get hx
    have hel : e < s.heap.objs.size := Heap.lt_size he
    have hil : it < s.heap.objs.size := by obtain ⟨_, q, _⟩ := hit; exact Heap.lt_size q
    have hlt : i < its.toArray.size := by
      have := (List.getElem?_eq_some_iff.mp hu).1
      simpa using this
    refine wpAny_pyNext_enum_itemD (Draws.tuple (prog := X.prog) (w := X.w) (A := X.A.in1) (show X.A.in1.handled = none from I.ok.hd hc) it a hai its.toArray) he ⟨hit, p'⟩ hlt hne (by simp [hne, hea]) fun y h' tk hP ho hst' hT hsz hk => ?_
    have ey : y = u := by
      have e1 : its.toArray[i]? = some u := by simpa using hu
      rw [e1] at hP
      exact (Option.some.inj hP).symm
    subst ey
    refine ⟨_, rfl, wpAny_letOwnedTupleGo_enum (s := { s with heap := h', toks := tk + 1 }) ho fun h'' he' sb => ?_⟩
    have hT2 : h''.get? s.heap.objs.size = some { cls := .type "tuple", data := .seq #[.int i tk, y] } := (sb.2 _ (Nat.ne_of_gt hel)).trans hT
    have new : ObjOk X.prog X.w (upd H s.heap.objs.size (.tup [.int (i : Nat), x])) h'' s.heap.objs.size (.tup [.int (i : Nat), x]) :=
      ⟨by show 2 ≤ sizeLine; decide, [.int i tk, y], .cons ⟨_, rfl⟩ (.cons ru .nil), ⟨_, hT2, rfl, _, rfl⟩⟩
    have I1 : Inv X pins σ (upd H s.heap.objs.size (.tup [.int (i : Nat), x])) { s with heap := h'', toks := tk + 1 } :=
      I.turnedNew (ch := [e, it]) (fun b ob hb q => (sb.2 b (fun z => hb (by simp [z]))).trans (hk b ob (fun z => hb (by simp [z])) (fun z => hb (by simp [z])) q)) hf (Nat.le_refl _) new
    refine ⟨.ref s.heap.objs.size, _, I1, rfl, ⟨_, x, rfl, I.hok.fresh (Nat.le_refl _), rfl, fun ys hy => by rw [I.tuple_inj hy hq]; exact hx⟩, ⟨⟨y, ?_⟩, hst'.1.at fun o q => (sb.2 it (Ne.symm hne)).trans q, hne, hai, hea⟩, fun b hb => ?_⟩
    · have e1 : ((i + 1 : Nat) : Int) = (i : Int) + 1 := by omega
      rw [e1]; exact he'
    · have hb' : b < s.heap.objs.size := by
        have e' : b = e ∨ b = it := by simpa using hb
        rcases e' with z | z
        · rw [z]; exact hel
        · rw [z]; exact hil
      rw [upd_ne (Nat.ne_of_lt hb')]
      exact (hf b hb).1
  done := by
    intro X hP hw hK hc i pins s σ H E I hf st hg
    subst hP hw hK
    obtain ⟨⟨old, he⟩, hit, hne, hai, hea⟩ := st
    obtain ⟨xs, hq, hx⟩ := hg
    obtain ⟨its, rv, p, hz⟩ := I.tuple hq
    have p' : s.heap.IsTuple a its.toArray := p
    obtain ⟨f0, f1, f2, f3, f4, f5⟩ := hf it (by simp)
    have hl := rv.length
    have hi : i = its.toArray.size := by simp; omega
    subst hi
    exact wpAny_pyNext_enum_endD (Draws.tuple (prog := X.prog) (w := X.w) (A := X.A.in1) (show X.A.in1.handled = none from I.ok.hd hc) it a hai its.toArray) he ⟨hit, p'⟩ fun h' eb => ⟨rfl, I.turned (t' := s.toks) (fun b o hb q => eb b o hb q) f0 f1 f3 f4 f5⟩
  self := fun A i s Q E st h => let ⟨⟨_, he⟩, _⟩ := st; wpAny_pyIter_enum he h
def iEnumT (K : PySem.W.Frag) (ta : TA) : TI := fun σ H R => ta σ H fun vs H1 => ∃ a xs, vs = [.ref a] ∧ SqT K H1 a xs ∧ R (Itet K a) H1
theorem pi_enumT (K : PySem.W.Frag) {X : Cx} {e : Expr} {ta : TA} {p pos tpos : Pos} {elts : List Expr} {kk : Nat} (hg : Gl X "enumerate") (hm : X.mg "enumerate" = none) (ha : PA X [e] ta) (hs : starEach [e] X.env = [(false, eval e X.env)] := by rfl) (hK : X.K = K := by rfl) :
    PI X (.Tuple elts kk tpos) (.Call (.Name "enumerate" p) [e] [] pos) (iEnumT K ta) := by
  subst hK
  refine ⟨fun pins s σ H R I h => ?_⟩
  refine Call_ (ld_blt I hg hm boot_enumerate (PyProof.Rows.callWith_type1 (thn (ha.run pos pins s σ H _ I h) fun us s1 ⟨vs, H1, I1, r1, q1⟩ => ?_) hs rfl))
  obtain ⟨a, xs, ex, hq, q⟩ := q1
  subst ex
  cases r1 with
  | cons r rr =>
    cases rr
    cases r
    obtain ⟨its, rv, p', hz⟩ := I1.tuple hq
    have p'' : s1.heap.IsTuple a its.toArray := p'
    have hal : a < s1.heap.objs.size := by obtain ⟨_, q, _⟩ := p''; exact Heap.lt_size q
    refine call_enumerate_tuple p'' fun h' he hit hsz hk => wpAny_pyIter_enum he ?_
    have I2 : Inv X pins σ H1 { s1 with heap := h' } := I1.kept (t' := s1.toks) hk
    refine ⟨s1.heap.objs.size + 1, [s1.heap.objs.size + 1, s1.heap.objs.size], _, _, H1, rfl, I2, turn_enumT a (s1.heap.objs.size + 1) s1.heap.objs.size, ⟨⟨.none, he⟩, hit, Nat.succ_ne_self _, Nat.ne_of_lt hal, Nat.ne_of_gt (Nat.lt_succ_of_lt hal)⟩, fun b hb => ?_, q⟩
    have e' : b = s1.heap.objs.size + 1 ∨ b = s1.heap.objs.size := by simpa using hb
    have hle : s1.heap.objs.size ≤ b := by
      rcases e' with z | z
      · rw [z]; exact Nat.le_add_right _ _
      · rw [z]; exact Nat.le_refl _
    exact I1.fpOk hle (I1.hok.fresh hle)
theorem walk_enumT {K : PySem.W.Frag} {a : Addr} {xs : List V} : Walk (Itet K a) xs.length (fun H => SqT K H a xs) (fun i H v H' => ∃ T x, v = .ref T ∧ H T = none ∧ H' = upd H T (.tup [.int (i : Nat), x]) ∧ xs[i]? = some x) :=
  ⟨fun i _ hi q => ⟨xs, xs[i], q, by simp [hi]⟩, fun _ q => ⟨xs, q, rfl⟩, fun i H v H' _ q y => by
    obtain ⟨T, x, e1, e2, e3, e4⟩ := y
    exact ⟨T, x, e1, e2, e3, e4 xs q⟩⟩
end EN

set_option Elab.async false
set_option linter.all false
set_option maxRecDepth 100000
set_option maxHeartbeats 4000000
namespace K15
open PySem PySem.Spec PyProof.Rows L2 TK MR
variable {P : Program} {w : World} {K : PySem.W.Frag} {mg : Str → Option Value} {base : Heap}
abbrev Rels := List (Nat × List (List Int))
def relsD (rels : Rels) : List PyData := rels.map fun r => relD (r.1 : Int) r.2
def tplD (sz : Nat) (rels : Rels) : PyData := .tuple [.int sz, .tuple (relsD rels)]
structure RelsOk (sz : Nat) (rels : Rels) : Prop where
  few : rels.length ≤ 6
  ok : ∀ r ∈ rels, RelOk sz (r.1 : Int) r.2 ∧ r.2.length ≤ 9
theorem tpl_inv {H : Hp} {v : V} {sz : Nat} {rels : Rels} (h : DT K H v (tplD sz rels)) : ∃ a b xs, v = .ref a ∧ H a = some (.tup [.int sz, .ref b]) ∧ H b = some (.tup xs) ∧ DTs K H xs (relsD rels) := by
  obtain ⟨a, xs, rfl, h1, h2⟩ := h.tup_invS
  obtain ⟨v1, r1, rfl, h3, h4⟩ := h2.cons_inv
  obtain ⟨v2, r2, rfl, h5, h6⟩ := h4.cons_inv
  obtain ⟨b, ys, rfl, h7, h8⟩ := h5.tup_invS
  rw [h3.int_inv, h6.nil_inv] at h1
  exact ⟨a, b, ys, rfl, h1, h7, h8⟩
theorem tpl0 {σ : L2.St} {H : Hp} {i : Nat} {v : V} {sz : Nat} {rels : Rels} {Q : VK} (hσ : σ[i]? = some (some v)) (h : DT K H v (tplD sz rels)) (q : Q (.int sz) H) : tOp (rIxT K) (tVar i) (tC (.int 0)) σ H Q := by
  obtain ⟨a, b, xs, rfl, h1, h2, h3⟩ := tpl_inv h
  exact ⟨.ref a, hσ, a, _, 0, .int sz, rfl, rfl, .inl (.inl h1), atI_nat (j := 0) rfl, q⟩
theorem tpl1 {σ : L2.St} {H : Hp} {i : Nat} {v : V} {sz : Nat} {rels : Rels} {Q : VK} (hσ : σ[i]? = some (some v)) (h : DT K H v (tplD sz rels)) (q : ∀ b xs, H b = some (.tup xs) → DTs K H xs (relsD rels) → Q (.ref b) H) : tOp (rIxT K) (tVar i) (tC (.int 1)) σ H Q := by
  obtain ⟨a, b, xs, rfl, h1, h2, h3⟩ := tpl_inv h
  exact ⟨.ref a, hσ, a, _, 1, .ref b, rfl, rfl, .inl (.inl h1), atI_nat (j := 1) rfl, q b xs h2 h3⟩
theorem rels_at {H : Hp} {xs : List V} {rels : Rels} (h : DTs K H xs (relsD rels)) {i : Nat} {x : V} (e : xs[i]? = some x) : ∃ r, rels[i]? = some r ∧ DT K H x (relD (r.1 : Int) r.2) := by
  obtain ⟨d, e1, dv⟩ := h.at' e
  unfold relsD at e1
  rw [List.getElem?_map] at e1
  obtain ⟨r, er, rfl⟩ := Option.map_eq_some_iff.mp e1
  exact ⟨r, er, dv⟩
theorem rels_len {H : Hp} {xs : List V} {rels : Rels} (h : DTs K H xs (relsD rels)) : xs.length = rels.length := by
  rw [h.1]
  unfold relsD
  rw [List.length_map]
/-! check_template -/
def sp_check_template (T : Txt K mg base) : Sp := fun vs H Q _ => ∃ (sz : Nat) (v : V) (rels : Rels), vs = [v] ∧ (1 ≤ sz ∧ sz ≤ 4) ∧ DT K H v (tplD sz rels) ∧ RelsOk sz rels ∧ TT T.tabs H ∧ ∀ H', Gr H H' → Q .non H'
theorem ok_check_template (T : Txt K mg base) : FnOk P w K mg base CX0 8 T.check_template.f T.check_template.fd p_check_template (sp_check_template T) := by
  refine T.check_template.F.ok sc_check_template (fun vs H Q E h => ?_) (fun A outer s H vs Q E hr h => ?_)
  · obtain ⟨_, _, _, rfl, _⟩ := h
    rfl
  · obtain ⟨sz, v, rels, rfl, hs, hv, R, hT, q⟩ := h
    obtain ⟨tp, hMR⟩ := T.c_MOST_RELATIONS
    refine ⟨_, pss_cons (ps_if (PW.pt (pw_or (pt_not (pt_val (pe_call (ok_is_tuple T) (hr.mono (by decide)) (by rfl) T.is_tuple.g T.is_tuple.F.kp T.is_tuple.b .nil pass0 (pa_cons (pv 0) (pa_cons (pe_int) (pa_cons (pe_int) pa_nil)))))) (pw_or1 (pt_not (pt_val (pe_call (ok_is_integer T) (hr.mono (by decide)) (by rfl) T.is_integer.g T.is_integer.F.kp T.is_integer.b .nil pass0 (pa_cons (pe_ix (ix_tupK K) (pv 0) pe_int (fun _ _ => rfl)) (pa_cons (pe_int) (pa_cons (pe_int) pa_nil))))))))) (pss_one ps_never) pss_nil)
      (pss_cons (ps_asg (pv 0) (pg_tup (by rfl) (pgs_cons (pg_name (i := 1) sc_check_template.nd rfl (by first | exact .inl rfl | exact .inr rfl)) (pgs_cons (pg_name (i := 2) sc_check_template.nd rfl (by first | exact .inl rfl | exact .inr rfl)) pgs_nil))))
      (pss_cons (ps_if (pt_not (pt_val (pe_call (ok_is_tuple T) (hr.mono (by decide)) (by rfl) T.is_tuple.g T.is_tuple.F.kp T.is_tuple.b .nil pass0 (pa_cons (pv 2) (pa_cons (pe_int) (pa_cons (pe_glob (v := .int 6) rfl hMR ⟨_, rfl⟩) pa_nil)))))) (pss_one ps_never) pss_nil)
      (pss_one (ps_for PassesOwn.never rfl (EN.pi_enumT K (by rfl) T.b_enumerate (pa_cons (pv 2) pa_nil)) (pg_tup (by rfl) (pgs_cons (pg_name (i := 3) sc_check_template.nd rfl (by first | exact .inl rfl | exact .inr rfl)) (pgs_cons (pg_name (i := 4) sc_check_template.nd rfl (by first | exact .inl rfl | exact .inr rfl)) pgs_nil)))
        (pss_one (ps_if (pt_not (pt_val (pe_call (ok_is_relation T) hr (by rfl) T.is_relation.g T.is_relation.F.kp T.is_relation.b .nil pass0 (pa_cons (pv 1) (pa_cons (pv 4) pa_nil))))) (pss_one ps_never) pss_nil)))))), ?_⟩
    refine ⟨v, rfl, v, _, 2, 2, rfl, hv, _, rfl, ?_⟩
    rw [show decide ((2 : Int) ≤ (([PyData.int sz, PyData.tuple (relsD rels)].length : Nat) : Int) ∧ (([PyData.int sz, PyData.tuple (relsD rels)].length : Nat) : Int) ≤ 2) = true from decide_eq_true (show (2 : Int) ≤ 2 ∧ (2 : Int) ≤ 2 by omega)]
    refine iteF (tpl0 rfl hv ⟨sz, 1, 4, rfl, _, rfl, ?_⟩)
    rw [decide_eq_true (by omega)]
    refine iteF ?_
    obtain ⟨a, b, xs, rfl, h1, h2, h3⟩ := tpl_inv hv
    have xl := rels_len h3
    refine ⟨.ref a, rfl, a, _, rfl, .inl (.inl h1), rfl, .int sz, [.ref b], rfl, .ref b, [], rfl, rfl, ?_⟩
    refine ⟨.ref b, rfl, .ref b, _, 0, 6, rfl, .mk h2 h3, _, rfl, ?_⟩
    rw [decide_eq_true (by
      have := R.few
      unfold relsD
      rw [List.length_map]
      omega)]
    refine iteF ⟨.ref b, rfl, b, xs, rfl, .inl (.inl h2), ?_⟩
    refine for_it EN.walk_enumT (fun i σ H' => ∃ y3 y4, σ = [some (.ref a), some (.int sz), some (.ref b), y3, y4] ∧ Gr H H') ⟨none, none, rfl, Gx.refl⟩ (fun i σ H' _ hp => by
      obtain ⟨_, _, _, g⟩ := hp
      exact .inl (.inl (Gx.tupS g .nil h2))) (fun i x σ Hx H' hi hp hy => ?_) (fun σ H' hp => ?_)
    · obtain ⟨t, y, rfl, nt, rfl, ey⟩ := hy
      obtain ⟨y3, y4, rfl, g⟩ := hp
      have gt : Gr Hx (upd Hx t (.tup [.int i, y])) := Gx.new nt
      have ht : (upd Hx t (.tup [.int i, y])) t = some (.tup [.int i, y]) := upd_same
      obtain ⟨r, er, dr⟩ := rels_at h3 ey
      have okr := (R.ok r (List.mem_of_getElem? er)).1
      have g2 := g.trans gt
      generalize upd Hx t (.tup [.int i, y]) = H2 at *
      refine ⟨t, _, rfl, .inl (.inl ht), rfl, .int i, [y], rfl, y, [], rfl, rfl, ?_⟩
      exact ⟨.int sz, rfl, y, rfl, sz, r.1, y, r.2, rfl, dr.gr g2, g2.tt hT, okr, fun H3 g3 => ⟨_, rfl, iteF ⟨_, _, rfl, g2.trans g3⟩⟩⟩
    · obtain ⟨y3, y4, rfl, g⟩ := hp
      exact q H' g

end K15

set_option Elab.async false
set_option linter.all false
set_option maxRecDepth 100000
set_option maxHeartbeats 4000000
namespace K15
open PySem PySem.Spec PyProof.Rows L2 TK MR
variable {P : Program} {w : World} {K : PySem.W.Frag} {mg : Str → Option Value} {base : Heap}
theorem tup_ne {H : Hp} {v : V} {ds : List PyData} (h : DT K H v (.tuple ds)) : v ≠ .non := fun z => by
  obtain ⟨a, xs, e, _⟩ := h.tup_invS
  rw [z] at e
  cases e
/-! _law_template -/
/-- an operation that is named, or None -/
def CloV (K : PySem.W.Frag) (sz : Nat) (H : Hp) (v : V) : Prop := v = .non ∨ ∃ k tab, DT K H v (opD ((k : Nat) : Int) tab) ∧ OpOk sz k tab
theorem CloV.gx {sz : Nat} {S : List Addr} {H H' : Hp} {v : V} (h : CloV K sz H v) (g : Gx S H H') (hS : LS S H) : CloV K sz H' v := h.imp id fun ⟨k, tab, d, O⟩ => ⟨k, tab, d.gx g hS, O⟩
def sp_law_template (K : PySem.W.Frag) : Sp := fun vs H Q _ => ∃ (r c : Addr) (sz many ar most : Nat), vs = [.ref r, .int sz, .int many, .int ar, .int most] ∧ RowSt K H r c ∧ Lv K H c ∧ (1 ≤ sz ∧ sz ≤ 4) ∧ (1 ≤ many ∧ many ≤ 6) ∧ (1 ≤ ar ∧ ar ≤ 4) ∧ (1 ≤ most ∧ most ≤ 9) ∧
  ∀ z (rels : Rels) H', Gx [r] H H' → RowSt K H' r c → DT K H' z (tplD sz rels) → RelsOk sz rels → Q z H'
theorem ok_law_template (T : Txt K mg base) : FnOk P w K mg base CX0 6 T.law_template.f T.law_template.fd p_law_template (sp_law_template K) := by
  refine T.law_template.F.ok sc_law_template (fun vs H Q E h => ?_) (fun A outer s H vs Q E hr h => ?_)
  · obtain ⟨_, _, _, _, _, _, rfl, _⟩ := h
    rfl
  · obtain ⟨r, c, sz, many, ar, most, rfl, hR, hc, hs, hm, har, hmo, q⟩ := h
    refine ⟨_, pss_cons (ps_set (i := 5) sc_law_template.nd rfl (by first | exact .inl rfl | exact .inr rfl) (pe_lst pa_nil))
      (pss_cons (ps_set (i := 6) sc_law_template.nd rfl (by first | exact .inl rfl | exact .inr rfl) (pe_call (ok_law_pick T) (hr.mono (by decide)) (by rfl) T.law_pick.g T.law_pick.F.kp T.law_pick.b .nil pass0 (pa_cons (pv 0) (pa_cons (pe_op op_cat (pe_call (ok_law_named T) (hr.mono (by decide)) (by rfl) T.law_named.g T.law_named.F.kp T.law_named.b .nil pass0 (pa_cons (pv 1) pa_nil)) (pe_lst (pa_cons pe_non pa_nil))) pa_nil))))
      (pss_cons (ps_for PassesOwn.never rfl (pi_range1 (by rfl) T.b_range (pa_cons (pe_op op_add pe_int (pe_call (ok_law_taken T) (hr.mono (by decide)) (by rfl) T.law_taken.g T.law_taken.F.kp T.law_taken.b .nil pass0 (pa_cons (pv 0) (pa_cons (pv 2) pa_nil)))) pa_nil)) (pg_name (i := 7) sc_law_template.nd rfl (by first | exact .inl rfl | exact .inr rfl))
        (pss_cons (ps_set (i := 8) sc_law_template.nd rfl (by first | exact .inl rfl | exact .inr rfl) (pe_op op_add pe_int (pe_call (ok_law_taken T) (hr.mono (by decide)) (by rfl) T.law_taken.g T.law_taken.F.kp T.law_taken.b .nil pass0 (pa_cons (pv 0) (pa_cons (pv 3) pa_nil)))))
        (pss_one (ps_if (pt_cmpR op_notN (pv 6) pe_non (nomark _))
          (pss_one (ps_expr (pe_bm PySem.F.plainAttrs_list PySem.F.slot_list_append PySem.F.type_list_append mt_append (pv 5) (pa_cons (pe_call (ok_law_kept T) (hr.mono (by decide)) (by rfl) T.law_kept.g T.law_kept.F.kp T.law_kept.b .nil pass0 (pa_cons (pv 0) (pa_cons (pv 1) (pa_cons (pv 6) (pa_cons (pv 8) pa_nil))))) pa_nil))))
          (pss_one (ps_expr (pe_bm PySem.F.plainAttrs_list PySem.F.slot_list_append PySem.F.type_list_append mt_append (pv 5) (pa_cons (pe_call (ok_law_relation T) hr (by rfl) T.law_relation.g T.law_relation.F.kp T.law_relation.b .nil pass0 (pa_cons (pv 0) (pa_cons (pv 1) (pa_cons (pv 8) (pa_cons (pv 4) pa_nil))))) pa_nil))))))))
      (pss_one (ps_ret (pe_tup (pa_cons (pv 1) (pa_cons (pe_callTy (call_tuple_ofK K) (by rfl) T.b_tuple boot_tuple (pa_cons (pv 5) pa_nil)) pa_nil))))))), ?_⟩
    refine ⟨Nat.zero_le _, fun pf npf => ?_⟩
    have g1 : Gr H (upd H pf (.lst [])) := Gx.new npf
    have hf1 : (upd H pf (.lst [])) pf = some (.lst []) := upd_same
    have hR1 := hR.gr g1
    have npr : pf ≠ r := fun z => by
      obtain ⟨xs, e⟩ := hR.lst
      rw [← z, npf] at e
      cases e
    generalize upd H pf (.lst []) = H1 at *
    refine ⟨.ref r, rfl, .int sz, rfl, sz, rfl, hs.1, hs.2, fun p H2 g2 np hLO => ?_⟩
    obtain ⟨os, hp, hos⟩ := hLO
    refine ⟨by show 1 ≤ sizeLine; decide, fun p1 np1 => ?_⟩
    have g3 : Gr H2 (upd H2 p1 (.lst [.non])) := Gx.new np1
    have hp1 : (upd H2 p1 (.lst [.non])) p1 = some (.lst [.non]) := upd_same
    have hp3 := g3.lst hp
    have ol : os.length = 6 := by rw [hos.1, List.length_map]; rfl
    refine ⟨p, p1, os, [.non], rfl, rfl, hp3, hp1, by rw [ol]; decide, fun p2 np2 => ?_⟩
    have g4 : Gr (upd H2 p1 (.lst [.non])) (upd (upd H2 p1 (.lst [.non])) p2 (.lst (os ++ [.non]))) := Gx.new np2
    have hp2 : (upd (upd H2 p1 (.lst [.non])) p2 (.lst (os ++ [.non]))) p2 = some (.lst (os ++ [.non])) := upd_same
    have hos4 := hos.gr (g3.trans g4)
    have g14 : Gr H1 (upd (upd H2 p1 (.lst [.non])) p2 (.lst (os ++ [.non]))) := g2.trans (g3.trans g4)
    have np20 : H1 p2 = none := (g2.trans g3).free np2
    generalize upd (upd H2 p1 (.lst [.non])) p2 (.lst (os ++ [.non])) = H4 at *
    have hR4 := hR1.gr g14
    have np2r : p2 ≠ r := fun z => by
      obtain ⟨xs, e⟩ := hR1.lst
      rw [← z, np20] at e
      cases e
    refine ⟨r, c, p2, os ++ [.non], rfl, hR4, .inl (.inl hp2), np2r, by rw [List.length_append]; simp, by rw [List.length_append, ol]; decide, fun j v6 H5 ej g5 hR5 => ?_⟩
    have clo : CloV K sz H5 v6 := by
      by_cases hj : j < os.length
      · rw [List.getElem?_append_left hj] at ej
        obtain ⟨d, ed, dv⟩ := hos4.at' ej
        rw [List.getElem?_map] at ed
        obtain ⟨⟨k, tab⟩, eo, rfl⟩ := Option.map_eq_some_iff.mp ed
        exact .inr ⟨k, tab, dv.gx g5 hR4.ls, named_ok hs.1 hs.2 _ (List.mem_of_getElem? eo)⟩
      · rw [List.getElem?_append_right (by omega)] at ej
        exact .inl (List.mem_singleton.mp (List.mem_of_getElem? ej))
    have g15 : Gx [r] H1 H5 := g14.thn g5
    have hf5 : H5 pf = some (.lst []) := g15.at (fun z => npr (List.mem_singleton.mp z)) hf1 fun _ z => by cases z
    have g05 : Gx [r] H H5 := g1.thn g15
    clear hos hos4 ej hp hp1 hp2 hp3 np1 np2 np g2 g3 g4 g5 g14 hR4 hR1 hf1
    refine ⟨.ref r, rfl, .int many, rfl, r, c, many, rfl, hR5, by omega, by omega, fun x H6 hx0 hx1 g6 hR6 => ⟨_, _, rfl, rfl, 1 + x, rfl, by omega, by omega, ?_⟩⟩
    have hf6 : H6 pf = some (.lst []) := g6.at (fun z => npr (List.mem_singleton.mp z)) hf5 fun _ z => by cases z
    refine for_range (n := (1 + x).toNat) (fun i σ H' => ∃ y7 y8 ws rels, σ = [some (.ref r), some (.int sz), some (.int many), some (.int ar), some (.int most), some (.ref pf), some v6, y7, y8] ∧ Gx [r] H H' ∧ RowSt K H' r c ∧ CloV K sz H' v6 ∧ H' pf = some (.lst ws) ∧ DTs K H' ws (relsD rels) ∧ rels.length = i ∧ ∀ r ∈ rels, RelOk sz (r.1 : Int) r.2 ∧ r.2.length ≤ 9)
      ⟨none, none, [], [], rfl, g05.trans g6, hR6, clo.gx g6 hR5.ls, hf6, .nil, rfl, fun r hr => by simp at hr⟩ (fun i σ H' hi hp => ?_) (fun σ H' hp => ?_)
    · obtain ⟨y7, y8, ws, rels, rfl, g7, hR7, clo7, hf7, hw7, rl, rok⟩ := hp
      have wl := rels_len hw7
      refine ⟨.ref r, rfl, .int ar, rfl, r, c, ar, rfl, hR7, by omega, by omega, fun y H8 hy0 hy1 g8 hR8 => ⟨_, _, rfl, rfl, ?_⟩⟩
      obtain ⟨br, ebr⟩ : ∃ n : Nat, 1 + y = (n : Int) := ⟨(1 + y).toNat, by omega⟩
      dsimp only
      rw [ebr]
      have hbr : 1 ≤ br ∧ br ≤ 4 := by omega
      have hf8 : H8 pf = some (.lst ws) := g8.at (fun z => npr (List.mem_singleton.mp z)) hf7 fun _ z => by cases z
      have clo8 := clo7.gx g8 hR7.ls
      have hw8 := hw7.gx g8 hR7.ls
      have g08 := g7.trans g8
      have hc8 := Lv.gx g08 hR8 hc
      have fin : ∀ z (rs : List (List Int)) H9, Gx [r] H8 H9 → RowSt K H9 r c → DT K H9 z (relD br rs) → rs.length ≤ 9 → RelOk sz br rs → H9 pf = some (.lst ws) ∧ ws.length < sizeLine ∧ ∃ y7' y8' ws' rels', [some (.ref r), some (.int sz), some (.int many), some (.int ar), some (.int most), some (.ref pf), some v6, some (.int (0 + (i : Int))), some (.int br)] = [some (.ref r), some (.int sz), some (.int many), some (.int ar), some (.int most), some (.ref pf), some v6, y7', y8'] ∧ Gx [r] H (upd H9 pf (.lst (ws ++ [z]))) ∧ RowSt K (upd H9 pf (.lst (ws ++ [z]))) r c ∧ CloV K sz (upd H9 pf (.lst (ws ++ [z]))) v6 ∧ (upd H9 pf (.lst (ws ++ [z]))) pf = some (.lst ws') ∧ DTs K (upd H9 pf (.lst (ws ++ [z]))) ws' (relsD rels') ∧ rels'.length = i + 1 ∧ ∀ r ∈ rels', RelOk sz (r.1 : Int) r.2 ∧ r.2.length ≤ 9 := fun z rs H9 g9 hR9 dz lz Rz => by
        have hf9 : H9 pf = some (.lst ws) := g9.at (fun z => npr (List.mem_singleton.mp z)) hf8 fun _ z => by cases z
        have gw : Gx [pf] H9 (upd H9 pf (.lst (ws ++ [z]))) := Gx.refl.wrS (List.mem_singleton.mpr rfl)
        refine ⟨hf9, small1000 (by omega), _, _, ws ++ [z], rels ++ [(br, rs)], rfl, (g08.trans g9).wr npf, hR9.wr (Ne.symm npr) (live_ne hc npf), (clo8.gx g9 hR8.ls).gx gw (.one hf9), upd_same, ?_, by rw [List.length_append, rl]; rfl, fun r' hr' => ?_⟩
        · unfold relsD at hw8 ⊢
          rw [List.map_append]
          exact ((hw8.gx g9 hR8.ls).wr hf9).app (.one (DT.wr hf9 dz))
        · rcases List.mem_append.mp hr' with h | h
          · exact rok r' h
          · rw [List.mem_singleton.mp h]
            exact ⟨Rz, lz⟩
      rcases clo8 with rfl | ⟨k, tab, dv6, OO⟩
      · refine ⟨.non, rfl, rfl, _, rfl, ?_⟩
        rw [show (!decide (V.non = V.non)) = false by simp]
        refine iteF ⟨.ref pf, rfl, .inl ⟨rfl, _, .inl (.inl hf8)⟩, .ref r, rfl, .int sz, rfl, .int br, rfl, .int most, rfl, r, c, sz, br, most, rfl, hR8, hc8, hs, hbr, hmo, fun z rs H9 g9 hR9 dz nz lz Rz => ?_⟩
        obtain ⟨f1, f2, f3⟩ := fin z rs H9 g9 hR9 dz lz Rz
        exact ⟨pf, ws, z, rfl, rfl, f1, f2, f3⟩
      · refine ⟨v6, rfl, rfl, _, rfl, ?_⟩
        rw [show (!decide (v6 = V.non)) = true by simp [tup_ne dv6]]
        refine iteT ⟨.ref pf, rfl, .inl ⟨rfl, _, .inl (.inl hf8)⟩, .ref r, rfl, .int sz, rfl, v6, rfl, .int br, rfl, r, c, sz, br, k, v6, tab, rfl, hR8, hc8, hs, hbr, dv6, OO, fun z rs H9 g9 hR9 dz nz lz Rz => ?_⟩
        obtain ⟨f1, f2, f3⟩ := fin z rs H9 g9 hR9 dz lz Rz
        exact ⟨pf, ws, z, rfl, rfl, f1, f2, f3⟩
    · obtain ⟨y7, y8, ws, rels, rfl, g7, hR7, clo7, hf7, hw7, rl, rok⟩ := hp
      refine ⟨.int sz, rfl, .ref pf, rfl, pf, ws, rfl, .inl ⟨.inl (.inl hf7), fun l nl => ⟨by show 2 ≤ sizeLine; decide, fun t nt => ?_⟩⟩⟩
      have gl : Gr H' (upd H' l (.tup ws)) := Gx.new nl
      have gt : Gr (upd H' l (.tup ws)) (upd (upd H' l (.tup ws)) t (.tup [.int sz, .ref l])) := Gx.new nt
      have g9 := gl.trans gt
      refine q _ rels _ (g7.thn g9) (hR7.gr g9) (.mk upd_same (.cons (.int sz) (.one (.mk (Gx.tupS gt .nil upd_same) (hw7.gr g9))))) ⟨by omega, rok⟩

end K15

set_option Elab.async false
set_option linter.all false
set_option maxRecDepth 100000
set_option maxHeartbeats 4000000
namespace K15
open PySem PySem.Spec PyProof.Rows L2 TK MR
variable {P : Program} {w : World} {K : PySem.W.Frag} {mg : Str → Option Value} {base : Heap}
/-! instances -/
abbrev Con := Nat × List Nat
abbrev natL (ps : List Nat) : List Int := ps.map fun (p : Nat) => (p : Int)
abbrev conD (c : Con) : PyData := .tuple [.int c.1, rowD (natL c.2)]
abbrev insD (n : Nat) (cs : List Con) : PyData := .tuple [.int n, .tuple (cs.map conD)]
structure ConOk (rels : Rels) (n : Nat) (c : Con) : Prop where
  ix : c.1 < rels.length
  len : c.2.length = (rels.getD c.1 (0, [])).1
  sc : ∀ p ∈ c.2, p < n
structure InsOk (rels : Rels) (n : Nat) (cs : List Con) : Prop where
  n16 : n ≤ 16
  few : cs.length ≤ 200
  ok : ∀ c ∈ cs, ConOk rels n c
theorem pair_inv {H : Hp} {v : V} {a : Int} {ds : List PyData} (h : DT K H v (.tuple [.int a, .tuple ds])) : ∃ p q xs, v = .ref p ∧ H p = some (.tup [.int a, .ref q]) ∧ H q = some (.tup xs) ∧ DTs K H xs ds := by
  obtain ⟨a, xs, rfl, h1, h2⟩ := h.tup_invS
  obtain ⟨v1, r1, rfl, h3, h4⟩ := h2.cons_inv
  obtain ⟨v2, r2, rfl, h5, h6⟩ := h4.cons_inv
  obtain ⟨b, ys, rfl, h7, h8⟩ := h5.tup_invS
  rw [h3.int_inv, h6.nil_inv] at h1
  exact ⟨a, b, ys, rfl, h1, h7, h8⟩
theorem ixp0 {σ : L2.St} {H : Hp} {i : Nat} {v : V} {a : Int} {ds : List PyData} {Q : VK} (hσ : σ[i]? = some (some v)) (h : DT K H v (.tuple [.int a, .tuple ds])) (q : Q (.int a) H) : tOp (rIxT K) (tVar i) (tC (.int 0)) σ H Q := by
  obtain ⟨p, b, xs, rfl, h1, h2, h3⟩ := pair_inv h
  exact ⟨.ref p, hσ, p, _, 0, .int a, rfl, rfl, .inl (.inl h1), atI_nat (j := 0) rfl, q⟩
theorem ixp1 {σ : L2.St} {H : Hp} {i : Nat} {v : V} {a : Int} {ds : List PyData} {Q : VK} (hσ : σ[i]? = some (some v)) (h : DT K H v (.tuple [.int a, .tuple ds])) (q : ∀ b xs, H b = some (.tup xs) → DTs K H xs ds → Q (.ref b) H) : tOp (rIxT K) (tVar i) (tC (.int 1)) σ H Q := by
  obtain ⟨p, b, xs, rfl, h1, h2, h3⟩ := pair_inv h
  exact ⟨.ref p, hσ, p, _, 1, .ref b, rfl, rfl, .inl (.inl h1), atI_nat (j := 1) rfl, q b xs h2 h3⟩
theorem con_inv {H : Hp} {v : V} {c : Con} (h : DT K H v (conD c)) : ∃ p b, v = .ref p ∧ H p = some (.tup [.int c.1, .ref b]) ∧ H b = some (.tup ((natL c.2).map V.int)) := by
  obtain ⟨p, xs, rfl, h1, h2⟩ := h.tup_invS
  obtain ⟨v1, r1, rfl, h3, h4⟩ := h2.cons_inv
  obtain ⟨v2, r2, rfl, h5, h6⟩ := h4.cons_inv
  obtain ⟨b, rfl, hb⟩ := h5.row_invS
  rw [h3.int_inv, h6.nil_inv] at h1
  exact ⟨p, b, rfl, h1, hb⟩
theorem rels_get {rels : Rels} {i : Nat} (h : i < rels.length) : rels[i]? = some (rels.getD i (0, [])) := by
  rw [List.getElem?_eq_getElem h, List.getD_eq_getElem?_getD, List.getElem?_eq_getElem h]
  rfl
theorem rel_at {H : Hp} {xs : List V} {rels : Rels} {i : Nat} (hx : DTs K H xs (relsD rels)) (h : i < rels.length) : ∃ y, xs[i]? = some y ∧ DT K H y (relD ((rels.getD i (0, [])).1 : Nat) (rels.getD i (0, [])).2) := by
  obtain ⟨y, ey, dy⟩ := hx.at (i := i) (d := relD ((rels.getD i (0, [])).1 : Nat) (rels.getD i (0, [])).2) (by unfold relsD; rw [List.getElem?_map, rels_get h]; rfl)
  exact ⟨y, ey, dy⟩
/-! is_constraint -/
def sp_is_constraint (T : Txt K mg base) : Sp := fun vs H Q _ => ∃ (sz n : Nat) (v u : V) (rels : Rels) (t : Con), vs = [v, .int n, u] ∧ DT K H v (tplD sz rels) ∧ DT K H u (conD t) ∧ ConOk rels n t ∧ RelsOk sz rels ∧ TT T.tabs H ∧ ∀ H', Gr H H' → Q (.bl true) H'
theorem ok_is_constraint (T : Txt K mg base) : FnOk P w K mg base CX0 5 T.is_constraint.f T.is_constraint.fd p_is_constraint (sp_is_constraint T) := by
  refine T.is_constraint.F.ok sc_is_constraint (fun vs H Q E h => ?_) (fun A outer s H vs Q E hr h => ?_)
  · obtain ⟨_, _, _, _, _, _, rfl, _⟩ := h
    rfl
  · obtain ⟨sz, n, v, u, rels, t, rfl, hv, hu, O, R, hT, q⟩ := h
    refine ⟨_, (pss_cons (ps_if (PW.pt (pw_or (pt_not (pt_val (pe_call (ok_is_tuple T) (hr.mono (by decide)) (by rfl) T.is_tuple.g T.is_tuple.F.kp T.is_tuple.b .nil pass0 (pa_cons (pv 2) (pa_cons (pe_int) (pa_cons (pe_int) pa_nil)))))) (pw_or1 (pt_not (pt_val (pe_call (ok_is_integer T) (hr.mono (by decide)) (by rfl) T.is_integer.g T.is_integer.F.kp T.is_integer.b .nil pass0 (pa_cons (pe_ix (ix_tupK K) (pv 2) pe_int (fun _ _ => rfl)) (pa_cons (pe_int) (pa_cons (pe_op op_sub (pe_callB (call_len_seqK K) (by rfl) T.b_len PySem.boot_len (pa_cons (pe_ix (ix_tupK K) (pv 0) pe_int (fun _ _ => rfl)) pa_nil)) pe_int) pa_nil))))))))) (pss_one (ps_never)) pss_nil) (pss_cons (ps_set (i := 3) sc_is_constraint.nd rfl (by first | exact .inl rfl | exact .inr rfl) (pe_ix (ix_tupK K) (pe_ix (ix_tupK K) (pe_ix (ix_tupK K) (pv 0) pe_int (fun _ _ => rfl)) (pe_ix (ix_tupK K) (pv 2) pe_int (fun _ _ => rfl)) (fun _ _ => rfl)) pe_int (fun _ _ => rfl))) (pss_one (ps_ret (pe_call (ok_are_places T) hr (by rfl) T.are_places.g T.are_places.F.kp T.are_places.b .nil pass0 (pa_cons (pe_ix (ix_tupK K) (pv 2) pe_int (fun _ _ => rfl)) (pa_cons (pv 3) (pa_cons (pv 3) (pa_cons (pv 1) pa_nil))))))))), ?_⟩
    refine ⟨u, rfl, u, _, 2, 2, rfl, hu, _, rfl, ?_⟩
    rw [show decide ((2 : Int) ≤ (([PyData.int t.1, rowD (natL t.2)].length : Nat) : Int) ∧ (([PyData.int t.1, rowD (natL t.2)].length : Nat) : Int) ≤ 2) = true from decide_eq_true (show (2 : Int) ≤ 2 ∧ (2 : Int) ≤ 2 by omega)]
    refine iteF ?_
    obtain ⟨p, b, rfl, hp, hb⟩ := con_inv hu
    have hP : ∀ {H'}, Gr H H' → SqT K H' p [.int t.1, .ref b] := fun g => .inl (.inl (Gx.tupS g .nil hp))
    refine ⟨.ref p, rfl, p, _, 0, _, rfl, rfl, hP .refl, atI_nat (j := 0) rfl, ixp1 rfl hv fun b1 xs hb1 hx => ⟨b1, xs, rfl, .inr (.inl (.inl hb1)), _, 1, rfl, rfl, ?_⟩⟩
    have xl := rels_len hx
    have ix := O.ix
    rw [xl]
    refine ⟨t.1, 0, (rels.length : Int) - 1, rfl, _, rfl, ?_⟩
    rw [decide_eq_true (by omega)]
    refine iteF ?_
    refine ixp1 rfl hv fun b2 ys hb2 hy => ⟨.ref p, rfl, p, _, 0, _, rfl, rfl, hP .refl, atI_nat (j := 0) rfl, ?_⟩
    obtain ⟨y, ey, dy⟩ := rel_at hy ix
    obtain ⟨oa, ob, zs, rfl, ho1, ho2, _⟩ := pair_inv dy
    refine ⟨b2, ys, (t.1 : Int), .ref oa, rfl, rfl, .inl (.inl hb2), atI_nat ey, oa, _, 0, _, rfl, rfl, .inl (.inl ho1), atI_nat (j := 0) rfl, ?_⟩
    have el := O.len
    refine ⟨.ref p, rfl, p, _, 1, _, rfl, rfl, hP .refl, atI_nat (j := 1) rfl, _, rfl, _, rfl, .int n, rfl, .ref b, natL t.2, _, _, (n : Int), rfl, .row hb, hT, ⟨?_, ?_⟩, fun x hx => ?_, fun H1 g1 => q H1 g1⟩
    · rw [List.length_map]
      omega
    · rw [List.length_map]
      omega
    · obtain ⟨z, hz, rfl⟩ := List.mem_map.mp hx
      have := O.sc z hz
      omega
/-! check_instance -/
def sp_check_instance (T : Txt K mg base) : Sp := fun vs H Q _ => ∃ (sz n : Nat) (v u : V) (rels : Rels) (cs : List Con), vs = [v, u] ∧ DT K H v (tplD sz rels) ∧ DT K H u (insD n cs) ∧ InsOk rels n cs ∧ RelsOk sz rels ∧ TT T.tabs H ∧ ∀ H', Gr H H' → Q .non H'
theorem ok_check_instance (T : Txt K mg base) : FnOk P w K mg base CX0 6 T.check_instance.f T.check_instance.fd p_check_instance (sp_check_instance T) := by
  refine T.check_instance.F.ok sc_check_instance (fun vs H Q E h => ?_) (fun A outer s H vs Q E hr h => ?_)
  · obtain ⟨_, _, _, _, _, _, rfl, _⟩ := h
    rfl
  · obtain ⟨sz, n, v, u, rels, cs, rfl, hv, hu, O, R, hT, q⟩ := h
    obtain ⟨tp, hMV⟩ := T.c_MOST_VARIABLES
    obtain ⟨tf, hMT⟩ := T.c_MOST_CONSTRAINTS
    refine ⟨_, (pss_cons (ps_if (PW.pt (pw_or (pt_not (pt_val (pe_call (ok_is_tuple T) (hr.mono (by decide)) (by rfl) T.is_tuple.g T.is_tuple.F.kp T.is_tuple.b .nil pass0 (pa_cons (pv 1) (pa_cons (pe_int) (pa_cons (pe_int) pa_nil)))))) (pw_or1 (pt_not (pt_val (pe_call (ok_is_integer T) (hr.mono (by decide)) (by rfl) T.is_integer.g T.is_integer.F.kp T.is_integer.b .nil pass0 (pa_cons (pe_ix (ix_tupK K) (pv 1) pe_int (fun _ _ => rfl)) (pa_cons (pe_int) (pa_cons (pe_glob (v := .int 16) rfl hMV ⟨_, rfl⟩) pa_nil))))))))) (pss_one (ps_never)) pss_nil) (pss_cons (ps_asg (pv 1) (pg_tup (by rfl) (pgs_cons (pg_name (i := 2) sc_check_instance.nd rfl (by first | exact .inl rfl | exact .inr rfl)) (pgs_cons (pg_name (i := 3) sc_check_instance.nd rfl (by first | exact .inl rfl | exact .inr rfl)) pgs_nil)))) (pss_cons (ps_if (pt_not (pt_val (pe_call (ok_is_tuple T) (hr.mono (by decide)) (by rfl) T.is_tuple.g T.is_tuple.F.kp T.is_tuple.b .nil pass0 (pa_cons (pv 3) (pa_cons (pe_int) (pa_cons (pe_glob (v := .int 200) rfl hMT ⟨_, rfl⟩) pa_nil)))))) (pss_one (ps_never)) pss_nil) (pss_one (ps_for PassesOwn.never rfl (EN.pi_enumT K (by rfl) T.b_enumerate (pa_cons (pv 3) pa_nil)) (pg_tup (by rfl) (pgs_cons (pg_name (i := 4) sc_check_instance.nd rfl (by first | exact .inl rfl | exact .inr rfl)) (pgs_cons (pg_name (i := 5) sc_check_instance.nd rfl (by first | exact .inl rfl | exact .inr rfl)) pgs_nil)))
        (pss_one (ps_if (pt_not (pt_val (pe_call (ok_is_constraint T) hr (by rfl) T.is_constraint.g T.is_constraint.F.kp T.is_constraint.b .nil pass0 (pa_cons (pv 0) (pa_cons (pv 2) (pa_cons (pv 5) pa_nil)))))) (pss_one (ps_never)) pss_nil))))))), ?_⟩
    have n8 := O.n16
    refine ⟨u, rfl, u, _, 2, 2, rfl, hu, _, rfl, ?_⟩
    rw [show decide ((2 : Int) ≤ (([PyData.int n, PyData.tuple (cs.map conD)].length : Nat) : Int) ∧ (([PyData.int n, PyData.tuple (cs.map conD)].length : Nat) : Int) ≤ 2) = true from decide_eq_true (show (2 : Int) ≤ 2 ∧ (2 : Int) ≤ 2 by omega)]
    refine iteF (ixp0 rfl hu ⟨n, 0, 16, rfl, _, rfl, ?_⟩)
    rw [decide_eq_true (by omega)]
    refine iteF ?_
    obtain ⟨a, b, xs, rfl, h1, h2, h3⟩ := pair_inv hu
    have xl : xs.length = cs.length := by rw [h3.1, List.length_map]
    refine ⟨.ref a, rfl, a, _, rfl, .inl (.inl h1), rfl, .int n, [.ref b], rfl, .ref b, [], rfl, rfl, ?_⟩
    refine ⟨.ref b, rfl, .ref b, _, 0, 200, rfl, .mk h2 h3, _, rfl, ?_⟩
    rw [decide_eq_true (by
      have := O.few
      rw [List.length_map]
      omega)]
    refine iteF ⟨.ref b, rfl, b, xs, rfl, .inl (.inl h2), ?_⟩
    refine for_it EN.walk_enumT (fun i σ H' => ∃ y3 y4, σ = [some v, some (.ref a), some (.int n), some (.ref b), y3, y4] ∧ Gr H H') ⟨none, none, rfl, Gx.refl⟩ (fun i σ H' _ hp => by
      obtain ⟨_, _, _, g⟩ := hp
      exact .inl (.inl (Gx.tupS g .nil h2))) (fun i x σ Hx H' hi hp hy => ?_) (fun σ H' hp => ?_)
    · obtain ⟨t, y, rfl, nt, rfl, ey⟩ := hy
      obtain ⟨y3, y4, rfl, g⟩ := hp
      have gt : Gr Hx (upd Hx t (.tup [.int i, y])) := Gx.new nt
      have ht : (upd Hx t (.tup [.int i, y])) t = some (.tup [.int i, y]) := upd_same
      obtain ⟨d, ed, dr⟩ := h3.at' ey
      rw [List.getElem?_map] at ed
      obtain ⟨tm, ef, rfl⟩ := Option.map_eq_some_iff.mp ed
      have okt := O.ok tm (List.mem_of_getElem? ef)
      have g2 := g.trans gt
      generalize upd Hx t (.tup [.int i, y]) = H2 at *
      refine ⟨t, _, rfl, .inl (.inl ht), rfl, .int i, [y], rfl, y, [], rfl, rfl, ?_⟩
      exact ⟨v, rfl, .int n, rfl, y, rfl, sz, n, v, y, rels, tm, rfl, hv.gr g2, dr.gr g2, okt, R, g2.tt hT, fun H3 g3 => ⟨_, rfl, iteF ⟨_, _, rfl, g2.trans g3⟩⟩⟩
    · obtain ⟨y3, y4, rfl, g⟩ := hp
      exact q H' g

end K15

set_option Elab.async false
set_option linter.all false
set_option maxRecDepth 100000
set_option maxHeartbeats 4000000
namespace K15
open PySem PySem.Spec PyProof.Rows L2 TK MR
variable {P : Program} {w : World} {K : PySem.W.Frag} {mg : Str → Option Value} {base : Heap}
theorem lst_nr {H : Hp} {r c p : Addr} (h : RowSt K H r c) (n : H p = none) : p ≠ r := fun z => by
  obtain ⟨xs, e⟩ := h.lst
  rw [← z, n] at e
  cases e
/-- a list of data, made since -/
def LD (K : PySem.W.Frag) (H : Hp) (p : Addr) (ds : List PyData) : Prop := ∃ ws, H p = some (.lst ws) ∧ DTs K H ws ds
theorem LD.gxr {H H' : Hp} {r p : Addr} {ds : List PyData} (g : Gx [r] H H') (ls : LS [r] H) (n : p ≠ r) (h : LD K H p ds) : LD K H' p ds := by
  obtain ⟨xs, a, b⟩ := h
  exact ⟨xs, g.at (fun z => n (List.mem_singleton.mp z)) a (fun _ z => by cases z), b.gx g ls⟩
theorem LD.gr {H H' : Hp} {p : Addr} {ds : List PyData} (g : Gr H H') (h : LD K H p ds) : LD K H' p ds := by
  obtain ⟨xs, a, b⟩ := h
  exact ⟨xs, g.lst a, b.gr g⟩
theorem rowst_wr {H : Hp} {r c p : Addr} {o : HO} (h : RowSt K H r c) (n : p ≠ r) (nc : c ≠ p ∨ ∃ ns : List Int, SqL K (fun _ => none) c (ns.map V.int)) : RowSt K (upd H p o) r c := h.wr n.symm nc
theorem rel_lay (r : Nat × List (List Int)) : PyData.canLay0 (relD (r.1 : Int) r.2) = true := by
  unfold relD
  simp [PyData.canLay0, PyData.canLayAll0, rows_lay]
theorem rels_lay : ∀ rels : Rels, PyData.canLayAll0 (relsD rels) = true
  | [] => by simp [relsD, PyData.canLayAll0]
  | r :: rels => by
    have h := rels_lay rels
    unfold relsD at h ⊢
    simp [PyData.canLayAll0, rel_lay r, h]
theorem rels_depth : ∀ rels : Rels, PyData.depthAll (relsD rels) ≤ 4
  | [] => by simp [relsD, PyData.depthAll]
  | r :: rels => by
    have h1 := rels_depth rels
    have h2 := rows_depth r.2
    unfold relsD at h1 ⊢
    unfold relD
    simp only [List.map_cons, PyData.depthAll, PyData.depth]
    simp only [relD] at h1
    omega
theorem rels_shapedT (rels : Rels) : SeqAt.shaped (.tuple (relsD rels)) = true := by
  have h1 := rels_depth rels
  have h2 : PyData.depth (.tuple (relsD rels)) ≤ 64 := by
    simp only [PyData.depth]
    omega
  show (PyData.canLay0 (.tuple (relsD rels)) && decide (PyData.depth (.tuple (relsD rels)) ≤ 64)) = true
  rw [Bool.and_eq_true]
  exact ⟨by simp only [PyData.canLay0]; exact rels_lay rels, decide_eq_true h2⟩
theorem rels_nilT (rels : Rels) : PyData.eqv (.tuple (relsD rels)) (.tuple []) = decide (rels = []) := by
  cases rels with
  | nil => simp [relsD, PyData.eqv, PyData.eqvAll]
  | cons r rows => simp [relsD, PyData.eqv, PyData.eqvAll]
/-! _law_instance -/
def sp_law_instance (K : PySem.W.Frag) : Sp := fun vs H Q _ => ∃ (r c : Addr) (sz n most : Nat) (v : V) (rels : Rels), vs = [.ref r, v, .int n, .int most] ∧ RowSt K H r c ∧ Lv K H c ∧ n ≤ 16 ∧ most ≤ 100 ∧ DT K H v (tplD sz rels) ∧ RelsOk sz rels ∧
  ∀ (u : V) (cs : List Con) H', Gx [r] H H' → RowSt K H' r c → DT K H' u (insD n cs) → InsOk rels n cs → cs.length ≤ most → Q u H'
theorem ok_law_instance (T : Txt K mg base) : FnOk P w K mg base CX0 2 T.law_instance.f T.law_instance.fd p_law_instance (sp_law_instance K) := by
  refine T.law_instance.F.ok sc_law_instance (fun vs H Q E h => ?_) (fun A outer s H vs Q E hr h => ?_)
  · obtain ⟨_, _, _, _, _, _, _, rfl, _⟩ := h
    rfl
  · obtain ⟨r, c, sz, n, most, v, rels, rfl, hR, hc, hn, hm, hv, C, q⟩ := h
    refine ⟨_, (pss_cons (ps_set (i := 4) sc_law_instance.nd rfl (by first | exact .inl rfl | exact .inr rfl) (pe_lst pa_nil)) (pss_cons (ps_if (PW.pt (pw_and (pt_cmpR op_gt (pv 2) pe_int (nomark _)) (pw_and1 (pt_cmpR (op_neD hr.units) (pe_ix (ix_tupK K) (pv 1) pe_int (fun _ _ => rfl)) (pe_tup pa_nil) (nomark _))))) (pss_one (ps_for PassesOwn.never rfl (pi_range1 (by rfl) T.b_range (pa_cons ((pe_call (ok_law_taken T) hr (by rfl) T.law_taken.g T.law_taken.F.kp T.law_taken.b .nil pass0 (pa_cons (pv 0) (pa_cons (pe_op op_add (pv 3) pe_int) pa_nil)))) pa_nil)) (pg_name (i := 5) sc_law_instance.nd rfl (by first | exact .inl rfl | exact .inr rfl))
        (pss_cons (ps_set (i := 6) sc_law_instance.nd rfl (by first | exact .inl rfl | exact .inr rfl) (pe_call (ok_law_taken T) hr (by rfl) T.law_taken.g T.law_taken.F.kp T.law_taken.b .nil pass0 (pa_cons (pv 0) (pa_cons (pe_callB (call_len_seqK K) (by rfl) T.b_len PySem.boot_len (pa_cons (pe_ix (ix_tupK K) (pv 1) pe_int (fun _ _ => rfl)) pa_nil)) pa_nil)))) (pss_cons (ps_set (i := 7) sc_law_instance.nd rfl (by first | exact .inl rfl | exact .inr rfl) (pe_ix (ix_tupK K) (pe_ix (ix_tupK K) (pe_ix (ix_tupK K) (pv 1) pe_int (fun _ _ => rfl)) (pv 6) (fun _ _ => rfl)) pe_int (fun _ _ => rfl))) (pss_one (ps_expr (pe_bm PySem.F.plainAttrs_list PySem.F.slot_list_append PySem.F.type_list_append mt_append (pv 4) (pa_cons (pe_tup (pa_cons (pv 6) (pa_cons ((pe_callTy (call_tuple_ofK K) (by rfl) T.b_tuple boot_tuple (pa_cons (pe_lc (own := [("place", 8)]) (g := gName 8) (tt := tYes) rfl sc_law_instance.nd (pi_range1 (by rfl) T.b_range (pa_cons (pv 7) pa_nil)) (blkOk_by (N := n_law_instance) (sc := defScope s_law_instance) (by decide +kernel)) (fun _ _ _ _ _ => pg_name (i := 8) sc_law_instance.nd rfl (by first | exact .inl rfl | exact .inr rfl)) (fun _ _ _ _ _ => pts_nil)
            (fun _ _ _ _ _ => (pe_call (ok_law_taken T) hr (by rfl) T.law_taken.g T.law_taken.F.kp T.law_taken.b .nil pass0 (pa_cons (pv 0) (pa_cons (pv 2) pa_nil))))) pa_nil))) pa_nil))) pa_nil)))))))) pss_nil) (pss_one (ps_ret (pe_tup (pa_cons (pv 2) (pa_cons ((pe_callTy (call_tuple_ofK K) (by rfl) T.b_tuple boot_tuple (pa_cons (pv 4) pa_nil))) pa_nil))))))), ?_⟩
    have f6 := C.few
    refine ⟨Nat.zero_le _, fun pf npf => ?_⟩
    have nfr := lst_nr hR npf
    have nfc := live_ne hc npf
    have g1 : Gr H (upd H pf (.lst [])) := Gx.new npf
    have hR1 := hR.gr g1
    have L1 : LD K (upd H pf (.lst [])) pf (([] : List Con).map conD) := ⟨[], upd_same, .nil⟩
    generalize upd H pf (.lst []) = H1 at *
    have fin : ∀ (cs : List Con) y5 y6 y7 y8 H', Gx [r] H H' → RowSt K H' r c → LD K H' pf (cs.map conD) → InsOk rels n cs → cs.length ≤ most → tRet (tTup (tCons (tVar 2) (tCons (tCB (rTupleOf K) (tCons (tVar 4) tNil)) tNil))) { nx := fun x H' => Q V.non H', rt := Q } [some (.ref r), some v, some (.int n), some (.int most), some (.ref pf), y5, y6, y7, y8] H' := fun cs y5 y6 y7 y8 H' g hR' L ok cl => by
      obtain ⟨ws, hw, hws⟩ := L
      refine ⟨.int n, rfl, .ref pf, rfl, pf, ws, rfl, .inl ⟨.inl (.inl hw), fun l nl => ⟨by show 2 ≤ sizeLine; decide, fun t nt => ?_⟩⟩⟩
      have g6 : Gr H' (upd (upd H' l (.tup ws)) t (.tup [.int n, .ref l])) := Gx.trans (Gx.new nl) (Gx.new nt)
      exact q _ cs _ (TK.Gx.thn g g6) (hR'.gr g6) (.mk upd_same (.cons (.int n) (.one (.mk (Gx.tupS (Gx.new nt) .nil upd_same) (hws.gr g6))))) ok cl
    have none : ∀ (y5 y6 y7 y8 : Option V) H', Gx [r] H H' → RowSt K H' r c → LD K H' pf (([] : List Con).map conD) → tRet (tTup (tCons (tVar 2) (tCons (tCB (rTupleOf K) (tCons (tVar 4) tNil)) tNil))) { nx := fun x H' => Q V.non H', rt := Q } [some (.ref r), some v, some (.int n), some (.int most), some (.ref pf), y5, y6, y7, y8] H' := fun y5 y6 y7 y8 H' g hR' L =>
      fin [] y5 y6 y7 y8 H' g hR' L ⟨hn, by simp, fun t ht => by simp at ht⟩ (Nat.zero_le _)
    refine ⟨.int n, rfl, n, 0, rfl, rfl, _, rfl, ite2 (fun h0 => ?_) (fun h0 => iteF (none _ _ _ _ H1 g1.x hR1 L1))⟩
    have n1 : 1 ≤ n := by have := of_decide_eq_true h0; omega
    refine ixp1 rfl (hv.gr g1) fun b0 xs0 hb0 hx0 => ⟨Nat.zero_le _, fun e ne => ?_⟩
    have ge : Gr H1 (upd H1 e (.tup [])) := Gx.new ne
    have hbe := Gx.tupS ge .nil hb0
    refine ⟨.tuple (relsD rels), .tuple [], (DT.mk hbe (hx0.gr ge)).dp, (DT.mk upd_same .nil).dp, rels_shapedT rels, by decide, _, rfl, ?_⟩
    rw [rels_nilT]
    have hR1 := hR1.gr ge
    have L1 := LD.gr ge L1
    have g1 : Gr H (upd H1 e (.tup [])) := TK.Gx.trans g1 ge
    generalize upd H1 e (.tup []) = H1 at *
    refine ite2 (fun hne => ?_) (fun _ => none _ _ _ _ H1 g1.x hR1 L1)
    have f1 : 1 ≤ rels.length := List.length_pos_iff.mpr (by simpa using hne)
    clear none hbe hb0 hx0
    refine ⟨.ref r, rfl, .int most, rfl, most, 1, rfl, rfl, r, c, (most : Int) + 1, rfl, hR1, by omega, by omega, fun m H2 hm0 hm1 g2 hR2 => ?_⟩
    have L2' := LD.gxr g2 hR1.ls nfr L1
    have g02 : Gx [r] H H2 := Gr.thn g1 g2
    refine ⟨m, rfl, by omega, by omega, ?_⟩
    refine for_range (n := m.toNat) (fun i σ H' => ∃ y5 y6 y7 cs, σ = [some (.ref r), some v, some (.int n), some (.int most), some (.ref pf), y5, y6, y7, Option.none] ∧ Gx [r] H H' ∧ RowSt K H' r c ∧ LD K H' pf (cs.map conD) ∧ cs.length = i ∧ ∀ t ∈ cs, ConOk rels n t)
      ⟨_, _, _, [], rfl, g02, hR2, L2', rfl, fun f hf => by simp at hf⟩ (fun i σ H' hi hp => ?_) (fun σ H' hp => ?_)
    · obtain ⟨y5, y6, y7, cs, rfl, g, hR', L, tl, ok⟩ := hp
      have hv' := hv.gx g hR.ls
      refine ⟨.ref r, rfl, ixp1 rfl hv' fun b xs hb hx => ⟨b, xs, rfl, .inr (.inl (.inl hb)), ?_⟩⟩
      have xl := rels_len hx
      refine ⟨r, c, xs.length, rfl, hR', by omega, by omega, fun wh H3 hw0 hw1 g3 hR3 => ?_⟩
      obtain ⟨which, rfl⟩ := Int.eq_ofNat_of_zero_le hw0
      have ix : which < rels.length := by omega
      have F := (C.ok _ (List.mem_of_getElem? (rels_get ix))).1
      have L3 := LD.gxr g3 hR'.ls nfr L
      have g03 := g.trans g3
      have hv3 := hv.gx g03 hR.ls
      refine ixp1 rfl hv3 fun b1 zs hb1 hz => ?_
      obtain ⟨y, ey, dy⟩ := rel_at hz ix
      obtain ⟨oa, ob, os, rfl, ho1, ho2, _⟩ := pair_inv dy
      refine ⟨.int which, rfl, b1, zs, (which : Int), .ref oa, rfl, rfl, .inl (.inl hb1), atI_nat ey, oa, _, 0, _, rfl, rfl, .inl (.inl ho1), atI_nat (j := 0) rfl, ?_⟩
      have har : 1 ≤ (rels.getD which (0, [])).1 ∧ (rels.getD which (0, [])).1 ≤ 4 := by have := F.ar1; have := F.ar4; omega
      have hlen : ∀ ps : List Nat, ps.length = (rels.getD which (0, [])).1 → (∀ p ∈ ps, p < n) → ConOk rels n (which, ps) := fun ps h1 h2 => ⟨ix, h1, h2⟩
      generalize (rels.getD which (0, [])).1 = ar at *
      obtain ⟨zs, hz, hzs⟩ := id L3
      refine ⟨.ref pf, rfl, .inl ⟨rfl, _, .inl (.inl hz)⟩, .int which, rfl, .int ar, rfl, ar, rfl, by omega, by omega, fun D nD => ?_⟩
      have nDr := lst_nr hR3 nD
      have nDc := live_ne (Lv.gx g03 hR3 hc) nD
      refine lc_range (n := ((ar : Nat) : Int).toNat) (fun j H5 => Gx [r] H3 H5 ∧ RowSt K H5 r c ∧ ∃ ps : List Nat, ps.length = j ∧ (∀ p ∈ ps, p < n) ∧ H5 D = some (.lst ((natL ps).map V.int))) ⟨Gx.new nD, hR3.gr (Gx.new nD), [], rfl, fun x hx => by simp at hx, upd_same⟩ (fun j H5 hj q => ?_) (fun H5 q' => ?_)
      · obtain ⟨g5, hR5, ps, pl, pv', hD⟩ := q
        refine ⟨rfl, yesT ⟨.ref r, rfl, .int n, rfl, r, c, n, rfl, hR5, by omega, by omega, fun y H6 hy0 hy1 g6 hR6 => ?_⟩⟩
        obtain ⟨yn, rfl⟩ := Int.eq_ofNat_of_zero_le hy0
        have hD6 := g6.at (fun z => nDr (List.mem_singleton.mp z)) hD fun _ z => by cases z
        refine ⟨_, hD6, ?_, (g5.trans g6).wr nD, rowst_wr hR6 nDr nDc, ps ++ [yn], by rw [List.length_append, pl]; rfl, fun z hz => ?_, ?_⟩
        · rw [List.length_map, List.length_map]
          exact small1000 (by omega)
        · rcases List.mem_append.mp hz with hz | hz
          · exact pv' z hz
          · rw [List.mem_singleton.mp hz]
            omega
        · show _ = some (HO.lst (((ps ++ [yn]).map fun (p : Nat) => (p : Int)).map V.int))
          rw [upd_same, List.map_append, List.map_append]
          rfl
      · obtain ⟨g5, hR5, ps, pl, pv', hD⟩ := q'
        rw [Int.toNat_natCast] at pl
        have L5 := LD.gxr g5 hR3.ls nfr L3
        refine ⟨D, _, rfl, .inl ⟨.inl (.inl hD), fun l5 nl5 => ⟨by show 2 ≤ sizeLine; decide, fun t nt => ?_⟩⟩⟩
        have g6 : Gr H5 (upd (upd H5 l5 (.tup ((natL ps).map V.int))) t (.tup [.int which, .ref l5])) := TK.Gx.trans (Gx.new nl5) (Gx.new nt)
        have dt : DT K (upd (upd H5 l5 (.tup ((natL ps).map V.int))) t (.tup [.int which, .ref l5])) (.ref t) (conD (which, ps)) := .mk upd_same (.cons (.int _) (.one (.row (Gx.tupS (Gx.new nt) .nil upd_same))))
        obtain ⟨qs, hq, hqs⟩ := LD.gr g6 L5
        have hR6 := hR5.gr g6
        have g06 := TK.Gx.thn (g03.trans g5) g6
        generalize upd (upd H5 l5 (.tup ((natL ps).map V.int))) t (.tup [.int which, .ref l5]) = H6 at *
        have ql : qs.length = i := by rw [hqs.1, List.length_map, tl]
        refine ⟨pf, qs, .ref t, rfl, rfl, hq, small1000 (by omega), ?_⟩
        refine ⟨_, _, _, cs ++ [(which, ps)], rfl, g06.wr npf, rowst_wr hR6 nfr nfc, ⟨_, upd_same, ?_⟩, by rw [List.length_append, tl]; rfl, fun t' ht => ?_⟩
        · rw [List.map_append]
          exact (hqs.wr hq).app (.one (DT.wr hq dt))
        · rcases List.mem_append.mp ht with ht | ht
          · exact ok t' ht
          · rw [List.mem_singleton.mp ht]
            exact hlen ps pl pv'
    · obtain ⟨y5, y6, y7, cs, rfl, g, hR', L, tl, ok⟩ := hp
      exact fin cs _ _ _ _ H' g hR' L ⟨hn, by omega, ok⟩ (by omega)

end K15

set_option Elab.async false
set_option linter.all false
namespace MR
theorem ext_get {sz : Nat} (hs : 0 < sz) : ∀ (rows : List (List Int)) (i : Nat), (ext sz rows)[i]? = (rows[i / sz]?).map fun r => r ++ [((i % sz : Nat) : Int)]
  | [], i => by simp [ext]
  | r :: rows, i => by
    have e : ext sz (r :: rows) = ((List.range sz).map fun (v : Nat) => r ++ [(v : Int)]) ++ ext sz rows := by
      unfold ext
      rw [List.flatMap_cons]
    rw [e]
    by_cases h : i < sz
    · rw [List.getElem?_append_left (by rw [List.length_map, List.length_range]; exact h), Nat.div_eq_of_lt h, Nat.mod_eq_of_lt h, List.getElem?_map, List.getElem?_range h]
      rfl
    · rw [List.getElem?_append_right (by rw [List.length_map, List.length_range]; omega), List.length_map, List.length_range, ext_get hs rows (i - sz)]
      have e1 : i = (i - sz) + sz := by omega
      have e2 : i / sz = (i - sz) / sz + 1 := by
        conv => lhs; rw [e1]
        exact Nat.add_div_right _ hs
      have e3 : i % sz = (i - sz) % sz := by
        conv => lhs; rw [e1]
        exact Nat.add_mod_right _ _
      rw [e2, e3]
      rfl
theorem idx_row {sz : Nat} (hs : 0 < sz) : ∀ {n i : Nat} {r : List Int}, (allRows sz n)[i]? = some r → idxI sz r = (i : Int)
  | 0, i, r, h => by
    cases i with
    | zero =>
      have : r = [] := by simpa [allRows] using h.symm
      subst this
      rfl
    | succ i => simp [allRows] at h
  | n + 1, i, r, h => by
    have h' : ((allRows sz n)[i / sz]?).map (fun r => r ++ [((i % sz : Nat) : Int)]) = some r := by
      rw [← ext_get hs]
      exact h
    obtain ⟨q, hq, rfl⟩ := Option.map_eq_some_iff.mp h'
    rw [idxI_app, idx_row hs hq]
    have := Nat.div_add_mod i sz
    have e : (i : Int) = ((sz * (i / sz) + i % sz : Nat) : Int) := by rw [this]
    rw [e, Int.natCast_add, Int.natCast_mul, Int.mul_comm]
end MR

set_option Elab.async false
set_option linter.all false
namespace MR
/-! the rests of a table, argument by argument -/
def partAt (sz : Nat) (r : List Int) (v : Nat) : List Int := (r.drop (v * (r.length / sz))).take (r.length / sz)
def partsOf (sz : Nat) (r : List Int) : List (List Int) := (List.range sz).map (partAt sz r)
def addK (ks : List (List Int)) (r : List Int) : List (List Int) := if r ∈ ks then ks else ks ++ [r]
def keysOf (PP : List (List (List Int))) : List (List Int) := PP.flatten.foldl addK []
def idxIn (ks : List (List Int)) (r : List Int) : Int := ((ks.idxOf r : Nat) : Int)
def stepL (sz : Nat) (R : List (List Int)) : List (List Int) := R.map fun r => (partsOf sz r).map fun p => idxIn (keysOf (R.map (partsOf sz))) p
def lastL (sz : Nat) (R : List (List Int)) : List (List Int) := R.map fun r => (partsOf sz r).map fun p => p.getD 0 0
def stepsFrom (sz : Nat) : Nat → List (List Int) → List (List (List Int))
  | 0, _ => []
  | 1, R => [lastL sz R]
  | m + 2, R => stepL sz R :: stepsFrom sz (m + 1) (keysOf (R.map (partsOf sz)))
theorem mem_addK {ks : List (List Int)} {r x : List Int} : x ∈ addK ks r ↔ x ∈ ks ∨ x = r := by
  unfold addK
  by_cases h : r ∈ ks
  · rw [if_pos h]
    exact ⟨.inl, fun z => z.elim id fun e => e ▸ h⟩
  · rw [if_neg h, List.mem_append, List.mem_singleton]
theorem nodup_addK {ks : List (List Int)} {r : List Int} (h : ks.Nodup) : (addK ks r).Nodup := by
  unfold addK
  by_cases q : r ∈ ks
  · rw [if_pos q]
    exact h
  · rw [if_neg q, List.nodup_append]
    refine ⟨h, by simp, fun a ha b hb => ?_⟩
    rw [List.mem_singleton.mp hb]
    rintro rfl
    exact q ha
theorem len_addK {ks : List (List Int)} {r : List Int} : (addK ks r).length ≤ ks.length + 1 := by
  unfold addK
  by_cases q : r ∈ ks
  · rw [if_pos q]
    omega
  · rw [if_neg q, List.length_append]
    exact Nat.le_refl _
theorem mem_foldK : ∀ {l ks : List (List Int)} {x : List Int}, x ∈ l.foldl addK ks ↔ x ∈ ks ∨ x ∈ l
  | [], ks, x => by simp
  | r :: l, ks, x => by
    rw [List.foldl_cons, mem_foldK, mem_addK, List.mem_cons, or_assoc]
theorem nodup_foldK : ∀ {l ks : List (List Int)}, ks.Nodup → (l.foldl addK ks).Nodup
  | [], _, h => h
  | r :: l, ks, h => by
    rw [List.foldl_cons]
    exact nodup_foldK (nodup_addK h)
theorem len_foldK : ∀ {l ks : List (List Int)}, (l.foldl addK ks).length ≤ ks.length + l.length
  | [], ks => by simp
  | r :: l, ks => by
    rw [List.foldl_cons, List.length_cons]
    have := len_foldK (l := l) (ks := addK ks r)
    have := len_addK (ks := ks) (r := r)
    omega
theorem mem_keysOf {PP : List (List (List Int))} {x : List Int} : x ∈ keysOf PP ↔ ∃ P ∈ PP, x ∈ P := by
  unfold keysOf
  rw [mem_foldK, List.mem_flatten]
  simp
theorem nodup_keysOf (PP : List (List (List Int))) : (keysOf PP).Nodup := nodup_foldK List.nodup_nil
theorem partsOf_len (sz : Nat) (r : List Int) : (partsOf sz r).length = sz := by
  unfold partsOf
  rw [List.length_map, List.length_range]
theorem keysOf_len {sz : Nat} {R : List (List Int)} : (keysOf (R.map (partsOf sz))).length ≤ R.length * sz := by
  unfold keysOf
  have h := len_foldK (l := (R.map (partsOf sz)).flatten) (ks := [])
  have e : ((R.map (partsOf sz)).flatten).length = R.length * sz := by
    induction R with
    | nil => simp
    | cons r R ih =>
      rw [List.map_cons, List.flatten_cons, List.length_append, ih len_foldK, partsOf_len, List.length_cons, Nat.add_mul, Nat.one_mul]
      omega
  rw [e] at h
  simpa using h
theorem div_pow {sz m : Nat} (hs : 1 ≤ sz) {n : Nat} (h : n = sz ^ (m + 1)) : n / sz = sz ^ m := by
  rw [h, Nat.pow_succ]
  exact Nat.mul_div_cancel _ (by omega)
theorem partAt_len {sz m v : Nat} (hs : 1 ≤ sz) {r : List Int} (h : r.length = sz ^ (m + 1)) (hv : v < sz) : (partAt sz r v).length = sz ^ m := by
  unfold partAt
  rw [div_pow hs h, List.length_take, List.length_drop, h, Nat.pow_succ]
  have : (v + 1) * sz ^ m ≤ sz ^ m * sz := by rw [Nat.mul_comm (sz ^ m)]; exact Nat.mul_le_mul_right _ hv
  rw [Nat.add_mul, Nat.one_mul] at this
  omega
theorem partAt_get {sz m v i : Nat} (hs : 1 ≤ sz) {r : List Int} (h : r.length = sz ^ (m + 1)) (hi : i < sz ^ m) : (partAt sz r v).getD i 0 = r.getD (v * sz ^ m + i) 0 := by
  unfold partAt
  rw [div_pow hs h, List.getD_eq_getElem?_getD, List.getD_eq_getElem?_getD, List.getElem?_take, if_pos hi, List.getElem?_drop]
theorem mem_partsOf {sz : Nat} {r p : List Int} : p ∈ partsOf sz r ↔ ∃ v, v < sz ∧ p = partAt sz r v := by
  unfold partsOf
  rw [List.mem_map]
  exact ⟨fun ⟨v, hv, e⟩ => ⟨v, List.mem_range.mp hv, e.symm⟩, fun ⟨v, hv, e⟩ => ⟨v, List.mem_range.mpr hv, e.symm⟩⟩
theorem keys_len {sz m : Nat} (hs : 1 ≤ sz) {R : List (List Int)} (h : ∀ r ∈ R, r.length = sz ^ (m + 1)) : ∀ p ∈ keysOf (R.map (partsOf sz)), p.length = sz ^ m := fun p hp => by
  obtain ⟨P, hP, hp⟩ := mem_keysOf.mp hp
  obtain ⟨r, hr, rfl⟩ := List.mem_map.mp hP
  obtain ⟨v, hv, rfl⟩ := mem_partsOf.mp hp
  exact partAt_len hs (h r hr) hv
theorem idxIn_get {ks : List (List Int)} {r : List Int} (h : r ∈ ks) : (idxIn ks r).toNat < ks.length ∧ ks.getD (idxIn ks r).toNat [] = r ∧ 0 ≤ idxIn ks r := by
  unfold idxIn
  have hl := List.idxOf_lt_length_iff.mpr h
  refine ⟨by rw [Int.toNat_natCast]; exact hl, ?_, by omega⟩
  rw [Int.toNat_natCast, List.getD_eq_getElem?_getD, List.getElem?_eq_getElem hl, List.getElem_idxOf hl]
  rfl
/-! walking down the steps -/
def at3 (L : List (List Int)) (n v : Int) : Int := (L.getD n.toNat []).getD v.toNat 0
def walkS : List (List (List Int)) → Int → List Int → Int
  | L :: S, n, v :: vs => walkS S (at3 L n v) vs
  | _, n, _ => n
theorem idxI_cons (sz : Nat) (v : Int) (vs : List Int) : idxI sz (v :: vs) = v * (sz : Int) ^ vs.length + idxI sz vs := by
  have key : ∀ (vs : List Int) (c : Int), vs.foldl (fun (a x : Int) => a * (sz : Int) + x) c = c * (sz : Int) ^ vs.length + vs.foldl (fun (a x : Int) => a * (sz : Int) + x) 0 := by
    intro vs
    induction vs with
    | nil => intro c; simp
    | cons w vs ih =>
      intro c
      rw [List.foldl_cons, List.foldl_cons, ih (c * sz + w), ih (0 * sz + w), List.length_cons, Int.pow_succ, Int.add_mul, Int.zero_mul, Int.zero_add, Int.mul_assoc, Int.mul_comm (sz : Int) ((sz : Int) ^ vs.length)]
      omega
  unfold idxI
  rw [List.foldl_cons, key vs (0 * sz + v), Int.zero_mul, Int.zero_add]
theorem getD_map {α β : Type} {f : α → β} {l : List α} {i : Nat} {d : β} (e : α) (h : i < l.length) : (l.map f).getD i d = f (l.getD i e) := by
  rw [List.getD_eq_getElem?_getD, List.getD_eq_getElem?_getD, List.getElem?_map, List.getElem?_eq_getElem h]
  rfl
theorem partsOf_get {sz : Nat} {r : List Int} {v : Nat} (h : v < sz) : (partsOf sz r).getD v [] = partAt sz r v := by
  unfold partsOf
  rw [getD_map 0 (by rw [List.length_range]; exact h), List.getD_eq_getElem?_getD, List.getElem?_range h]
  rfl
theorem walk_steps {sz : Nat} (hs : 1 ≤ sz) : ∀ {m : Nat} {R : List (List Int)} {n : Int} {args : List Int}, (∀ r ∈ R, r.length = sz ^ (m + 1)) → n.toNat < R.length → args.length = m + 1 → (∀ x ∈ args, 0 ≤ x ∧ x < (sz : Int)) →
    walkS (stepsFrom sz (m + 1) R) n args = (R.getD n.toNat []).getD (idxI sz args).toNat 0
  | 0, R, n, [v], hR, hn, _, ha => by
    have hv := ha v List.mem_cons_self
    have hvn : v.toNat < sz := by omega
    have hr : (R.getD n.toNat []).length = sz ^ (0 + 1) := by
      rw [List.getD_eq_getElem?_getD, List.getElem?_eq_getElem hn]
      exact hR _ (List.getElem_mem hn)
    show at3 (lastL sz R) n v = _
    unfold at3 lastL
    rw [getD_map [] hn, getD_map [] (by rw [partsOf_len]; exact hvn), partsOf_get hvn, partAt_get hs hr (by simp)]
    have e : idxI sz [v] = v := by
      unfold idxI
      simp
    rw [e]
    simp
  | m + 1, R, n, v :: vs, hR, hn, hl, ha => by
    have hv := ha v List.mem_cons_self
    have hvn : v.toNat < sz := by omega
    have hvs : ∀ x ∈ vs, 0 ≤ x ∧ x < (sz : Int) := fun x hx => ha x (List.mem_cons_of_mem _ hx)
    have hl' : vs.length = m + 1 := by simpa using hl
    have hrm : R.getD n.toNat [] ∈ R := by
      rw [List.getD_eq_getElem?_getD, List.getElem?_eq_getElem hn]
      exact List.getElem_mem hn
    have hr := hR _ hrm
    show walkS (stepsFrom sz (m + 1) (keysOf (R.map (partsOf sz)))) (at3 (stepL sz R) n v) vs = _
    have e1 : at3 (stepL sz R) n v = idxIn (keysOf (R.map (partsOf sz))) (partAt sz (R.getD n.toNat []) v.toNat) := by
      unfold at3 stepL
      rw [getD_map [] hn, getD_map [] (by rw [partsOf_len]; exact hvn), partsOf_get hvn]
    have hm : partAt sz (R.getD n.toNat []) v.toNat ∈ keysOf (R.map (partsOf sz)) := mem_keysOf.mpr ⟨_, List.mem_map.mpr ⟨_, hrm, rfl⟩, mem_partsOf.mpr ⟨_, hvn, rfl⟩⟩
    obtain ⟨i1, i2, i3⟩ := idxIn_get hm
    have hb := idxI_nat hvs
    have h0 := (idxI_bd vs hvs).1
    rw [e1, walk_steps hs (keys_len hs hR) i1 hl' hvs, i2, partAt_get hs hr (by rw [← hl']; exact hb), idxI_cons, hl']
    congr 1
    have e2 : v = (v.toNat : Int) := by omega
    have e3 : idxI sz vs = ((idxI sz vs).toNat : Int) := by omega
    rw [e3, e2, ← Int.natCast_pow, ← Int.natCast_mul, ← Int.natCast_add, Int.toNat_natCast, Int.toNat_natCast, Int.toNat_natCast]
/-- the steps' numbers stand within the next step -/
def okS (sz : Nat) : List (List (List Int)) → Nat → Prop
  | [], _ => True
  | L :: S, w => L.length = w ∧ (∀ row ∈ L, row.length = sz) ∧ ∃ w' : Nat, (∀ row ∈ L, ∀ x ∈ row, S ≠ [] → 0 ≤ x ∧ x < (w' : Int)) ∧ okS sz S w'
theorem okS_steps {sz : Nat} : ∀ {m : Nat} (R : List (List Int)), okS sz (stepsFrom sz (m + 1) R) R.length
  | 0, R => by
    refine ⟨by unfold lastL; rw [List.length_map], fun row h => ?_, 0, fun row _ x _ q => absurd rfl q, trivial⟩
    obtain ⟨r, _, rfl⟩ := List.mem_map.mp h
    rw [List.length_map, partsOf_len]
  | m + 1, R => by
    refine ⟨by unfold stepL; rw [List.length_map], fun row h => ?_, (keysOf (R.map (partsOf sz))).length, fun row h x hx _ => ?_, okS_steps _⟩
    · obtain ⟨r, _, rfl⟩ := List.mem_map.mp h
      rw [List.length_map, partsOf_len]
    · obtain ⟨r, hr, rfl⟩ := List.mem_map.mp h
      obtain ⟨p, hp, rfl⟩ := List.mem_map.mp hx
      obtain ⟨i1, _, i3⟩ := idxIn_get (mem_keysOf.mpr ⟨_, List.mem_map.mpr ⟨r, hr, rfl⟩, hp⟩)
      omega
theorem stepsFrom_len {sz : Nat} : ∀ {m : Nat} {R : List (List Int)}, (stepsFrom sz (m + 1) R).length = m + 1
  | 0, R => rfl
  | m + 1, R => by
    show (stepsFrom sz (m + 1) _).length + 1 = _
    rw [stepsFrom_len]
/-! the search for the least tuple of rows that is carried out -/
def stepSt (L : List (List Int)) (st r : List Int) : List Int := List.zipWith (at3 L) st r
def srch (rows : List (List Int)) : List (List (List Int)) → List Int → Option (List (List Int))
  | [], st => if st ∈ rows then none else some []
  | L :: S, st => rows.findSome? fun r => (srch rows S (stepSt L st r)).map (r :: ·)
def finalSt : List (List (List Int)) → List Int → List (List Int) → List Int
  | L :: S, st, r :: t => finalSt S (stepSt L st r) t
  | _, st, _ => st
def tuples (rows : List (List Int)) : Nat → List (List (List Int))
  | 0 => [[]]
  | n + 1 => rows.flatMap fun r => (tuples rows n).map (r :: ·)
theorem srch_find (rows : List (List Int)) : ∀ (S : List (List (List Int))) (st : List Int), srch rows S st = (tuples rows S.length).find? fun t => decide (finalSt S st t ∉ rows)
  | [], st => by
    show (if st ∈ rows then none else some []) = [[]].find? _
    by_cases h : st ∈ rows
    · rw [if_pos h, List.find?_cons_of_neg (by simp [finalSt, h])]
      rfl
    · rw [if_neg h, List.find?_cons_of_pos (by simp [finalSt, h])]
  | L :: S, st => by
    show (rows.findSome? fun r => (srch rows S (stepSt L st r)).map (r :: ·)) = (rows.flatMap fun r => (tuples rows S.length).map (r :: ·)).find? _
    rw [List.find?_flatMap]
    congr 1
    funext r
    rw [List.find?_map, srch_find rows S (stepSt L st r)]
    rfl
theorem stepSt_range {L : List (List Int)} {ar : Nat} {f : Nat → Int} {r : List Int} (h : r.length = ar) : stepSt L ((List.range ar).map f) r = (List.range ar).map fun a => at3 L (f a) (r.getD a 0) := by
  unfold stepSt
  refine List.ext_getElem? fun i => ?_
  rw [List.getElem?_zipWith, List.getElem?_map, List.getElem?_map]
  by_cases hi : i < ar
  · have hr : i < r.length := by omega
    have e : r.getD i 0 = r[i] := by
      rw [List.getD_eq_getElem?_getD, List.getElem?_eq_getElem hr]
      rfl
    rw [List.getElem?_range hi, List.getElem?_eq_getElem hr]
    show some (at3 L (f i) r[i]) = some (at3 L (f i) (r.getD i 0))
    rw [e]
  · rw [List.getElem?_eq_none (by rw [List.length_range]; omega)]
    rfl
theorem finalSt_range {ar : Nat} : ∀ {S : List (List (List Int))} {f : Nat → Int} {t : List (List Int)}, (∀ r ∈ t, r.length = ar) → t.length = S.length → finalSt S ((List.range ar).map f) t = (List.range ar).map fun a => walkS S (f a) (t.map fun r => r.getD a 0)
  | [], f, [], _, _ => rfl
  | L :: S, f, r :: t, h, hl => by
    show finalSt S (stepSt L _ r) t = _
    rw [stepSt_range (h r List.mem_cons_self), finalSt_range (fun q hq => h q (List.mem_cons_of_mem _ hq)) (by simpa using hl)]
    rfl
theorem mem_tuples {rows : List (List Int)} : ∀ {n : Nat} {t : List (List Int)}, t ∈ tuples rows n → t.length = n ∧ ∀ r ∈ t, r ∈ rows
  | 0, t, h => by
    have : t = [] := by simpa [tuples] using h
    subst this
    exact ⟨rfl, fun r hr => by simp at hr⟩
  | n + 1, t, h => by
    obtain ⟨r, hr, h⟩ := List.mem_flatMap.mp h
    obtain ⟨t', ht, rfl⟩ := List.mem_map.mp h
    obtain ⟨h1, h2⟩ := mem_tuples ht
    exact ⟨by rw [List.length_cons, h1], fun q hq => (List.mem_cons.mp hq).elim (fun e => e ▸ hr) (h2 q)⟩
theorem find_congr {α : Type} {p q : α → Bool} : ∀ {l : List α}, (∀ x ∈ l, p x = q x) → l.find? p = l.find? q
  | [], _ => rfl
  | x :: l, h => by
    rw [List.find?_cons, List.find?_cons, h x List.mem_cons_self, find_congr fun y hy => h y (List.mem_cons_of_mem _ hy)]
/-- the least tuple of rows that is carried out, None if there is none -/
def breakOf (sz : Nat) (tab : List Int) (k ar : Nat) (rows : List (List Int)) : Option (List (List Int)) := (tuples rows k).find? fun t => decide (carried sz tab t ar ∉ rows)
theorem srch_break {sz k ar : Nat} {tab : List Int} {rows : List (List Int)} (hs : 1 ≤ sz) (hk : 1 ≤ k) (ht : tab.length = sz ^ k) (hr : ∀ r ∈ rows, r.length = ar ∧ ∀ x ∈ r, 0 ≤ x ∧ x < (sz : Int)) :
    srch rows (stepsFrom sz k [tab]) ((List.range ar).map fun _ => 0) = breakOf sz tab k ar rows := by
  obtain ⟨m, rfl⟩ : ∃ m, k = m + 1 := ⟨k - 1, by omega⟩
  rw [srch_find, stepsFrom_len]
  unfold breakOf
  refine find_congr fun t h => ?_
  obtain ⟨h1, h2⟩ := mem_tuples h
  rw [finalSt_range (fun r q => (hr r (h2 r q)).1) (by rw [h1, stepsFrom_len])]
  unfold carried
  · have e : ((List.range ar).map fun a => walkS (stepsFrom sz (m + 1) [tab]) 0 (t.map fun r => r.getD a 0)) = (List.range ar).map fun a => tab.getD (idxI sz (t.map fun r => r.getD a 0)).toNat 0 := by
      refine List.map_congr_left fun a ha => ?_
      have ha := List.mem_range.mp ha
      rw [walk_steps hs (fun r q => by rw [List.mem_singleton.mp q, ht]) (by simp) (by rw [List.length_map, h1]) fun x hx => ?_]
      · rfl
      · obtain ⟨r, hr', rfl⟩ := List.mem_map.mp hx
        obtain ⟨e1, e2⟩ := hr r (h2 r hr')
        rw [List.getD_eq_getElem?_getD, List.getElem?_eq_getElem (show a < r.length by omega)]
        exact e2 _ (List.getElem_mem _)
    exact congrArg (fun z => decide (z ∉ rows)) e
/-! tuples by appending -/
def extT (rows : List (List Int)) (A : List (List (List Int))) : List (List (List Int)) := A.flatMap fun t => rows.map fun x => t ++ [x]
def tuplesR (rows : List (List Int)) : Nat → List (List (List Int))
  | 0 => [[]]
  | n + 1 => extT rows (tuplesR rows n)
theorem extT_cons {rows : List (List Int)} {r : List Int} {A : List (List (List Int))} : extT rows (A.map (r :: ·)) = (extT rows A).map (r :: ·) := by
  unfold extT
  rw [List.flatMap_map, List.map_flatMap]
  congr 1
  funext t
  rw [List.map_map]
  rfl
theorem extT_flat {rows : List (List Int)} {β : Type} {l : List β} {f : β → List (List (List Int))} : extT rows (l.flatMap f) = l.flatMap fun b => extT rows (f b) := by
  unfold extT
  rw [List.flatMap_assoc]
theorem tuples_ext (rows : List (List Int)) : ∀ n, tuples rows (n + 1) = extT rows (tuples rows n)
  | 0 => by
    show (rows.flatMap fun r => [[]].map (r :: ·)) = [[]].flatMap fun t => rows.map fun x => t ++ [x]
    simp [List.flatMap]
    induction rows with
    | nil => rfl
    | cons r rows ih => simp [ih]
  | n + 1 => by
    show (rows.flatMap fun r => (tuples rows (n + 1)).map (r :: ·)) = extT rows (rows.flatMap fun r => (tuples rows n).map (r :: ·))
    rw [extT_flat]
    congr 1
    funext r
    rw [tuples_ext rows n, extT_cons]
theorem tuplesR_eq (rows : List (List Int)) : ∀ n, tuplesR rows n = tuples rows n
  | 0 => rfl
  | n + 1 => by
    show extT rows (tuplesR rows n) = _
    rw [tuplesR_eq rows n, tuples_ext]
theorem tuples_len (rows : List (List Int)) : ∀ n, (tuples rows n).length = rows.length ^ n
  | 0 => rfl
  | n + 1 => by
    show (rows.flatMap fun r => (tuples rows n).map (r :: ·)).length = _
    rw [List.length_flatMap]
    have : (rows.map fun r => ((tuples rows n).map (r :: ·)).length) = rows.map fun _ => rows.length ^ n := by
      refine List.map_congr_left fun r _ => ?_
      rw [List.length_map, tuples_len rows n]
    rw [this, Nat.pow_succ, Nat.mul_comm]
    generalize rows.length ^ n = c
    clear this
    induction rows with
    | nil => simp
    | cons r rows ih => rw [List.map_cons, List.sum_cons, ih, List.length_cons, Nat.add_mul]; omega
/-! as many rows as there are -/
theorem len_le_of_sub : ∀ {l m : List (List Int)}, l.Nodup → (∀ x ∈ l, x ∈ m) → l.length ≤ m.length
  | [], _, _, _ => Nat.zero_le _
  | a :: l, m, nd, h => by
    obtain ⟨h1, h2⟩ := List.nodup_cons.mp nd
    have ha := h a List.mem_cons_self
    have := len_le_of_sub (m := m.erase a) h2 fun x hx => (List.mem_erase_of_ne (fun (e : x = a) => h1 (by rw [← e]; exact hx))).mpr (h x (List.mem_cons_of_mem _ hx))
    rw [List.length_erase_of_mem ha] at this
    have : 0 < m.length := List.length_pos_of_mem ha
    rw [List.length_cons]
    omega
theorem all_of_len {l m : List (List Int)} (nd : l.Nodup) (h : ∀ x ∈ l, x ∈ m) (hl : m.length ≤ l.length) : ∀ x ∈ m, x ∈ l := fun x hx => by
  by_cases q : x ∈ l
  · exact q
  · have := len_le_of_sub (l := x :: l) (m := m) (List.nodup_cons.mpr ⟨q, nd⟩) fun y hy => (List.mem_cons.mp hy).elim (fun e => e ▸ hx) (h y)
    rw [List.length_cons] at this
    omega
theorem mem_allRows {sz : Nat} : ∀ {n : Nat} {r : List Int}, r.length = n → (∀ x ∈ r, 0 ≤ x ∧ x < (sz : Int)) → r ∈ allRows sz n
  | 0, r, h, _ => by
    have : r = [] := List.length_eq_zero_iff.mp h
    subst this
    exact List.mem_singleton.mpr rfl
  | n + 1, r, h, hx => by
    have hne : r ≠ [] := fun z => by simp [z] at h
    have e := List.dropLast_concat_getLast hne
    have hl := hx _ (List.getLast_mem hne)
    rw [← e]
    exact mem_ext.mpr ⟨r.dropLast, mem_allRows (by rw [List.length_dropLast, h]; rfl) fun x q => hx x ((List.dropLast_sublist r).subset q), (r.getLast hne).toNat, by omega, by congr 2; omega⟩
theorem full_no_break {sz k ar : Nat} {tab : List Int} {rows : List (List Int)} (hs : 1 ≤ sz) (hv : ∀ x ∈ tab, 0 ≤ x ∧ x < (sz : Int)) (nd : rows.Nodup) (hr : ∀ r ∈ rows, r.length = ar ∧ ∀ x ∈ r, 0 ≤ x ∧ x < (sz : Int)) (hl : rows.length = sz ^ ar) : breakOf sz tab k ar rows = none := by
  unfold breakOf
  refine List.find?_eq_none.mpr fun t _ q => ?_
  have q : carried sz tab t ar ∉ rows := of_decide_eq_true q
  exact q (all_of_len nd (fun x hx => mem_allRows (hr x hx).1 (hr x hx).2) (by rw [allRows_len, hl]; exact Nat.le_refl _) _ (mem_allRows (carried_len sz tab t ar) (carried_ok hv hs)))
end MR

set_option Elab.async false
set_option linter.all false
namespace MR
/-- what the operation makes of rows is a row -/
def Shut (sz k : Nat) (tab : List Int) (ar : Nat) (rs : List (List Int)) : Prop := ∀ t : List (List Int), t.length = k → (∀ r ∈ t, r ∈ rs) → carried sz tab t ar ∈ rs
def Over (sz k : Nat) (tab : List Int) (ar : Nat) (rows S : List (List Int)) : Prop := (∀ r ∈ rows, r ∈ S) ∧ Shut sz k tab ar S
/-- the closure of rows -/
structure Least (sz k : Nat) (tab : List Int) (ar : Nat) (rows rs : List (List Int)) : Prop where
  sub : ∀ r ∈ rows, r ∈ rs
  shut : Shut sz k tab ar rs
  least : ∀ S, Over sz k tab ar rows S → ∀ r ∈ rs, r ∈ S
theorem Shut.perm {sz k : Nat} {tab : List Int} {ar : Nat} {rs keys : List (List Int)} (p : rs.Perm keys) (h : Shut sz k tab ar keys) : Shut sz k tab ar rs := fun t tl tr => p.mem_iff.mpr (h t tl fun r hr => p.mem_iff.mp (tr r hr))
theorem Least.of {sz k : Nat} {tab : List Int} {ar : Nat} {rows rs keys : List (List Int)} (p : rs.Perm keys) (h : Shut sz k tab ar keys) (s : ∀ r ∈ rows, r ∈ keys) (l : ∀ S, Over sz k tab ar rows S → ∀ r ∈ keys, r ∈ S) : Least sz k tab ar rows rs :=
  ⟨fun r hr => p.mem_iff.mpr (s r hr), h.perm p, fun S o r hr => l S o r (p.mem_iff.mp hr)⟩
theorem tuples_mem {rows : List (List Int)} : ∀ {n : Nat} {t : List (List Int)}, t.length = n → (∀ r ∈ t, r ∈ rows) → t ∈ tuples rows n
  | 0, t, h, _ => by
    rw [List.length_eq_zero_iff.mp h]
    simp [tuples]
  | n + 1, [], h, _ => by simp at h
  | n + 1, r :: t, h, q => by
    simp only [tuples, List.mem_flatMap, List.mem_map]
    exact ⟨r, q r List.mem_cons_self, t, tuples_mem (by simpa using h) (fun x hx => q x (List.mem_cons_of_mem _ hx)), rfl⟩
theorem shut_no_break {sz k ar : Nat} {tab : List Int} {rows : List (List Int)} (h : Shut sz k tab ar rows) : breakOf sz tab k ar rows = none := by
  unfold breakOf
  refine List.find?_eq_none.mpr fun t ht z => ?_
  obtain ⟨tl, tr⟩ := mem_tuples ht
  exact (of_decide_eq_true z) (h t tl tr)
end MR

set_option Elab.async false
set_option linter.all false
namespace MR
theorem carried_getD {sz ar a : Nat} {tab : List Int} {t : List (List Int)} (h : a < ar) : (carried sz tab t ar).getD a 0 = tab.getD (idxI sz (t.map fun r => r.getD a 0)).toNat 0 := by
  unfold carried
  rw [List.getD_eq_getElem?_getD, List.getElem?_map, List.getElem?_range h]
  rfl
theorem shut_both {sz k ar : Nat} {tab : List Int} {r1 r2 : List (List Int)} (h1 : Shut sz k tab ar r1) (h2 : Shut sz k tab ar r2) : Shut sz k tab ar (r1.filter fun r => decide (r ∈ r2)) := fun t tl tr => by
  refine List.mem_filter.mpr ⟨h1 t tl fun r hr => (List.mem_filter.mp (tr r hr)).1, ?_⟩
  exact decide_eq_true (h2 t tl fun r hr => of_decide_eq_true (List.mem_filter.mp (tr r hr)).2)
theorem shut_glue {sz k ar a b : Nat} {tab : List Int} {rows : List (List Int)} (h : Shut sz k tab ar rows) (ha : a < ar) (hb : b < ar) : Shut sz k tab ar (glue rows a b) := fun t tl tr => by
  refine List.mem_filter.mpr ⟨h t tl fun r hr => (List.mem_filter.mp (tr r hr)).1, decide_eq_true ?_⟩
  rw [carried_getD ha, carried_getD hb]
  have e : (t.map fun r => r.getD a 0) = t.map fun r => r.getD b 0 := List.map_congr_left fun r hr => of_decide_eq_true (List.mem_filter.mp (tr r hr)).2
  rw [e]
theorem choose_all {α β : Type} {f : α → β} {rows : List α} : ∀ {t : List β}, (∀ x ∈ t, x ∈ rows.map f) → ∃ t' : List α, t = t'.map f ∧ ∀ r ∈ t', r ∈ rows
  | [], _ => ⟨[], rfl, fun r hr => by simp at hr⟩
  | x :: t, h => by
    obtain ⟨r, hr, e⟩ := List.mem_map.mp (h x List.mem_cons_self)
    obtain ⟨t', e', h'⟩ := choose_all fun y hy => h y (List.mem_cons_of_mem _ hy)
    exact ⟨r :: t', by rw [List.map_cons, e, ← e'], fun q hq => (List.mem_cons.mp hq).elim (fun z => z ▸ hr) (h' q)⟩
theorem shut_pick {sz k ar : Nat} {tab : List Int} {rows qs : List (List Int)} {ps : List Nat} (h : Shut sz k tab ar rows) (hp : ∀ p ∈ ps, p < ar) (hq : ∀ x, x ∈ qs ↔ x ∈ rows.map fun r => ps.map fun p => r.getD p 0) : Shut sz k tab ps.length qs := fun t tl tr => by
  obtain ⟨t', rfl, h'⟩ := choose_all fun x hx => (hq x).mp (tr x hx)
  rw [List.length_map] at tl
  refine (hq _).mpr (List.mem_map.mpr ⟨carried sz tab t' ar, h t' tl h', ?_⟩)
  have e2 : carried sz tab (t'.map fun r => ps.map fun p => r.getD p 0) ps.length = (List.range ps.length).map fun i => tab.getD (idxI sz (t'.map fun r => r.getD (ps.getD i 0) 0)).toNat 0 := by
    unfold carried
    refine List.map_congr_left fun i hi => ?_
    have hi := List.mem_range.mp hi
    rw [List.map_map]
    have e : ((fun r : List Int => r.getD i 0) ∘ fun r : List Int => ps.map fun p => r.getD p 0) = fun r : List Int => r.getD (ps.getD i 0) 0 := by
      funext r
      show (ps.map fun p => r.getD p 0).getD i 0 = _
      rw [List.getD_eq_getElem?_getD, List.getElem?_map, List.getElem?_eq_getElem hi, List.getD_eq_getElem?_getD (l := ps), List.getElem?_eq_getElem hi]
      rfl
    rw [e]
  rw [e2]
  refine List.ext_getElem (by rw [List.length_map, List.length_map, List.length_range]) fun i h1 h2 => ?_
  rw [List.length_map] at h1
  rw [List.getElem_map, List.getElem_map, List.getElem_range, carried_getD (hp _ (List.getElem_mem h1)), List.getD_eq_getElem?_getD (l := ps), List.getElem?_eq_getElem h1]
  rfl
theorem shut_prod {sz k ar br : Nat} {tab : List Int} {r1 r2 : List (List Int)} (h1 : Shut sz k tab ar r1) (h2 : Shut sz k tab br r2) (l1 : ∀ r ∈ r1, r.length = ar) (l2 : ∀ r ∈ r2, r.length = br) : Shut sz k tab (ar + br) (prod r1 r2) := fun t tl tr => by
  have parts : ∀ r ∈ t, r.take ar ∈ r1 ∧ r.drop ar ∈ r2 := fun r hr => by
    obtain ⟨a, ha, z⟩ := List.mem_flatMap.mp (tr r hr)
    obtain ⟨b, hb, rfl⟩ := List.mem_map.mp z
    rw [← l1 a ha, List.take_left, List.drop_left]
    exact ⟨ha, hb⟩
  have c1 := h1 (t.map fun r => r.take ar) (by rw [List.length_map]; exact tl) fun r hr => by
    obtain ⟨q, hq, rfl⟩ := List.mem_map.mp hr
    exact (parts q hq).1
  have c2 := h2 (t.map fun r => r.drop ar) (by rw [List.length_map]; exact tl) fun r hr => by
    obtain ⟨q, hq, rfl⟩ := List.mem_map.mp hr
    exact (parts q hq).2
  refine List.mem_flatMap.mpr ⟨_, c1, List.mem_map.mpr ⟨_, c2, ?_⟩⟩
  unfold carried
  rw [List.range_add, List.map_append]
  congr 1
  · refine List.map_congr_left fun a ha => ?_
    rw [List.map_map]
    have e : ((fun r : List Int => r.getD a 0) ∘ fun r : List Int => r.take ar) = fun r : List Int => r.getD a 0 := by
      funext r
      show (r.take ar).getD a 0 = _
      rw [List.getD_eq_getElem?_getD, List.getElem?_take, if_pos (List.mem_range.mp ha), List.getD_eq_getElem?_getD]
    rw [e]
  · rw [List.map_map]
    refine List.map_congr_left fun a ha => ?_
    rw [List.map_map]
    have e : ((fun r : List Int => r.getD a 0) ∘ fun r : List Int => r.drop ar) = fun r : List Int => r.getD (ar + a) 0 := by
      funext r
      show (r.drop ar).getD a 0 = _
      rw [List.getD_eq_getElem?_getD, List.getElem?_drop, List.getD_eq_getElem?_getD]
    rw [e]
    rfl
theorem shut_full {sz k ar : Nat} {tab : List Int} (hs : 1 ≤ sz) (hv : ∀ x ∈ tab, 0 ≤ x ∧ x < (sz : Int)) : Shut sz k tab ar (allRows sz ar) := fun t _ _ => mem_allRows (carried_len sz tab t ar) (carried_ok hv hs)
end MR

set_option Elab.async false
set_option linter.all false
namespace MR
open PySem PySem.Spec PyProof.Rows L2
abbrev Asc (l : List (List Int)) : Prop := l.Pairwise fun r q => HT.lexLt r q = true
theorem lex_same (x y : List Int) : ∀ r : List Int, HT.lexLt (r ++ x) (r ++ y) = HT.lexLt x y
  | [] => rfl
  | a :: r => by rw [List.cons_append, List.cons_append, HT.lexLt_cons, if_pos rfl, lex_same x y r]
theorem lex_app (x y : List Int) : ∀ {r q : List Int}, r.length = q.length → HT.lexLt r q = true → HT.lexLt (r ++ x) (q ++ y) = true
  | [], [], _, h => by
    rw [lex_irr] at h
    cases h
  | [], _ :: _, h, _ => by simp at h
  | _ :: _, [], h, _ => by simp at h
  | a :: r, b :: q, hl, h => by
    rw [HT.lexLt_cons] at h
    rw [List.cons_append, List.cons_append, HT.lexLt_cons]
    by_cases e : a = b
    · rw [if_pos e] at h ⊢
      exact lex_app x y (by simpa using hl) h
    · rw [if_neg e] at h ⊢
      exact h
theorem asc_flat {l : List (List Int)} {n : Nat} {f : List Int → List (List Int)} (hl : ∀ r ∈ l, r.length = n) (h : Asc l) (hf : ∀ r ∈ l, Asc (f r)) (hs : ∀ r ∈ l, ∀ x ∈ f r, ∃ y, x = r ++ y) : Asc (l.flatMap f) := by
  refine List.pairwise_flatMap.mpr ⟨hf, ?_⟩
  refine List.Pairwise.imp_of_mem (fun {a b} ha hb hab x hx y hy => ?_) h
  obtain ⟨x', rfl⟩ := hs a ha x hx
  obtain ⟨y', rfl⟩ := hs b hb y hy
  exact lex_app x' y' ((hl a ha).trans (hl b hb).symm) hab
theorem prod_asc {r1 r2 : List (List Int)} {n : Nat} (hl : ∀ r ∈ r1, r.length = n) (h1 : Asc r1) (h2 : Asc r2) : Asc (prod r1 r2) :=
  asc_flat hl h1 (fun r _ => List.pairwise_map.mpr (h2.imp fun {a b} h => by rw [lex_same]; exact h)) fun r _ x hx => by
    obtain ⟨y, _, rfl⟩ := List.mem_map.mp hx
    exact ⟨y, rfl⟩
theorem allRows_asc (sz : Nat) : ∀ n, Asc (allRows sz n)
  | 0 => List.pairwise_singleton _ _
  | n + 1 => asc_flat (n := n) (fun r hr => (allRows_ok hr).1) (allRows_asc sz n) (fun r _ => by
      refine List.pairwise_map.mpr ((List.pairwise_lt_range (n := sz)).imp fun {a b} h => ?_)
      rw [lex_same, HT.lexLt_cons, if_neg (by omega)]
      exact decide_eq_true (by omega)) fun r _ x hx => by
    obtain ⟨y, _, rfl⟩ := List.mem_map.mp hx
    exact ⟨_, rfl⟩
end MR

set_option Elab.async false
set_option linter.all false
/-! instances: solutions, variable by variable -/
namespace MR
open PySem PySem.W PyProof.Rows
abbrev RelL := List (Nat × List (List Int))
abbrev ConL := Nat × List Nat
/-- the values of the scope -/
def pkS (s : List Int) (ps : List Nat) : List Int := ps.map fun p => s.getD p 0
def holdB (rels : RelL) (s : List Int) (c : ConL) : Bool := decide (pkS s c.2 ∈ (rels.getD c.1 (0, [])).2)
def meetsB (rels : RelL) (cs : List ConL) (s : List Int) : Bool := cs.all (holdB rels s)
/-- the greatest variable of a scope -/
def maxN : List Nat → Nat
  | [] => 0
  | p :: ps => max p (maxN ps)
theorem le_maxN : ∀ {ps : List Nat} {p : Nat}, p ∈ ps → p ≤ maxN ps
  | p :: ps, q, h => by
    rcases List.mem_cons.mp h with rfl | h
    · exact Nat.le_max_left ..
    · exact Nat.le_trans (le_maxN h) (Nat.le_max_right ..)
theorem maxN_mem : ∀ {ps : List Nat}, ps ≠ [] → maxN ps ∈ ps
  | [p], _ => by simp [maxN]
  | p :: q :: ps, _ => by
    have h := maxN_mem (ps := q :: ps) (by simp)
    show max p (maxN (q :: ps)) ∈ _
    rcases Nat.le_total p (maxN (q :: ps)) with e | e
    · rw [Nat.max_eq_right e]
      exact List.mem_cons_of_mem _ h
    · rw [Nat.max_eq_left e]
      exact List.mem_cons_self
def dueN (cs : List ConL) (k : Nat) : List ConL := cs.filter fun c => decide (maxN c.2 = k)
def moreS (sz : Nat) (rels : RelL) (cs : List ConL) (k m : Nat) (r : List Int) : List (List Int) := ((List.range m).filter fun (v : Nat) => meetsB rels (dueN cs k) (r ++ [(v : Int)])).map fun (v : Nat) => r ++ [(v : Int)]
/-- the solutions of the first k variables, as the law makes them -/
def solsF (sz : Nat) (rels : RelL) (cs : List ConL) : Nat → List (List Int)
  | 0 => [[]]
  | k + 1 => (solsF sz rels cs k).flatMap (moreS sz rels cs k sz)
theorem moreS_succ {sz : Nat} {rels : RelL} {cs : List ConL} {k m : Nat} {r : List Int} : moreS sz rels cs k (m + 1) r = moreS sz rels cs k m r ++ (if meetsB rels (dueN cs k) (r ++ [(m : Int)]) = true then [r ++ [(m : Int)]] else []) := by
  unfold moreS
  rw [List.range_succ, List.filter_append, List.map_append]
  cases h : meetsB rels (dueN cs k) (r ++ [(m : Int)]) <;> simp [h]
theorem solsF_ok {sz : Nat} {rels : RelL} {cs : List ConL} : ∀ {k : Nat} {r : List Int}, r ∈ solsF sz rels cs k → r ∈ allRows sz k
  | 0, r, h => by
    rw [List.mem_singleton.mp h]
    exact mem_allRows rfl fun x hx => by simp at hx
  | k + 1, r, h => by
    obtain ⟨s, hs, h⟩ := List.mem_flatMap.mp h
    obtain ⟨v, hv, rfl⟩ := List.mem_map.mp h
    obtain ⟨l1, l2⟩ := allRows_ok (solsF_ok hs)
    have hv := List.mem_range.mp (List.mem_filter.mp hv).1
    refine mem_allRows (by rw [List.length_append, l1]; rfl) fun x hx => ?_
    rcases List.mem_append.mp hx with hx | hx
    · exact l2 x hx
    · rw [List.mem_singleton.mp hx]
      omega
theorem pkS_app {s : List Int} {v : Int} {ps : List Nat} (h : ∀ p ∈ ps, p < s.length) : pkS (s ++ [v]) ps = pkS s ps := by
  unfold pkS
  refine List.map_congr_left fun p hp => ?_
  rw [List.getD_eq_getElem?_getD, List.getD_eq_getElem?_getD, List.getElem?_append_left (h p hp)]
/-- a row of the last list meets every constraint (with scopes that are not empty) below k -/
theorem solsF_meets {sz : Nat} {rels : RelL} {cs : List ConL} (ne : ∀ c ∈ cs, c.2 ≠ []) : ∀ {k : Nat} {r : List Int}, r ∈ solsF sz rels cs k → ∀ c ∈ cs, maxN c.2 < k → holdB rels r c = true
  | 0, _, _, _, _, h => by omega
  | k + 1, r, h, c, hc, hk => by
    obtain ⟨s, hs, h⟩ := List.mem_flatMap.mp h
    obtain ⟨v, hv, rfl⟩ := List.mem_map.mp h
    obtain ⟨l1, l2⟩ := allRows_ok (solsF_ok hs)
    by_cases e : maxN c.2 = k
    · have m := (List.mem_filter.mp hv).2
      unfold meetsB at m
      exact List.all_eq_true.mp m c (List.mem_filter.mpr ⟨hc, decide_eq_true e⟩)
    · have i := solsF_meets ne hs c hc (by omega)
      unfold holdB at i ⊢
      rw [pkS_app fun p hp => by have := le_maxN hp; omega]
      exact i
theorem solsF_all {sz : Nat} {rels : RelL} {cs : List ConL} : ∀ {k : Nat} {r : List Int}, r ∈ allRows sz k → (∀ c ∈ cs, maxN c.2 < k → holdB rels r c = true) → r ∈ solsF sz rels cs k
  | 0, r, h, _ => by
    have := (allRows_ok h).1
    rw [List.length_eq_zero_iff.mp this]
    exact List.mem_singleton.mpr rfl
  | k + 1, r, h, hc => by
    obtain ⟨l1, l2⟩ := allRows_ok h
    have e : r = r.take k ++ [r.getD k 0] := by
      have e2 : r.take (k + 1) = r := List.take_of_length_le (by omega)
      rw [List.take_add_one, List.getElem?_eq_getElem (by omega)] at e2
      rw [List.getD_eq_getElem?_getD, List.getElem?_eq_getElem (by omega)]
      exact e2.symm
    have tl : (r.take k).length = k := by rw [List.length_take]; omega
    have vb := l2 (r.getD k 0) (by rw [List.getD_eq_getElem?_getD, List.getElem?_eq_getElem (by omega)]; exact List.getElem_mem _)
    generalize r.getD k 0 = v at *
    generalize r.take k = s at *
    subst e
    obtain ⟨v, rfl⟩ := Int.eq_ofNat_of_zero_le vb.1
    refine List.mem_flatMap.mpr ⟨s, solsF_all (mem_allRows tl fun x hx => l2 x (List.mem_append_left _ hx)) fun c hcs hk => ?_, List.mem_map.mpr ⟨v, List.mem_filter.mpr ⟨List.mem_range.mpr (by omega), ?_⟩, rfl⟩⟩
    · have := hc c hcs (by omega)
      unfold holdB at this ⊢
      rwa [pkS_app fun p hp => by have := le_maxN hp; omega] at this
    · unfold meetsB
      rw [List.all_eq_true]
      intro c hcs
      obtain ⟨h1, h2⟩ := List.mem_filter.mp hcs
      exact hc c h1 (by have := of_decide_eq_true h2; omega)
theorem moreS_len {sz : Nat} {rels : RelL} {cs : List ConL} {k m : Nat} {r : List Int} : (moreS sz rels cs k m r).length ≤ m := by
  unfold moreS
  rw [List.length_map]
  exact Nat.le_trans (List.length_filter_le ..) (by rw [List.length_range]; exact Nat.le_refl _)
theorem flat_len {f : List Int → List (List Int)} {m : Nat} (h : ∀ r, (f r).length ≤ m) : ∀ l : List (List Int), (l.flatMap f).length ≤ l.length * m
  | [] => by simp
  | r :: l => by
    rw [List.flatMap_cons, List.length_append, List.length_cons, Nat.add_mul, Nat.one_mul]
    have := flat_len h l
    have := h r
    omega
theorem solsF_len {sz : Nat} {rels : RelL} {cs : List ConL} : ∀ k, (solsF sz rels cs k).length ≤ sz ^ k
  | 0 => by simp [solsF]
  | k + 1 => by
    have := flat_len (f := moreS sz rels cs k sz) (m := sz) (fun r => moreS_len) (solsF sz rels cs k)
    rw [Nat.pow_succ]
    exact Nat.le_trans this (Nat.mul_le_mul_right _ (solsF_len k))
end MR

set_option Elab.async false
set_option linter.all false
namespace TK
open PySem PySem.Spec PyProof.Rows L2
/-- x in a tuple of data, x not in one -/
def rInTu (K : PySem.W.Frag) : R2 := fun x y H Q => ∃ d ds, Dp K H x d ∧ Dp K H y (.tuple ds) ∧ SeqAt.shaped d = true ∧ SeqAt.shaped (.tuple ds) = true ∧ Q (.bl (ds.any fun z => PyData.eqv z d)) H
theorem op_inTu (K : PySem.W.Frag) {X : Cx} (hu : X.A.units + 65 < cLine) (hK : X.K = K := by rfl) : OpR X (compareOp .In) (rInTu K) := by
  subst hK
  intro pins s σ H x y v u Q I rx ry h
  obtain ⟨d, ds, hd, he, sd, se, q⟩ := h
  obtain ⟨as, r1⟩ := Dp.reads I d x v hd rx
  obtain ⟨bs, r2⟩ := Dp.reads I (.tuple ds) y u he ry
  exact SeqAt.in_tuple_reads r2 r1 (SeqAt.canLay_of_shaped se) (SeqAt.canLay_of_shaped sd) (room_in_shaped sd hu) ⟨.bl _, H, I, rfl, q⟩
def rNotInTu (K : PySem.W.Frag) : R2 := fun x y H Q => ∃ d ds, Dp K H x d ∧ Dp K H y (.tuple ds) ∧ SeqAt.shaped d = true ∧ SeqAt.shaped (.tuple ds) = true ∧ Q (.bl (!ds.any fun z => PyData.eqv z d)) H
theorem op_notInTu (K : PySem.W.Frag) {X : Cx} (hu : X.A.units + 65 < cLine) (hK : X.K = K := by rfl) : OpR X (compareOp .NotIn) (rNotInTu K) := by
  subst hK
  intro pins s σ H x y v u Q I rx ry h
  obtain ⟨d, ds, hd, he, sd, se, q⟩ := h
  obtain ⟨as, r1⟩ := Dp.reads I d x v hd rx
  obtain ⟨bs, r2⟩ := Dp.reads I (.tuple ds) y u he ry
  exact SeqAt.notIn_tuple_reads r2 r1 (SeqAt.canLay_of_shaped se) (SeqAt.canLay_of_shaped sd) (room_in_shaped sd hu) ⟨.bl _, H, I, rfl, q⟩
end TK

set_option Elab.async false
set_option linter.all false
set_option maxRecDepth 100000
set_option maxHeartbeats 4000000
namespace K15
open PySem PySem.Spec PyProof.Rows L2 TK MR
variable {P : Program} {w : World} {K : PySem.W.Frag} {mg : Str → Option Value} {base : Heap}
theorem rows_shapedTu (rows : List (List Int)) : SeqAt.shaped (.tuple (rows.map rowD)) = true := by
  have h1 := rows_depth rows
  have h2 : PyData.depth (.tuple (rows.map rowD)) ≤ 64 := by
    simp only [PyData.depth]
    omega
  show (PyData.canLay0 (.tuple (rows.map rowD)) && decide (PyData.depth (.tuple (rows.map rowD)) ≤ 64)) = true
  rw [Bool.and_eq_true]
  exact ⟨by simp only [PyData.canLay0]; exact rows_lay rows, decide_eq_true h2⟩
theorem row_at {s : List Int} {p : Nat} (h : p < s.length) : atI (s.map V.int) (p : Int) = some (.int (s.getD p 0)) := by
  refine atI_nat ?_
  rw [List.getElem?_map, List.getElem?_eq_getElem h, List.getD_eq_getElem?_getD, List.getElem?_eq_getElem h]
  rfl
/-- template[1][which][1] -/
theorem rel_rows {H : Hp} {σ : L2.St} {i j : Nat} {v u : V} {sz : Nat} {rels : Rels} {c : Con} {Q : VK} (hi : σ[i]? = some (some v)) (hj : σ[j]? = some (some u)) (hv : DT K H v (tplD sz rels)) (hu : DT K H u (conD c)) (ix : c.1 < rels.length)
    (q : ∀ b xs, H b = some (.tup xs) → DTs K H xs ((rels.getD c.1 (0, [])).2.map rowD) → Q (.ref b) H) :
    tOp (rIxT K) (tOp (rIxT K) (tOp (rIxT K) (tVar i) (tC (.int 1))) (tOp (rIxT K) (tVar j) (tC (.int 0)))) (tC (.int 1)) σ H Q := by
  obtain ⟨p, b, rfl, hp, hb⟩ := con_inv hu
  refine ixp1 hi hv fun b1 xs hb1 hx => ⟨.ref p, hj, p, _, 0, _, rfl, rfl, .inl (.inl hp), atI_nat (j := 0) rfl, ?_⟩
  obtain ⟨y, ey, dy⟩ := rel_at hx ix
  obtain ⟨oa, ob, zs, rfl, ho1, ho2, ho3⟩ := pair_inv dy
  exact ⟨b1, xs, (c.1 : Int), .ref oa, rfl, rfl, .inl (.inl hb1), atI_nat ey, oa, _, 1, _, rfl, rfl, .inl (.inl ho1), atI_nat (j := 1) rfl, q ob zs ho2 ho3⟩
/-! _law_meets -/
def sp_law_meets (K : PySem.W.Frag) : Sp := fun vs H Q _ => ∃ (sz : Nat) (v u : V) (p : Addr) (rels : Rels) (cs : List Con) (s : List Int), vs = [v, .ref p, u] ∧ DT K H v (tplD sz rels) ∧ LD K H p (cs.map conD) ∧ DT K H u (rowD s) ∧ (∀ c ∈ cs, c.1 < rels.length ∧ c.2.length ≤ 100 ∧ ∀ q ∈ c.2, q < s.length) ∧ ∀ H', Gr H H' → Q (.bl (meetsB rels cs s)) H'
end K15

set_option Elab.async false
set_option linter.all false
set_option maxRecDepth 100000
set_option maxHeartbeats 4000000
namespace K15
open PySem PySem.Spec PyProof.Rows L2 TK MR
variable {P : Program} {w : World} {K : PySem.W.Frag} {mg : Str → Option Value} {base : Heap}
theorem max_fold : ∀ (qs : List Nat) (p : Nat), (natL qs).foldl max (p : Int) = ((max p (maxN qs) : Nat) : Int)
  | [], p => by show (p : Int) = ((max p 0 : Nat) : Int); rw [Nat.max_zero]
  | q :: qs, p => by
    show (natL qs).foldl max (max (p : Int) (q : Int)) = _
    rw [show max (p : Int) (q : Int) = ((max p q : Nat) : Int) by omega, max_fold qs (max p q)]
    show _ = ((max p (max q (maxN qs)) : Nat) : Int)
    rw [Nat.max_assoc]
/-- told + (value,) -/
theorem cat_row {σ : L2.St} {H : Hp} {i j : Nat} {t : Addr} {r : List Int} {m : Int} {Q : VK} (hi : σ[i]? = some (some (.ref t))) (ht : H t = some (.tup (r.map V.int))) (hj : σ[j]? = some (some (.int m))) (few : r.length ≤ 100)
    (q : ∀ t' H', Gr H H' → DT K H' (.ref t') (rowD (r ++ [m])) → Q (.ref t') H') : tOp (rCatA K) (tVar i) (tTup (tCons (tVar j) tNil)) σ H Q := by
  refine ⟨.ref t, hi, .int m, hj, by show 1 ≤ sizeLine; decide, fun a na => ?_⟩
  have ga : Gr H (upd H a (.tup [.int m])) := Gx.new na
  have ha : (upd H a (.tup [.int m])) a = some (.tup [.int m]) := upd_same
  have ht' := Gx.tupS ga .nil ht
  generalize upd H a (.tup [.int m]) = H1 at *
  refine ⟨t, a, _, _, rfl, rfl, .inl (.inl ht'), .inl (.inl ha), ?_, fun z => ?_, fun _ z => (by cases z), fun _ _ b nb => ?_⟩
  · rw [List.length_map]
    exact Nat.le_of_lt (small1000 (by show r.length + 1 ≤ 1000; omega))
  · have e : r = [] := List.map_eq_nil_iff.mp z
    subst e
    exact q a H1 ga (.row ha)
  · refine q b _ (ga.trans (Gx.new nb)) (.row ?_)
    rw [upd_same, List.map_append]
    rfl
theorem vk_eq {ps : List Nat} {l : List Nat} {p k : Nat} (e : l = p :: ps) : decide (V.int ((max p (maxN ps) : Nat) : Int) = V.int (k : Int)) = decide (maxN l = k) := decide_eq_decide.mpr (by
  subst e
  show _ ↔ max p (maxN ps) = k
  constructor
  · intro h
    injection h with h
    omega
  · intro h
    rw [h])
theorem due_take {cs : List Con} {k i : Nat} {c : Con} (e : cs[i]? = some c) : dueN (cs.take (i + 1)) k = dueN (cs.take i) k ++ (if maxN c.2 = k then [c] else []) := by
  unfold dueN
  rw [List.take_add_one, e, List.filter_append]
  by_cases h : maxN c.2 = k <;> simp [h]
theorem due_len (cs : List ConL) (k : Nat) : (dueN cs k).length ≤ cs.length := List.length_filter_le ..
/-! _law_solutions -/
def sp_law_solutions (K : PySem.W.Frag) : Sp := fun vs H Q _ => ∃ (sz n : Nat) (v u : V) (rels : Rels) (cs : List Con), vs = [v, u] ∧ (1 ≤ sz ∧ sz ≤ 4) ∧ DT K H v (tplD sz rels) ∧ DT K H u (insD n cs) ∧ InsOk rels n cs ∧ RelsOk sz rels ∧ sz ^ n ≤ 1000000 ∧ ∀ p H', Gr H H' → LR K H' p (solsF sz rels cs n) → Q (.ref p) H'
end K15

set_option Elab.async false
set_option linter.all false
set_option maxRecDepth 100000
set_option maxHeartbeats 4000000
namespace K15
open PySem PySem.Spec PyProof.Rows L2 TK MR
variable {P : Program} {w : World} {K : PySem.W.Frag} {mg : Str → Option Value} {base : Heap}
theorem fn_or {CX : CXT} {k : Nat} {f : Addr} {fd : FuncData} {ps : List Str} {sp sp' : Sp} (F : FnOk P w K mg base CX k f fd ps sp) (G : FnOk P w K mg base CX k f fd ps sp') : FnOk P w K mg base CX k f fd ps (fun vs H Q E => sp vs H Q E ∨ sp' vs H Q E) :=
  ⟨fun vs H Q E h => h.elim (F.len vs H Q E) (G.len vs H Q E), fun A outer s H args us vs Q E hr e b r h => h.elim (F.run A outer s H args us vs Q E hr e b r) (G.run A outer s H args us vs Q E hr e b r)⟩
/-! _law_alike of None and of truth values -/
def sp_alike_non : Sp := fun vs H Q _ => vs = [.non, .non] ∧ ∀ H', Gr H H' → Q (.bl true) H'
theorem ok_alike_non (T : Txt K mg base) : FnOk P w K mg base CX0 1 T.law_alike.f T.law_alike.fd p_law_alike sp_alike_non := by
  refine T.law_alike.F.ok sc_law_alike (fun vs H Q E h => ?_) (fun A outer s H vs Q E hr h => ?_)
  · obtain ⟨rfl, _⟩ := h
    rfl
  · obtain ⟨rfl, q⟩ := h
    refine ⟨_, pss_cons (ps_if (pt_val (pe_callB call_isiT (by rfl) T.b_isinstance boot_isinstance (pa_cons (pv 1) (pa_cons (pe_tup (pa_cons (pe_bltn (v := .ty "tuple") (by rfl) T.b_tuple boot_tuple rfl) (pa_cons (pe_bltn (v := .ty "list") (by rfl) T.b_list boot_list rfl) pa_nil))) pa_nil)))) (pss_cons ps_never (pss_cons ps_never (pss_one ps_never))) pss_nil)
        (pss_cons (ps_if (PW.pt (pw_or (pt_cmpR op_isN (pv 1) pe_non (nomark _)) (pw_or1 (pt_val (pe_callB call_isi (by rfl) T.b_isinstance boot_isinstance (pa_cons (pv 1) (pa_cons (pe_bltn (v := .ty "str") (by rfl) T.b_str boot_str rfl) pa_nil)))))))
          (pss_one (ps_ret (pe_and (pe_cmpR op_eq (pv 0) (pv 1) (nomark _)) (pe_one (pe_cmpR op_eq (pe_callB call_isi (by rfl) T.b_isinstance boot_isinstance (pa_cons (pv 0) (pa_cons (pe_bltn (v := .ty "str") (by rfl) T.b_str boot_str rfl) pa_nil))) (pe_callB call_isi (by rfl) T.b_isinstance boot_isinstance (pa_cons (pv 1) (pa_cons (pe_bltn (v := .ty "str") (by rfl) T.b_str boot_str rfl) pa_nil))) (nomark _)))))) pss_nil)
        (pss_one ps_never)), ?_⟩
    have tyN : ∀ {H : Hp}, TyX K H .non (.type "NoneType") := .base .non
    have anyN : PySem.W.kitAny K (.type "NoneType") [.type "tuple", .type "list"] = some false := kitAny_cons (b := false) (kit_ty (by decide +kernel)) (fun _ => kitAny_cons (b := false) (kit_ty (by decide +kernel)) (fun _ => kitAny_nil) fun z => by cases z) fun z => by cases z
    refine ⟨.non, rfl, by show 2 ≤ sizeLine; decide, fun t nt => ?_⟩
    have g1 : Gr H (upd H t (.tup [.ty "tuple", .ty "list"])) := Gx.new nt
    refine ⟨.non, t, _, .type "NoneType", _, false, rfl, upd_same, .cons (.ty _) (.cons (.ty _) .nil), tyN, anyN, false, rfl, iteF ?_⟩
    refine ⟨.non, rfl, rfl, _, rfl, ?_⟩
    rw [show decide (V.non = V.non) = true by simp]
    refine iteT ⟨.non, rfl, .non, rfl, rfl, _, rfl, ?_⟩
    rw [show decide (V.non = V.non) = true by simp]
    refine iteT ⟨.non, rfl, .non, .ty "str", _, _, false, rfl, .ty _, tyN, kit_ty (by decide +kernel), .non, rfl, .non, .ty "str", _, _, false, rfl, .ty _, tyN, kit_ty (by decide +kernel), rfl, ?_⟩
    rw [show decide (V.bl false = V.bl false) = true by simp]
    exact q _ g1
def sp_alike_bl : Sp := fun vs H Q _ => ∃ b, vs = [.bl b, .bl b] ∧ ∀ H', Gr H H' → Q (.bl true) H'
theorem ok_alike_bl (T : Txt K mg base) : FnOk P w K mg base CX0 1 T.law_alike.f T.law_alike.fd p_law_alike sp_alike_bl := by
  refine T.law_alike.F.ok sc_law_alike (fun vs H Q E h => ?_) (fun A outer s H vs Q E hr h => ?_)
  · obtain ⟨_, rfl, _⟩ := h
    rfl
  · obtain ⟨b, rfl, q⟩ := h
    refine ⟨_, pss_cons (ps_if (pt_val (pe_callB call_isiT (by rfl) T.b_isinstance boot_isinstance (pa_cons (pv 1) (pa_cons (pe_tup (pa_cons (pe_bltn (v := .ty "tuple") (by rfl) T.b_tuple boot_tuple rfl) (pa_cons (pe_bltn (v := .ty "list") (by rfl) T.b_list boot_list rfl) pa_nil))) pa_nil)))) (pss_cons ps_never (pss_cons ps_never (pss_one ps_never))) pss_nil)
        (pss_cons (ps_if (PW.pt (pw_or (pt_cmpR op_isN (pv 1) pe_non (nomark _)) (pw_or1 (pt_val (pe_callB call_isi (by rfl) T.b_isinstance boot_isinstance (pa_cons (pv 1) (pa_cons (pe_bltn (v := .ty "str") (by rfl) T.b_str boot_str rfl) pa_nil))))))) (pss_one ps_never) pss_nil)
        (pss_one (ps_ret (pe_and (pe_callB call_isi (by rfl) T.b_isinstance boot_isinstance (pa_cons (pv 0) (pa_cons (pe_bltn (v := .ty "int") (by rfl) T.b_int boot_int rfl) pa_nil)))
          (pe_and (pe_cmpR op_eq (pe_callB call_isi (by rfl) T.b_isinstance boot_isinstance (pa_cons (pv 0) (pa_cons (pe_bltn (v := .ty "bool") (by rfl) T.b_bool boot_bool rfl) pa_nil))) (pe_callB call_isi (by rfl) T.b_isinstance boot_isinstance (pa_cons (pv 1) (pa_cons (pe_bltn (v := .ty "bool") (by rfl) T.b_bool boot_bool rfl) pa_nil))) (nomark _))
            (pe_one (pe_cmpR op_eq (pv 0) (pv 1) (nomark _)))))))), ?_⟩
    have tyB : ∀ {H : Hp}, TyX K H (.bl b) (.type "bool") := .base (.bl b)
    have anyB : PySem.W.kitAny K (.type "bool") [.type "tuple", .type "list"] = some false := kitAny_cons (b := false) (kit_ty (by decide +kernel)) (fun _ => kitAny_cons (b := false) (kit_ty (by decide +kernel)) (fun _ => kitAny_nil) fun z => by cases z) fun z => by cases z
    refine ⟨.bl b, rfl, by show 2 ≤ sizeLine; decide, fun t nt => ?_⟩
    have g1 : Gr H (upd H t (.tup [.ty "tuple", .ty "list"])) := Gx.new nt
    refine ⟨.bl b, t, _, .type "bool", _, false, rfl, upd_same, .cons (.ty _) (.cons (.ty _) .nil), tyB, anyB, false, rfl, iteF ?_⟩
    refine ⟨.bl b, rfl, rfl, _, rfl, ?_⟩
    rw [show decide (V.bl b = V.non) = false by simp]
    refine iteF ⟨.bl b, rfl, .bl b, .ty "str", _, _, false, rfl, .ty _, tyB, kit_ty (by decide +kernel), false, rfl, iteF ?_⟩
    refine ⟨.bl b, rfl, .bl b, .ty "int", _, _, true, rfl, .ty _, tyB, kit_ty (by decide +kernel), true, rfl, iteT ?_⟩
    refine ⟨.bl b, rfl, .bl b, .ty "bool", _, _, true, rfl, .ty _, tyB, kit_ty (by decide +kernel), .bl b, rfl, .bl b, .ty "bool", _, _, true, rfl, .ty _, tyB, kit_ty (by decide +kernel), rfl, _, rfl, ?_⟩
    rw [decide_eq_true rfl]
    refine iteT ⟨.bl b, rfl, .bl b, rfl, rfl, ?_⟩
    rw [decide_eq_true rfl]
    exact q _ g1

end K15

set_option Elab.async false
set_option linter.all false
set_option maxRecDepth 100000
set_option maxHeartbeats 4000000
namespace K15
open PySem PySem.Spec PyProof.Rows L2 TK MR
variable {P : Program} {w : World} {K : PySem.W.Frag} {mg : Str → Option Value} {base : Heap}
/-! what a law's text begins with -/
theorem nat_add1 {x : Int} (h : 0 ≤ x) : ∃ n : Nat, 1 + x = (n : Int) := ⟨(1 + x).toNat, by omega⟩
theorem nat_add2 {x : Int} (h : 0 ≤ x) : ∃ n : Nat, 2 + x = (n : Int) := ⟨(2 + x).toNat, by omega⟩
def sp_law (T : Txt K mg base) : Sp := fun vs H Q _ => ∃ (c : Addr) (ns : List Int), vs = [.ref c] ∧ SqL K H c (ns.map V.int) ∧ (H c ≠ none ∨ SqL K (fun _ => none) c (ns.map V.int)) ∧ TT T.tabs H ∧ ∀ H', Q (.bl true) H'
structure LawSt (T : Txt K mg base) (H : Hp) (r c : Addr) (L : List (V × PyData)) : Prop where
  row : RowSt K H r c
  live : Lv K H c
  tabs : TT T.tabs H
  dat : ∀ p ∈ L, DT K H p.1 p.2
section
variable {T : Txt K mg base} {H H' : Hp} {r c : Addr} {L : List (V × PyData)} {v : V} {d : PyData}
theorem LawSt.gx (h : LawSt T H r c L) (g : Gx [r] H H') (hR : RowSt K H' r c) : LawSt T H' r c L :=
  ⟨hR, Lv.gx g hR h.live, g.ttS h.row.ls h.tabs, fun p hp => (h.dat p hp).gx g h.row.ls⟩
theorem LawSt.gr (h : LawSt T H r c L) (g : Gr H H') : LawSt T H' r c L := h.gx g.x (h.row.gr g)
theorem LawSt.add (h : LawSt T H r c L) (hd : DT K H v d) : LawSt T H r c ((v, d) :: L) :=
  ⟨h.row, h.live, h.tabs, fun p hp => (List.mem_cons.mp hp).elim (fun e => by rw [e]; exact hd) (h.dat p)⟩
theorem LawSt.d0 (h : LawSt T H r c ((v, d) :: L)) : DT K H v d := h.dat _ List.mem_cons_self
theorem LawSt.tl {p : V × PyData} (h : LawSt T H r c (p :: L)) : LawSt T H r c L := ⟨h.row, h.live, h.tabs, fun q hq => h.dat q (List.mem_cons_of_mem _ hq)⟩
theorem LawSt.d1 {p : V × PyData} (h : LawSt T H r c (p :: (v, d) :: L)) : DT K H v d := h.tl.d0
/-- row = [script, 0, a number, 0] -/
theorem law_start {ns : List Int} {m : Int} (hS : SqL K H c (ns.map V.int)) (hc : H c ≠ none ∨ SqL K (fun _ => none) c (ns.map V.int)) (hT : TT T.tabs H) (hm : 0 ≤ m ∧ m ≤ 2147483646) (nr : H r = none) : LawSt T (upd H r (.lst [.ref c, .int 0, .int m, .int 0])) r c [] := by
  have hcr : Sep K c r ns := hc.imp_left fun h z => h (by rw [z]; exact nr)
  have g1 : Gr H (upd H r (.lst [.ref c, .int 0, .int m, .int 0])) := Gx.new nr
  have hR1 : RowSt K (upd H r (.lst [.ref c, .int 0, .int m, .int 0])) r c := ⟨ns, 0, m, 0, upd_same, seqL_upd hS hcr, hcr, by omega, by omega, by omega⟩
  exact ⟨hR1, Lv.gx g1.x hR1 (show Lv K H c from hc.imp_right fun h => ⟨ns, h⟩), g1.tt hT, fun p hp => by simp at hp⟩
end
theorem joinX {α : Type} {k : L2.St → Hp → Prop} {st : α → L2.St} {hp : α → Hp} {Pa : α → Prop} {G : Prop} (step : (∀ a, Pa a → k (st a) (hp a)) → G) (rest : ∀ a, Pa a → k (st a) (hp a)) : G := step rest
theorem joinVH {i : Nat} {Pa : V → Hp → Prop} {σ : L2.St} {k : L2.St → Hp → Prop} {G : Prop} (step : (∀ v H, Pa v H → gName i v σ H k) → G) (rest : ∀ v H, Pa v H → gName i v σ H k) : G := step rest
theorem joinV {i : Nat} {Pa : V → Prop} {σ : L2.St} {H : Hp} {k : L2.St → Hp → Prop} {G : Prop} (step : (∀ v, Pa v → gName i v σ H k) → G) (rest : ∀ v, Pa v → gName i v σ H k) : G := step rest
theorem iteN {c : Bool} {A B : Prop} (h : c = false) (b : B) : if c = true then A else B := by rw [h]; exact b
theorem iteY {c : Bool} {A B : Prop} (h : c = true) (a : A) : if c = true then A else B := by rw [h, if_pos rfl]; exact a
end K15

set_option Elab.async false
set_option linter.all false
/-! instances: supported values -/
namespace MR
open PySem PySem.W PyProof.Rows
/-- a row lies in a family of values, at the places of a scope -/
def fitB (fam : List (List Int)) (ps : List Nat) (r : List Int) : Bool := (List.range ps.length).all fun to => decide (r.getD to 0 ∈ fam.getD (ps.getD to 0) [])
def goodB (rels : RelL) (fam : List (List Int)) (c : ConL) (at' : Nat) (value : Int) (r : List Int) : Bool := decide (r.getD at' 0 = value) && fitB fam c.2 r
def supA (rels : RelL) (fam : List (List Int)) (c : ConL) (name : Nat) (value : Int) (at' : Nat) : Bool := !decide (c.2.getD at' 0 = name) || ((rels.getD c.1 (0, [])).2.any (goodB rels fam c at' value))
def supC (rels : RelL) (fam : List (List Int)) (name : Nat) (value : Int) (c : ConL) : Bool := (List.range c.2.length).all (supA rels fam c name value)
/-- the value of the variable stands in a row that is left, of each constraint at each place -/
def supB (rels : RelL) (cs : List ConL) (fam : List (List Int)) (name : Nat) (value : Int) : Bool := cs.all (supC rels fam name value)
/-- the places where a row does not lie in the family -/
def wrongs (fam : List (List Int)) (ps : List Nat) (r : List Int) (k : Nat) : List Int := ((List.range k).filter fun to => !decide (r.getD to 0 ∈ fam.getD (ps.getD to 0) [])).map fun (to : Nat) => (to : Int)
theorem wrongs_succ {fam : List (List Int)} {ps : List Nat} {r : List Int} {k : Nat} : wrongs fam ps r (k + 1) = wrongs fam ps r k ++ (if r.getD k 0 ∈ fam.getD (ps.getD k 0) [] then [] else [(k : Int)]) := by
  unfold wrongs
  rw [List.range_succ, List.filter_append, List.map_append]
  by_cases h : r.getD k 0 ∈ fam.getD (ps.getD k 0) []
  · rw [if_pos h, List.filter_cons, decide_eq_true h]
    rfl
  · rw [if_neg h, List.filter_cons, decide_eq_false h]
    rfl
theorem wrongs_nil {fam : List (List Int)} {ps : List Nat} {r : List Int} : decide (wrongs fam ps r ps.length = []) = fitB fam ps r := by
  unfold wrongs fitB
  rw [Bool.eq_iff_iff, decide_eq_true_iff, List.map_eq_nil_iff, List.filter_eq_nil_iff, List.all_eq_true]
  constructor
  · intro h x hx
    have := h x hx
    simpa using this
  · intro h x hx
    have := h x hx
    simpa using this
theorem wrongs_len {fam : List (List Int)} {ps : List Nat} {r : List Int} {k : Nat} : (wrongs fam ps r k).length ≤ k := by
  unfold wrongs
  rw [List.length_map]
  exact Nat.le_trans (List.length_filter_le ..) (by rw [List.length_range]; exact Nat.le_refl _)
end MR

set_option Elab.async false
set_option linter.all false
/-! arcs: the greatest family of values that is consistent -/
namespace MR
open PySem PySem.W PyProof.Rows
def SubF (f g : List (List Int)) : Prop := ∀ (i : Nat) (x : Int), x ∈ f.getD i [] → x ∈ g.getD i []
theorem SubF.refl (f : List (List Int)) : SubF f f := fun _ _ h => h
theorem SubF.trans {f g h : List (List Int)} (a : SubF f g) (b : SubF g h) : SubF f h := fun i x e => b i x (a i x e)
theorem fitB_mono {f g : List (List Int)} (h : SubF f g) {ps : List Nat} {r : List Int} (e : fitB f ps r = true) : fitB g ps r = true := by
  unfold fitB at e ⊢
  rw [List.all_eq_true] at e ⊢
  exact fun x hx => decide_eq_true (h _ _ (of_decide_eq_true (e x hx)))
theorem supB_mono {rels : RelL} {cs : List ConL} {f g : List (List Int)} (h : SubF f g) {i : Nat} {x : Int} (e : supB rels cs f i x = true) : supB rels cs g i x = true := by
  unfold supB supC at e ⊢
  rw [List.all_eq_true] at e ⊢
  intro c hc
  have e1 := e c hc
  rw [List.all_eq_true] at e1 ⊢
  intro a ha
  have e2 := e1 a ha
  unfold supA at e2 ⊢
  rw [Bool.or_eq_true] at e2 ⊢
  refine e2.imp_right fun e3 => ?_
  rw [List.any_eq_true] at e3 ⊢
  obtain ⟨r, hr, e4⟩ := e3
  refine ⟨r, hr, ?_⟩
  unfold goodB at e4 ⊢
  rw [Bool.and_eq_true] at e4 ⊢
  exact ⟨e4.1, fitB_mono h e4.2⟩
/-- each value that is left is supported -/
def ConsF (rels : RelL) (cs : List ConL) (f : List (List Int)) : Prop := ∀ (i : Nat) (x : Int), x ∈ f.getD i [] → supB rels cs f i x = true
/-- the law's turn: all unsupported values at once -/
def stepF (rels : RelL) (cs : List ConL) (n : Nat) (f : List (List Int)) : List (List Int) := (List.range n).map fun i => (f.getD i []).filter fun x => supB rels cs f i x
theorem stepF_at {rels : RelL} {cs : List ConL} {n : Nat} {f : List (List Int)} {i : Nat} (h : i < n) : (stepF rels cs n f).getD i [] = (f.getD i []).filter fun x => supB rels cs f i x := by
  unfold stepF
  rw [List.getD_eq_getElem?_getD, List.getElem?_map, List.getElem?_range h]
  rfl
theorem stepF_len {rels : RelL} {cs : List ConL} {n : Nat} {f : List (List Int)} : (stepF rels cs n f).length = n := by
  unfold stepF
  rw [List.length_map, List.length_range]
theorem getD_out {f : List (List Int)} {i : Nat} (h : f.length ≤ i) : f.getD i [] = [] := by
  rw [List.getD_eq_getElem?_getD, List.getElem?_eq_none h]
  rfl
theorem step_best {rels : RelL} {cs : List ConL} {n : Nat} {f g : List (List Int)} (hn : f.length = n) (hc : ConsF rels cs g) (h : SubF g f) : SubF g (stepF rels cs n f) := fun i x e => by
  have hx := h i x e
  have hi : i < n := Decidable.byContradiction fun z => by
    rw [getD_out (f := f) (by omega)] at hx
    simp at hx
  rw [stepF_at hi]
  exact List.mem_filter.mpr ⟨hx, supB_mono h (hc i x e)⟩
/-- how many values are left -/
def cntF : List (List Int) → Nat
  | [] => 0
  | l :: f => l.length + cntF f
theorem cnt_map {α : Type} {p q : α → List Int} : ∀ {l : List α}, (∀ a ∈ l, (p a).length ≤ (q a).length) → cntF (l.map p) ≤ cntF (l.map q) ∧ ((∃ a ∈ l, (p a).length < (q a).length) → cntF (l.map p) < cntF (l.map q))
  | [], _ => ⟨Nat.le_refl _, fun h => by obtain ⟨a, ha, _⟩ := h; simp at ha⟩
  | a :: l, h => by
    obtain ⟨h1, h2⟩ := cnt_map (p := p) (q := q) (l := l) fun b hb => h b (List.mem_cons_of_mem _ hb)
    have ha := h a List.mem_cons_self
    refine ⟨by show _ + _ ≤ _ + _; omega, fun e => ?_⟩
    obtain ⟨b, hb, e⟩ := e
    show _ + _ < _ + _
    rcases List.mem_cons.mp hb with rfl | hb
    · omega
    · have := h2 ⟨b, hb, e⟩
      omega
theorem fam_eq {f : List (List Int)} {n : Nat} (h : f.length = n) : f = (List.range n).map fun i => f.getD i [] := by
  refine List.ext_getElem? fun i => ?_
  by_cases hi : i < n
  · rw [List.getElem?_map, List.getElem?_range hi, List.getElem?_eq_getElem (by omega), Option.map_some, List.getD_eq_getElem?_getD, List.getElem?_eq_getElem (by omega)]
    rfl
  · rw [List.getElem?_eq_none (by omega), List.getElem?_eq_none (by rw [List.length_map, List.length_range]; omega)]
theorem filter_less {α : Type} {p : α → Bool} : ∀ {l : List α}, (∃ a ∈ l, p a = false) → (l.filter p).length < l.length
  | [], h => by obtain ⟨a, ha, _⟩ := h; simp at ha
  | b :: l, h => by
    obtain ⟨a, ha, e⟩ := h
    rw [List.filter_cons]
    have le := List.length_filter_le p l
    by_cases hb : p b = true
    · rw [if_pos hb, List.length_cons, List.length_cons]
      rcases List.mem_cons.mp ha with rfl | ha
      · rw [e] at hb
        cases hb
      · have := filter_less (l := l) ⟨a, ha, e⟩
        omega
    · rw [if_neg hb, List.length_cons]
      omega
theorem step_less {rels : RelL} {cs : List ConL} {n : Nat} {f : List (List Int)} (hn : f.length = n) (h : ¬ ConsF rels cs f) : cntF (stepF rels cs n f) < cntF f := by
  have e := cnt_map (p := fun i => (f.getD i []).filter fun x => supB rels cs f i x) (q := fun i => f.getD i []) (l := List.range n) fun i _ => List.length_filter_le ..
  rw [← fam_eq hn] at e
  refine e.2 (Decidable.byContradiction fun z => h fun i x hx => ?_)
  have hi : i < n := Decidable.byContradiction fun z => by
    rw [getD_out (f := f) (by omega)] at hx
    simp at hx
  cases hs : supB rels cs f i x with
  | true => rfl
  | false => exact absurd ⟨i, List.mem_range.mpr hi, filter_less ⟨x, hx, hs⟩⟩ z
/-- the values of a size -/
def fullV (sz : Nat) : List Int := (List.range sz).map fun (x : Nat) => (x : Int)
def fullF (sz n : Nat) : List (List Int) := (List.range n).map fun _ => fullV sz
/-- what stands between the law's turns -/
structure FamSt (rels : RelL) (cs : List ConL) (sz n t : Nat) (f : List (List Int)) : Prop where
  len : f.length = n
  sub : ∀ i, List.Sublist (f.getD i []) (fullV sz)
  best : ∀ g, ConsF rels cs g → SubF g (fullF sz n) → SubF g f
  cnt : cntF f + t ≤ n * sz
theorem cnt_full (sz : Nat) : ∀ n, cntF ((List.range n).map fun _ => fullV sz) = n * sz
  | 0 => by simp [cntF]
  | n + 1 => by
    have add : ∀ f g : List (List Int), cntF (f ++ g) = cntF f + cntF g := fun f g => by
      induction f with
      | nil => simp [cntF]
      | cons l f ih => simp only [List.cons_append, cntF, ih]; omega
    rw [List.range_succ, List.map_append, add, cnt_full sz n]
    show n * sz + (((List.range sz).map fun (x : Nat) => (x : Int)).length + 0) = _
    rw [List.length_map, List.length_range, Nat.add_mul]
    omega
theorem FamSt.start {rels : RelL} {cs : List ConL} {sz n : Nat} : FamSt rels cs sz n 0 (fullF sz n) where
  len := by unfold fullF; rw [List.length_map, List.length_range]
  sub i := by
    unfold fullF
    rw [List.getD_eq_getElem?_getD, List.getElem?_map]
    by_cases h : i < n
    · rw [List.getElem?_range h]
      exact List.Sublist.refl _
    · rw [List.getElem?_eq_none (by rw [List.length_range]; omega)]
      exact List.nil_sublist _
  best _ _ h := h
  cnt := by
    unfold fullF
    rw [cnt_full]
    exact Nat.le_refl _
theorem FamSt.step {rels : RelL} {cs : List ConL} {sz n t : Nat} {f : List (List Int)} (h : FamSt rels cs sz n t f) (hc : ¬ ConsF rels cs f) : FamSt rels cs sz n (t + 1) (stepF rels cs n f) where
  len := stepF_len
  sub i := by
    by_cases hi : i < n
    · rw [stepF_at hi]
      exact List.filter_sublist.trans (h.sub i)
    · rw [getD_out (by rw [stepF_len]; omega)]
      exact List.nil_sublist _
  best g h1 h2 := step_best h.len h1 (h.best g h1 h2)
  cnt := by
    have := step_less h.len hc
    have := h.cnt
    omega
theorem int_ext : ∀ {l m : List Int}, l.Pairwise (· < ·) → m.Pairwise (· < ·) → (∀ x, x ∈ l ↔ x ∈ m) → l = m
  | [], [], _, _, _ => rfl
  | [], y :: m, _, _, h => by have := (h y).mpr List.mem_cons_self; simp at this
  | x :: l, [], _, _, h => by have := (h x).mp List.mem_cons_self; simp at this
  | x :: l, y :: m, h1, h2, h => by
    obtain ⟨a1, a2⟩ := List.pairwise_cons.mp h1
    obtain ⟨b1, b2⟩ := List.pairwise_cons.mp h2
    have e : x = y := by
      rcases List.mem_cons.mp ((h x).mp List.mem_cons_self) with e | e
      · exact e
      · rcases List.mem_cons.mp ((h y).mpr List.mem_cons_self) with e2 | e2
        · exact e2.symm
        · have := a1 y e2
          have := b1 x e
          omega
    subst e
    have nl : x ∉ l := fun z => by have := a1 x z; omega
    have nm : x ∉ m := fun z => by have := b1 x z; omega
    rw [int_ext a2 b2 fun z => ?_]
    constructor
    · intro hz
      rcases List.mem_cons.mp ((h z).mp (List.mem_cons_of_mem _ hz)) with e | e
      · exact absurd (e ▸ hz) nl
      · exact e
    · intro hz
      rcases List.mem_cons.mp ((h z).mpr (List.mem_cons_of_mem _ hz)) with e | e
      · exact absurd (e ▸ hz) nm
      · exact e
theorem full_asc {sz : Nat} {l : List Int} (s : List.Sublist l (fullV sz)) : l.Pairwise (· < ·) := by
  refine List.Pairwise.sublist s ?_
  unfold fullV
  rw [List.pairwise_map]
  exact List.pairwise_lt_range.imp fun h => by omega
theorem sub_full {sz n : Nat} {g : List (List Int)} (gl : g.length = n) (gs : ∀ i, List.Sublist (g.getD i []) (fullV sz)) : SubF g (fullF sz n) := fun i x e => by
  have hi : i < n := Decidable.byContradiction fun z => by
    rw [getD_out (f := g) (by omega)] at e
    simp at e
  unfold fullF
  rw [List.getD_eq_getElem?_getD, List.getElem?_map, List.getElem?_range hi]
  exact (gs i).subset e
/-- two greatest consistent families are one -/
theorem best_eq {rels : RelL} {cs : List ConL} {sz n t : Nat} {f g : List (List Int)} (h : FamSt rels cs sz n t f) (gl : g.length = n) (gs : ∀ i, List.Sublist (g.getD i []) (fullV sz)) (gc : ConsF rels cs g) (gb : SubF f g) : f = g := by
  have gf := h.best g gc (sub_full gl gs)
  rw [fam_eq h.len, fam_eq gl]
  refine List.map_congr_left fun i _ => ?_
  exact int_ext (full_asc (h.sub i)) (full_asc (gs i)) fun x => ⟨gb i x, gf i x⟩
/-- a row that holds every constraint lies in the greatest family -/
theorem sol_in {rels : RelL} {cs : List ConL} {sz n t : Nat} {f : List (List Int)} {s : List Int} (h : FamSt rels cs sz n t f) (hs : s ∈ allRows sz n) (sc : ∀ c ∈ cs, ∀ p ∈ c.2, p < n) (hc : ∀ c ∈ cs, holdB rels s c = true) (i : Nat) (hi : i < n) : s.getD i 0 ∈ f.getD i [] := by
  obtain ⟨sl, sv⟩ := allRows_ok hs
  let g : List (List Int) := (List.range n).map fun i => [s.getD i 0]
  have gi : ∀ {j : Nat}, j < n → g.getD j [] = [s.getD j 0] := fun {j} hj => by
    show ((List.range n).map fun i => [s.getD i 0]).getD j [] = _
    rw [List.getD_eq_getElem?_getD, List.getElem?_map, List.getElem?_range hj]
    rfl
  have gl : g.length = n := by
    show ((List.range n).map fun i => [s.getD i 0]).length = n
    rw [List.length_map, List.length_range]
  have vi : ∀ {j : Nat}, j < n → 0 ≤ s.getD j 0 ∧ s.getD j 0 < (sz : Int) := fun {j} hj => sv _ (by rw [List.getD_eq_getElem?_getD, List.getElem?_eq_getElem (by omega)]; exact List.getElem_mem _)
  refine h.best g (fun j x e => ?_) (fun j x e => ?_) i _ (by rw [gi hi]; exact List.mem_singleton.mpr rfl)
  · have hj : j < n := Decidable.byContradiction fun z => by
      rw [getD_out (f := g) (by omega)] at e
      simp at e
    rw [gi hj] at e
    have ex := List.mem_singleton.mp e
    unfold supB supC
    rw [List.all_eq_true]
    intro c hcs
    rw [List.all_eq_true]
    intro a ha
    have ha := List.mem_range.mp ha
    unfold supA
    rw [Bool.or_eq_true]
    by_cases en : c.2.getD a 0 = j
    · right
      have hold := of_decide_eq_true (hc c hcs)
      rw [List.any_eq_true]
      have pa : ∀ {b : Nat}, b < c.2.length → (pkS s c.2).getD b 0 = s.getD (c.2.getD b 0) 0 := fun {b} hb => by
        unfold pkS
        rw [List.getD_eq_getElem?_getD, List.getElem?_map, List.getElem?_eq_getElem hb, List.getD_eq_getElem?_getD (l := c.2), List.getElem?_eq_getElem hb]
        rfl
      refine ⟨_, hold, ?_⟩
      unfold goodB
      rw [Bool.and_eq_true]
      refine ⟨decide_eq_true (by rw [pa ha, en, ex]), ?_⟩
      unfold fitB
      rw [List.all_eq_true]
      intro b hb
      have hb := List.mem_range.mp hb
      have hp : c.2.getD b 0 < n := sc c hcs _ (by rw [List.getD_eq_getElem?_getD, List.getElem?_eq_getElem hb]; exact List.getElem_mem _)
      refine decide_eq_true ?_
      rw [pa hb, gi hp]
      exact List.mem_singleton.mpr rfl
    · left
      rw [decide_eq_false en]
      rfl
  · have hj : j < n := Decidable.byContradiction fun z => by
      rw [getD_out (f := g) (by omega)] at e
      simp at e
    rw [gi hj] at e
    rw [List.mem_singleton.mp e]
    have := vi hj
    unfold fullF
    rw [List.getD_eq_getElem?_getD, List.getElem?_map, List.getElem?_range hj]
    show _ ∈ fullV sz
    unfold fullV
    exact List.mem_map.mpr ⟨(s.getD j 0).toNat, List.mem_range.mpr (by omega), by omega⟩
end MR

set_option Elab.async false
set_option linter.all false
/-! masks of four values -/
namespace MR
open PySem PySem.W PyProof.Rows
def clrM (m v : Nat) : Nat := if m.testBit v then m - 2 ^ v else m
theorem bit_and1 {m v : Nat} (hm : m < 16) (hv : v < 4) : Builtin.bitAnd ((m : Int) / 2 ^ v) 1 = if m.testBit v then 1 else 0 := by
  have h : ∀ m, m < 16 → ∀ v, v < 4 → Builtin.bitAnd (((m : Nat) : Int) / 2 ^ v) 1 = if m.testBit v then 1 else 0 := by decide +kernel
  exact h m hm v hv
theorem bit_clr {m v : Nat} (hm : m < 16) (hv : v < 4) : Builtin.bitAnd (m : Int) (Builtin.bitNot (1 * 2 ^ v)) = ((clrM m v : Nat) : Int) := by
  have h : ∀ m, m < 16 → ∀ v, v < 4 → Builtin.bitAnd ((m : Nat) : Int) (Builtin.bitNot (1 * 2 ^ v)) = ((clrM m v : Nat) : Int) := by decide +kernel
  exact h m hm v hv
theorem clr_lt {m v : Nat} (hm : m < 16) : clrM m v < 16 := by
  unfold clrM
  split
  · exact Nat.lt_of_le_of_lt (Nat.sub_le ..) hm
  · exact hm
theorem clr_bit {m v w : Nat} (hm : m < 16) (hv : v < 4) (hw : w < 4) : (clrM m v).testBit w = (m.testBit w && decide (w ≠ v)) := by
  have h : ∀ m, m < 16 → ∀ v, v < 4 → ∀ w, w < 4 → (clrM m v).testBit w = (m.testBit w && decide (w ≠ v)) := by decide +kernel
  exact h m hm v hv w hw
theorem mask_zero {m : Nat} (hm : m < 16) : m = 0 ↔ ∀ v, v < 4 → m.testBit v = false := by
  have h : ∀ m, m < 16 → (m = 0 ↔ ∀ v, v < 4 → m.testBit v = false) := by decide +kernel
  exact h m hm
/-- the values of a mask -/
def valsM (m : Nat) : List Int := ((List.range 4).filter fun v => m.testBit v).map fun (v : Nat) => (v : Int)
theorem vals_range {m : Nat} (hm : m < 16) : ((List.range (Builtin.Int.intBits (m : Int))).filter fun v => m.testBit v).map (fun (v : Nat) => (v : Int)) = valsM m := by
  have h : ∀ m, m < 16 → ((List.range (Builtin.Int.intBits ((m : Nat) : Int))).filter fun v => m.testBit v).map (fun (v : Nat) => (v : Int)) = valsM m := by decide +kernel
  exact h m hm
theorem bits_le {m : Nat} (hm : m < 16) : Builtin.Int.intBits (m : Int) ≤ 4 := by
  have h : ∀ m, m < 16 → Builtin.Int.intBits ((m : Nat) : Int) ≤ 4 := by decide +kernel
  exact h m hm
theorem bits_hi {m v : Nat} (hm : m < 16) (hv : Builtin.Int.intBits (m : Int) ≤ v) (h4 : v < 4) : m.testBit v = false := by
  have h : ∀ m, m < 16 → ∀ v, v < 4 → Builtin.Int.intBits ((m : Nat) : Int) ≤ v → m.testBit v = false := by decide +kernel
  exact h m hm v h4 hv
theorem mem_vals {m : Nat} {x : Int} : x ∈ valsM m ↔ ∃ v : Nat, x = v ∧ v < 4 ∧ m.testBit v = true := by
  unfold valsM
  rw [List.mem_map]
  constructor
  · rintro ⟨v, hv, rfl⟩
    obtain ⟨h1, h2⟩ := List.mem_filter.mp hv
    exact ⟨v, rfl, List.mem_range.mp h1, h2⟩
  · rintro ⟨v, rfl, h1, h2⟩
    exact ⟨v, List.mem_filter.mpr ⟨List.mem_range.mpr h1, h2⟩, rfl⟩
theorem vals_full {sz : Nat} (h : sz ≤ 4) : valsM (2 ^ sz - 1) = fullV sz := by
  have : sz = 0 ∨ sz = 1 ∨ sz = 2 ∨ sz = 3 ∨ sz = 4 := by omega
  rcases this with rfl | rfl | rfl | rfl | rfl <;> decide +kernel
theorem full_lt {sz : Nat} (h : sz ≤ 4) : 2 ^ sz - 1 < 16 := by
  have : sz = 0 ∨ sz = 1 ∨ sz = 2 ∨ sz = 3 ∨ sz = 4 := by omega
  rcases this with rfl | rfl | rfl | rfl | rfl <;> decide
/-- the family of the masks -/
def famM (ms : List Nat) : List (List Int) := ms.map valsM
theorem famM_at {ms : List Nat} {i : Nat} : (famM ms).getD i [] = valsM (ms.getD i 0) := by
  unfold famM
  rw [List.getD_eq_getElem?_getD, List.getElem?_map, List.getD_eq_getElem?_getD]
  cases ms[i]? <;> rfl
end MR

set_option Elab.async false
set_option linter.all false
set_option maxRecDepth 100000
set_option maxHeartbeats 4000000
namespace K15
open PySem PySem.Spec PyProof.Rows L2 TK MR
variable {P : Program} {w : World} {K : PySem.W.Frag} {mg : Str → Option Value} {base : Heap}
def tTr (K : PySem.W.Frag) (ta : TE) : L2.TT := fun σ H Q => ta σ H fun x H' => ∃ k, TruV K x H' k ∧ Q k H'
theorem pt_truthK (K : PySem.W.Frag) {X : Cx} {a : Expr} {ta : TE} (h : PE X a ta) (he : ∀ whole, PySem.isTrue a X.env whole = (do let v ← whole; standAt a.pos; holding [v] (truthy v))) (hK : X.K = K := by rfl) : PT X a (tTr K ta) := hK ▸ pt_truth h he
/-! values_of -/
theorem vals_take {m k : Nat} : ((List.range (k + 1)).filter fun v => m.testBit v).map (fun (v : Nat) => (v : Int)) = ((List.range k).filter fun v => m.testBit v).map (fun (v : Nat) => (v : Int)) ++ (if m.testBit k then [(k : Int)] else []) := by
  rw [List.range_succ, List.filter_append, List.map_append]
  cases h : m.testBit k <;> simp [h]
def sp_values_of : Sp := fun vs H Q _ => ∃ m : Nat, vs = [.int m] ∧ m < 16 ∧ ∀ p H', Gr H H' → H p = none → H' p = some (.lst ((valsM m).map V.int)) → Q (.ref p) H'
theorem ok_values_of (T : Txt K mg base) : FnOk P w K mg base CX0 1 T.values_of.f T.values_of.fd p_values_of sp_values_of := by
  refine T.values_of.F.ok sc_values_of (fun vs H Q E h => ?_) (fun A outer s H vs Q E hr h => ?_)
  · obtain ⟨_, rfl, _⟩ := h
    rfl
  · obtain ⟨m, rfl, hm, q⟩ := h
    refine ⟨_, (pss_one (ps_ret (pe_lc (own := [("value", 1)]) (g := gName 1) rfl sc_values_of.nd (pi_range1 (by rfl) T.b_range (pa_cons (pe_bits (pv 0)) pa_nil)) (blkOk_by (N := n_values_of) (sc := defScope s_values_of) (by decide +kernel)) (fun _ _ _ _ _ => pg_name (i := 1) sc_values_of.nd rfl (by first | exact .inl rfl | exact .inr rfl))
      (fun _ _ _ _ _ => pts_one (pt_truthK K (pe_op op_and (pe_op op_shr (pv 0) (pv 1)) pe_int) (fun _ => rfl))) (fun _ _ _ _ _ => pv 1)))), ?_⟩
    have b4 := bits_le hm
    refine ⟨.int m, rfl, m, rfl, _, rfl, by omega, by omega, fun D nD => ?_⟩
    refine lc_range (n := ((Builtin.Int.intBits (m : Int) : Nat) : Int).toNat) (fun k H' => Gr H H' ∧ H' D = some (.lst ((((List.range k).filter fun v => m.testBit v).map (fun (v : Nat) => (v : Int))).map V.int))) ⟨Gx.new nD, upd_same⟩ (fun k H' hk p => ?_) (fun H' p => ?_)
    · obtain ⟨g, hD⟩ := p
      have hk4 : k < 4 := by omega
      rw [show (0 : Int) + (k : Int) = (k : Int) from Int.zero_add _]
      refine ⟨rfl, .int m, rfl, .int k, rfl, m, k, rfl, rfl, by omega, _, 1, rfl, rfl, _, rfl, ?_⟩
      have eb : ((Builtin.bitAnd ((m : Int) / 2 ^ ((k : Int)).toNat) 1) != 0) = m.testBit k := by
        rw [Int.toNat_natCast, bit_and1 hm hk4]
        cases m.testBit k <;> rfl
      rw [eb]
      refine ite2 (fun hb => ?_) (fun hb => ?_)
      · refine ⟨.int k, rfl, _, hD, ?_, g.wr nD, ?_⟩
        · rw [List.length_map, List.length_map]
          have := List.length_filter_le (fun v => m.testBit v) (List.range k)
          rw [List.length_range] at this
          exact small1000 (by omega)
        · rw [upd_same, vals_take, if_pos hb, List.map_append]
          rfl
      · refine ⟨g, ?_⟩
        rw [vals_take, if_neg hb, List.append_nil]
        exact hD
    · obtain ⟨g, hD⟩ := p
      rw [Int.toNat_natCast, vals_range hm] at hD
      exact q D H' g nD hD
end K15

set_option Elab.async false
set_option linter.all false
set_option maxRecDepth 100000
set_option maxHeartbeats 4000000
namespace K15
open PySem PySem.Spec PyProof.Rows L2 TK MR
variable {P : Program} {w : World} {K : PySem.W.Frag} {mg : Str → Option Value} {base : Heap}
/-- a list of lists of whole numbers -/
def LL (H : Hp) (p : Addr) (fam : List (List Int)) : Prop := ∃ qs : List Addr, H p = some (.lst (qs.map V.ref)) ∧ qs.length = fam.length ∧ ∀ (i : Nat) (q : Addr), qs[i]? = some q → H q = some (.lst ((fam.getD i []).map V.int))
theorem LL.gr {H H' : Hp} {p : Addr} {fam : List (List Int)} (g : Gr H H') (h : LL H p fam) : LL H' p fam := by
  obtain ⟨qs, h1, h2, h3⟩ := h
  exact ⟨qs, g.lst h1, h2, fun i q e => g.lst (h3 i q e)⟩
theorem ints_shapedI (ms : List Int) : SeqAt.shaped (.list (ms.map PyData.int)) = true := by
  have h : ∀ ns : List Int, PyData.canLayAll0 (ns.map PyData.int) = true := fun ns => by
    induction ns with
    | nil => simp [PyData.canLayAll0]
    | cons n ns ih => simp only [List.map_cons, PyData.canLayAll0, ih, PyData.canLay0, Bool.and_self]
  have h2 : PyData.depth (.list (ms.map PyData.int)) ≤ 64 := by
    have := ints_depth ms
    simp only [PyData.depth]
    omega
  show (PyData.canLay0 (.list (ms.map PyData.int)) && decide (PyData.depth (.list (ms.map PyData.int)) ≤ 64)) = true
  rw [Bool.and_eq_true]
  exact ⟨by simp only [PyData.canLay0]; exact h ms, decide_eq_true h2⟩
theorem dp_intsI {H : Hp} {D : Addr} {ms : List Int} (h : H D = some (.lst (ms.map V.int))) : Dp K H (.ref D) (.list (ms.map PyData.int)) := by
  refine .lst (.inl (.inl h)) ?_
  have : ∀ ms : List Int, DpAll K H (ms.map V.int) (ms.map PyData.int) := fun ms => by
    induction ms with
    | nil => exact .nil
    | cons m ms ih => exact .cons (.int m) ih
  exact this ms
theorem any_intI (m : Int) : ∀ ms : List Int, ((ms.map PyData.int).any fun z => z.eqv (.int m)) = decide (m ∈ ms)
  | [] => by simp
  | x :: ms => by
    rw [List.map_cons, List.any_cons, any_intI m ms]
    by_cases e : x = m
    · simp [e, PyData.eqv]
    · have : m ≠ x := fun z => e z.symm
      simp [e, this, PyData.eqv]
theorem ints_nilI (ms : List Int) : PyData.eqv (.list (ms.map PyData.int)) (.list []) = decide (ms = []) := by
  cases ms with
  | nil => simp [PyData.eqv, PyData.eqvAll]
  | cons r rows => simp [PyData.eqv, PyData.eqvAll]
theorem nat_at {ps : List Nat} {k : Nat} (h : k < ps.length) : atI ((natL ps).map V.int) (k : Int) = some (.int ((ps.getD k 0 : Nat) : Int)) := by
  refine atI_nat ?_
  rw [List.getElem?_map, List.getElem?_map, List.getElem?_eq_getElem h, List.getD_eq_getElem?_getD, List.getElem?_eq_getElem h]
  rfl
/-! _law_supported -/
def sp_law_supported (K : PySem.W.Frag) : Sp := fun vs H Q _ => ∃ (sz n name : Nat) (value : Int) (v u : V) (p : Addr) (rels : Rels) (cs : List Con) (fam : List (List Int)), vs = [v, u, .ref p, .int name, .int value] ∧ DT K H v (tplD sz rels) ∧ DT K H u (insD n cs) ∧ InsOk rels n cs ∧ RelsOk sz rels ∧ LL H p fam ∧ fam.length = n ∧ ∀ H', Gr H H' → Q (.bl (supB rels cs fam name value)) H'
end K15

set_option Elab.async false
set_option linter.all false
set_option maxRecDepth 100000
set_option maxHeartbeats 4000000
/-! zip of two sequences, each one a list or a tuple, with a tuple target -/
namespace ZB
open PySem PySem.Spec PyProof.Rows L2 RZ
/-- a tuple (true) or a list -/
def SqB (b : Bool) (h : Heap) (l : Addr) (xs : Array Value) : Prop := if b = true then h.IsTuple l xs else h.IsList l xs
def ItB (b : Bool) (h : Heap) (i l : Addr) (k : Nat) : Prop := if b = true then h.IsTupleIter i l k else h.IsListIter i l k
theorem SqB.extBut {b : Bool} {h h' : Heap} {a c : Addr} {xs} (x : SqB b h a xs) (hs : Heap.ExtBut c h h') (hab : a ≠ c) : SqB b h' a xs := by
  cases b with
  | true => exact Heap.IsTuple.extBut (show h.IsTuple a xs from x) hs hab
  | false => exact Heap.IsList.extBut (show h.IsList a xs from x) hs hab
theorem ItB.extBut {b : Bool} {h h' : Heap} {a c l : Addr} {k} (x : ItB b h a l k) (hs : Heap.ExtBut c h h') (hab : a ≠ c) : ItB b h' a l k := by
  cases b with
  | true => exact Heap.IsTupleIter.extBut (show h.IsTupleIter a l k from x) hs hab
  | false => exact Heap.IsListIter.extBut (show h.IsListIter a l k from x) hs hab
theorem ItB.at {b : Bool} {h h' : Heap} {a l : Addr} {k} (x : ItB b h a l k) (e : ∀ o, h.get? a = some o → h'.get? a = some o) : ItB b h' a l k := by
  cases b with
  | true => exact Heap.IsTupleIter.at (show h.IsTupleIter a l k from x) e
  | false => exact Heap.IsListIter.at (show h.IsListIter a l k from x) e
theorem ItB.obj {b : Bool} {h : Heap} {a l : Addr} {k} (x : ItB b h a l k) : ∃ o, h.get? a = some o ∧ ∀ v, o.data ≠ .cell v := by
  cases b with
  | true =>
    obtain ⟨o, e, _, d⟩ := (show h.IsTupleIter a l k from x)
    exact ⟨o, e, fun v q => by rw [d] at q; cases q⟩
  | false =>
    obtain ⟨o, e, _, d⟩ := (show h.IsListIter a l k from x)
    exact ⟨o, e, fun v q => by rw [d] at q; cases q⟩
theorem ItB.lt {b : Bool} {h : Heap} {a l : Addr} {k} (x : ItB b h a l k) : a < h.objs.size := by
  obtain ⟨o, e, _⟩ := x.obj
  exact Heap.lt_size e
section
variable {prog : Program} {w : World} {A : Around} {E : Value → Shared → Prop} {s : Shared}
theorem nextOf_b_item {b : Bool} {it l : Addr} {i : Nat} {items} {x : Value} {Q : Value → Shared → Prop} (hit : ItB b s.heap it l i) (hl : SqB b s.heap l items) (hx : items[i]? = some x)
    (hQ : ∀ h', ItB b h' it l (i + 1) → Heap.SameBut it s.heap h' → Q x { s with heap := h' }) : wpAny (model prog w) A (Builtin.SmallTypes.nextOf (.ref it)) Q E s := by
  cases b with
  | true => exact nextOf_tuple_item (show s.heap.IsTupleIter it l i from hit) (show s.heap.IsTuple l items from hl) hx hQ
  | false => exact wpAny_nextOf_list_item (show s.heap.IsListIter it l i from hit) (show s.heap.IsList l items from hl) hx hQ
theorem nextOf_b_end {b : Bool} {it l : Addr} {i : Nat} {items} {Q : Value → Shared → Prop} (hh : A.handled = none) (hit : ItB b s.heap it l i) (hl : SqB b s.heap l items) (hx : items[i]? = none)
    (hE : ∀ h' e, Heap.ExtBut it s.heap h' → (∃ o, h'.get? e = some o ∧ o.cls = .type "StopIteration") → E (.ref e) { s with heap := h' }) : wpAny (model prog w) A (Builtin.SmallTypes.nextOf (.ref it)) Q E s := by
  cases b with
  | true => exact nextOf_tuple_end hh (show s.heap.IsTupleIter it l i from hit) (show s.heap.IsTuple l items from hl) hx hE
  | false => exact wpAny_nextOf_list_end hh (show s.heap.IsListIter it l i from hit) (show s.heap.IsList l items from hl) hx hE

theorem zipB_next_item {b1 b2 : Bool} {z TI TO i1 i2 l1 l2 : Addr} {k1 k2 : Nat} {xs ys : Array Value} {x y a b : Value} {Q : Value → Shared → Prop} (D : ZipApart z TI TO i1 i2 l1 l2)
    (hz : IsZip s.heap z TI TO .none) (hTI : IsPair s.heap TI (.ref i1) (.ref i2)) (hTO : IsPair s.heap TO a b)
    (h1 : ItB b1 s.heap i1 l1 k1) (h2 : ItB b2 s.heap i2 l2 k2) (hl1 : SqB b1 s.heap l1 xs) (hl2 : SqB b2 s.heap l2 ys) (hx : xs[k1]? = some x) (hy : ys[k2]? = some y)
    (hQ : ∀ h', IsZip h' z TI TO (rawInt s.heap.objs.size) → IsPair h' TO x y → ItB b1 h' i1 l1 (k1 + 1) → ItB b2 h' i2 l2 (k2 + 1) → IsPair h' s.heap.objs.size x y → h'.objs.size = s.heap.objs.size + 1 →
      (∀ c o, c ≠ z → c ≠ TO → c ≠ i1 → c ≠ i2 → s.heap.get? c = some o → h'.get? c = some o) → Q (.ref s.heap.objs.size) { s with heap := h' }) :
    wpAny (model prog w) A (Builtin.«zip.__next__» ⟨[.ref z], []⟩) (fun fin s' => ∃ v, fin = .done (.ret v) ∧ Q v s') E s := by
  show wpAny _ _ (field (.ref z) 2 >>= _) _ _ _
  refine wpAny_bind (wpAny_field hz rfl (x := .bool false) rfl ?_)
  show wpAny _ _ (field (.ref z) 3 >>= _) _ _ _
  refine wpAny_bind (wpAny_field hz rfl (x := .ref TI) rfl ?_)
  refine wpAny_bind (wpAny_seqItems hTI rfl ?_)
  show wpAny _ _ (Builtin.SmallTypes.ownedTupleIsFree (.ref z) >>= _) _ _ _
  refine wpAny_bind ?_
  unfold Builtin.SmallTypes.ownedTupleIsFree
  refine wpAny_bind (wpAny_field hz rfl (x := .none) rfl (wpAny_pure ?_))
  simp only [if_true]
  refine wpAny_bind (wpAny_rule ?_)
  refine wpAny_bind (wpAny_field hz rfl (x := .ref TO) rfl ?_)
  refine wpAny_bind (wpAny_setField_rec hz (by simp) fun h₁ hz₁ hs₁ => ?_)
  replace hz₁ : IsZip h₁ z TI TO .ellipsis := hz₁
  refine wpAny_bind ?_
  simp only [List.zipIdx_cons, List.zipIdx_nil, List.forIn_cons, List.forIn_nil]

  refine wpAny_bind (wpAny_bind (wpAny_onRaise ?_))
  show wpAny _ _ (Builtin.SmallTypes.nextOf (.ref i1) >>= _) _ _ _
  refine wpAny_bind (nextOf_b_item (h1.extBut hs₁.extBut D.i1z) (hl1.extBut hs₁.extBut D.l1z) hx fun h₂ h1₂ hs₂ => wpAny_pure ?_)
  have hTO₂ : IsPair h₂ TO a b := hs₂.extBut _ _ D.TOi1 (hs₁.extBut _ _ D.TOz hTO)
  refine wpAny_bind (wpAny_seqItems hTO₂ rfl ?_)
  refine wpAny_bind (wpAny_updateSeq_pair hTO₂ fun h₃ hTO₃ hs₃ => ?_)
  replace hTO₃ : IsPair h₃ TO x b := hTO₃
  refine wpAny_bind (wpAny_letGo (wpAny_pure ?_))

  refine wpAny_bind (wpAny_bind (wpAny_onRaise ?_))
  show wpAny _ _ (Builtin.SmallTypes.nextOf (.ref i2) >>= _) _ _ _
  refine wpAny_bind (nextOf_b_item (((h2.extBut hs₁.extBut D.i2z).extBut hs₂.extBut D.i12.symm).extBut hs₃.extBut D.TOi2.symm)
    (((hl2.extBut hs₁.extBut D.l2z).extBut hs₂.extBut D.l2i1).extBut hs₃.extBut D.l2TO) hy fun h₄ h2₄ hs₄ => wpAny_pure ?_)
  have hTO₄ : IsPair h₄ TO x b := hs₄.extBut _ _ D.TOi2 hTO₃
  refine wpAny_bind (wpAny_seqItems hTO₄ rfl ?_)
  refine wpAny_bind (wpAny_updateSeq_pair hTO₄ fun h₅ hTO₅ hs₅ => ?_)
  replace hTO₅ : IsPair h₅ TO x y := hTO₅
  refine wpAny_bind (wpAny_letGo (wpAny_pure (wpAny_pure ?_)))

  refine wpAny_bind (wpAny_seqItems hTO₅ rfl ?_)
  refine wpAny_bind (wpAny_newTuple ?_)
  have hsz : h₅.objs.size = s.heap.objs.size := by rw [hs₅.1, hs₄.1, hs₃.1, hs₂.1, hs₁.1]
  have hz₅ : IsZip h₅ z TI TO .ellipsis := hs₅.extBut _ _ D.TOz.symm (hs₄.extBut _ _ D.i2z.symm (hs₃.extBut _ _ D.TOz.symm (hs₂.extBut _ _ D.i1z.symm hz₁)))
  have hk₅ : ∀ c o, c ≠ z → c ≠ TO → c ≠ i1 → c ≠ i2 → s.heap.get? c = some o → h₅.get? c = some o := fun c o c1 c2 c3 c4 e =>
    hs₅.extBut _ _ c2 (hs₄.extBut _ _ c4 (hs₃.extBut _ _ c2 (hs₂.extBut _ _ c3 (hs₁.extBut _ _ c1 e))))
  have h1₅ : ItB b1 h₅ i1 l1 (k1 + 1) := ((h1₂.extBut hs₃.extBut D.TOi1.symm).extBut hs₄.extBut D.i12).extBut hs₅.extBut D.TOi1.symm
  have h2₅ : ItB b2 h₅ i2 l2 (k2 + 1) := h2₄.extBut hs₅.extBut D.TOi2.symm
  have hzlt : z < h₅.objs.size := Heap.lt_size hz₅
  have hTOlt : TO < h₅.objs.size := Heap.lt_size hTO₅
  have hi1lt : i1 < h₅.objs.size := h1₅.lt
  have hi2lt : i2 < h₅.objs.size := h2₅.lt
  show wpAny _ _ (Builtin.SmallTypes.ownedTupleHandOut (.ref z) (.ref h₅.objs.size) >>= _) _ _ _
  refine wpAny_bind ?_
  unfold Builtin.SmallTypes.ownedTupleHandOut
  have hz₆ : IsZip (h₅.push { cls := .type "tuple", data := .seq #[x, y] }) z TI TO .ellipsis := Heap.get?_push_of_some _ hz₅
  refine wpAny_bind (wpAny_setField_rec hz₆ (by simp) fun h₇ hz₇ hs₇ => ?_)
  replace hz₇ : IsZip h₇ z TI TO (rawInt h₅.objs.size) := hz₇
  refine wpAny_setField_rec hz₇ (by simp) fun h₈ hz₈ hs₈ => ?_
  replace hz₈ : IsZip h₈ z TI TO (rawInt h₅.objs.size) := hz₈
  have up : ∀ c o, c ≠ z → h₅.get? c = some o → h₈.get? c = some o := fun c o c1 e => hs₈.extBut _ _ c1 (hs₇.extBut _ _ c1 (Heap.get?_push_of_some _ e))
  have hT₈ : IsPair h₈ h₅.objs.size x y := hs₈.extBut _ _ (Nat.ne_of_gt hzlt) (hs₇.extBut _ _ (Nat.ne_of_gt hzlt) (Heap.get?_push_size _ rfl))
  have hz8 : h₈.objs.size = h₅.objs.size + 1 := by rw [hs₈.1, hs₇.1, Heap.size_push]
  rw [hsz] at hz₈ hT₈ hz8
  refine wpAny_pure ⟨_, rfl, ?_⟩
  show Q (.ref h₅.objs.size) _
  rw [hsz]
  exact hQ h₈ hz₈ (up _ _ D.TOz hTO₅) (h1₅.at fun o e => up _ o D.i1z e) (h2₅.at fun o e => up _ o D.i2z e) hT₈ hz8 fun c o c1 c2 c3 c4 e => up c o c1 (hk₅ c o c1 c2 c3 c4 e)

theorem zipB_next_end {b1 b2 : Bool} {z TI TO i1 i2 l1 l2 : Addr} {k1 k2 : Nat} {xs ys : Array Value} {a b : Value} {Q : Fin → Shared → Prop} (hh : A.handled = none) (D : ZipApart z TI TO i1 i2 l1 l2)
    (hz : IsZip s.heap z TI TO .none) (hTI : IsPair s.heap TI (.ref i1) (.ref i2)) (hTO : IsPair s.heap TO a b)
    (h1 : ItB b1 s.heap i1 l1 k1) (h2 : ItB b2 s.heap i2 l2 k2) (hl1 : SqB b1 s.heap l1 xs) (hl2 : SqB b2 s.heap l2 ys) (hend : xs[k1]? = none ∨ ys[k2]? = none)
    (hE : ∀ h' e, (∀ c o, c ≠ z → c ≠ TO → c ≠ i1 → c ≠ i2 → s.heap.get? c = some o → h'.get? c = some o) → (∃ o, h'.get? e = some o ∧ o.cls = .type "StopIteration") → E (.ref e) { s with heap := h' }) :
    wpAny (model prog w) A (Builtin.«zip.__next__» ⟨[.ref z], []⟩) Q E s := by
  show wpAny _ _ (field (.ref z) 2 >>= _) _ _ _
  refine wpAny_bind (wpAny_field hz rfl (x := .bool false) rfl ?_)
  show wpAny _ _ (field (.ref z) 3 >>= _) _ _ _
  refine wpAny_bind (wpAny_field hz rfl (x := .ref TI) rfl ?_)
  refine wpAny_bind (wpAny_seqItems hTI rfl ?_)
  show wpAny _ _ (Builtin.SmallTypes.ownedTupleIsFree (.ref z) >>= _) _ _ _
  refine wpAny_bind ?_
  unfold Builtin.SmallTypes.ownedTupleIsFree
  refine wpAny_bind (wpAny_field hz rfl (x := .none) rfl (wpAny_pure ?_))
  simp only [if_true]
  refine wpAny_bind (wpAny_rule ?_)
  refine wpAny_bind (wpAny_field hz rfl (x := .ref TO) rfl ?_)
  refine wpAny_bind (wpAny_setField_rec hz (by simp) fun h₁ hz₁ hs₁ => ?_)
  replace hz₁ : IsZip h₁ z TI TO .ellipsis := hz₁
  refine wpAny_bind ?_
  simp only [List.zipIdx_cons, List.zipIdx_nil, List.forIn_cons, List.forIn_nil]
  refine wpAny_bind (wpAny_bind (wpAny_onRaise ?_))
  show wpAny _ _ (Builtin.SmallTypes.nextOf (.ref i1) >>= _) _ _ _
  cases hx : xs[k1]? with
  | none =>
    refine wpAny_bind (nextOf_b_end hh (h1.extBut hs₁.extBut D.i1z) (hl1.extBut hs₁.extBut D.l1z) hx fun h₂ e hs₂ he => ?_)
    obtain ⟨oe, hoe, hce⟩ := he
    have hz₂ : IsZip h₂ z TI TO .ellipsis := hs₂ _ _ D.i1z.symm hz₁
    have hez : e ≠ z := fun x => by subst x; rw [hz₂] at hoe; cases hoe; simp at hce
    refine wpAny_setField_rec hz₂ (by simp) fun h₃ _ hs₃ => hE h₃ e (fun c o c1 _ c3 _ x => hs₃.extBut _ _ c1 (hs₂ _ _ c3 (hs₁.extBut _ _ c1 x))) ⟨oe, hs₃.extBut _ _ hez hoe, hce⟩
  | some x =>
    have hy : ys[k2]? = none := by rcases hend with h | h; rw [hx] at h; cases h; exact h
    refine wpAny_bind (nextOf_b_item (h1.extBut hs₁.extBut D.i1z) (hl1.extBut hs₁.extBut D.l1z) hx fun h₂ h1₂ hs₂ => wpAny_pure ?_)
    have hTO₂ : IsPair h₂ TO a b := hs₂.extBut _ _ D.TOi1 (hs₁.extBut _ _ D.TOz hTO)
    refine wpAny_bind (wpAny_seqItems hTO₂ rfl ?_)
    refine wpAny_bind (wpAny_updateSeq_pair hTO₂ fun h₃ hTO₃ hs₃ => ?_)
    refine wpAny_bind (wpAny_letGo (wpAny_pure ?_))
    refine wpAny_bind (wpAny_bind (wpAny_onRaise ?_))
    show wpAny _ _ (Builtin.SmallTypes.nextOf (.ref i2) >>= _) _ _ _
    refine wpAny_bind (nextOf_b_end hh (((h2.extBut hs₁.extBut D.i2z).extBut hs₂.extBut D.i12.symm).extBut hs₃.extBut D.TOi2.symm)
      (((hl2.extBut hs₁.extBut D.l2z).extBut hs₂.extBut D.l2i1).extBut hs₃.extBut D.l2TO) hy fun h₄ e hs₄ he => ?_)
    obtain ⟨oe, hoe, hce⟩ := he
    have hz₄ : IsZip h₄ z TI TO .ellipsis := hs₄ _ _ D.i2z.symm (hs₃.extBut _ _ D.TOz.symm (hs₂.extBut _ _ D.i1z.symm hz₁))
    have hez : e ≠ z := fun x => by subst x; rw [hz₄] at hoe; cases hoe; simp at hce
    refine wpAny_setField_rec hz₄ (by simp) fun h₅ _ hs₅ => hE h₅ e (fun c o c1 c2 c3 c4 x => hs₅.extBut _ _ c1 (hs₄ _ _ c4 (hs₃.extBut _ _ c2 (hs₂.extBut _ _ c3 (hs₁.extBut _ _ c1 x))))) ⟨oe, hs₅.extBut _ _ hez hoe, hce⟩

theorem pyNext_zipB_item {b1 b2 : Bool} {z TI TO i1 i2 l1 l2 : Addr} {k1 k2 : Nat} {xs ys : Array Value} {x y a b : Value} {Q : Option Value → Shared → Prop} (D : ZipApart z TI TO i1 i2 l1 l2)
    (hz : IsZip s.heap z TI TO .none) (hTI : IsPair s.heap TI (.ref i1) (.ref i2)) (hTO : IsPair s.heap TO a b)
    (h1 : ItB b1 s.heap i1 l1 k1) (h2 : ItB b2 s.heap i2 l2 k2) (hl1 : SqB b1 s.heap l1 xs) (hl2 : SqB b2 s.heap l2 ys) (hx : xs[k1]? = some x) (hy : ys[k2]? = some y)
    (hQ : ∀ h', IsZip h' z TI TO (rawInt s.heap.objs.size) → IsPair h' TO x y → ItB b1 h' i1 l1 (k1 + 1) → ItB b2 h' i2 l2 (k2 + 1) → IsPair h' s.heap.objs.size x y → h'.objs.size = s.heap.objs.size + 1 →
      (∀ c o, c ≠ z → c ≠ TO → c ≠ i1 → c ≠ i2 → s.heap.get? c = some o → h'.get? c = some o) → Q (some (.ref s.heap.objs.size)) { s with heap := h' }) :
    wpAny (model prog w) A (pyNext (.ref z)) Q E s := by
  have hT : s.TypeIs (.ref z) "zip" := ⟨_, hz, rfl⟩
  unfold pyNext
  exact wpAny_bind (wpAny_attempt (wpAny_callSpecial?_slot (name := Str.ofString "__next__") hT F.slot_zip_next
    (wpAny_call_entry F.slot_zip_next hT F.entry_zip_next
      (zipB_next_item D hz hTI hTO h1 h2 hl1 hl2 hx hy fun h' a1 a2 a3 a4 a5 a6 a7 => wpAny_pure (hQ h' a1 a2 a3 a4 a5 a6 a7)) (F.args_zip_next_1 _))))

theorem pyNext_zipB_end {b1 b2 : Bool} {z TI TO i1 i2 l1 l2 : Addr} {k1 k2 : Nat} {xs ys : Array Value} {a b : Value} {Q : Option Value → Shared → Prop} (hh : A.handled = none) (D : ZipApart z TI TO i1 i2 l1 l2)
    (hz : IsZip s.heap z TI TO .none) (hTI : IsPair s.heap TI (.ref i1) (.ref i2)) (hTO : IsPair s.heap TO a b)
    (h1 : ItB b1 s.heap i1 l1 k1) (h2 : ItB b2 s.heap i2 l2 k2) (hl1 : SqB b1 s.heap l1 xs) (hl2 : SqB b2 s.heap l2 ys) (hend : xs[k1]? = none ∨ ys[k2]? = none)
    (hQ : ∀ h', (∀ c o, c ≠ z → c ≠ TO → c ≠ i1 → c ≠ i2 → s.heap.get? c = some o → h'.get? c = some o) → Q none { s with heap := h' }) : wpAny (model prog w) A (pyNext (.ref z)) Q E s := by
  have hT : s.TypeIs (.ref z) "zip" := ⟨_, hz, rfl⟩
  unfold pyNext
  refine wpAny_bind (wpAny_attempt (wpAny_callSpecial?_slot (name := Str.ofString "__next__") hT F.slot_zip_next
    (wpAny_call_entry F.slot_zip_next hT F.entry_zip_next (zipB_next_end hh D hz hTI hTO h1 h2 hl1 hl2 hend fun h' e hk he => ?_) (F.args_zip_next_1 _))))
  obtain ⟨o, ho, hc⟩ := he
  refine wpAny_bind (wpAny_isInstance (T := "StopIteration") (b := true) ⟨o, ho, hc⟩ isSubtype_stop ?_)
  exact wpAny_pure (hQ _ hk)
end


abbrev zipTLH1 (h : Heap) (l1 : Addr) : Heap := h.push { cls := .type "tuple_iterator", data := .fields #[.ref l1, .int 0 0] }
abbrev zipTLH2 (h : Heap) (l1 l2 : Addr) : Heap := (zipTLH1 h l1).push { cls := .type "list_iterator", data := .fields #[.ref l2, .int 0 0] }
abbrev zipTLH3 (h : Heap) (l1 l2 : Addr) : Heap := (zipTLH2 h l1 l2).push { cls := .type "tuple", data := .seq #[.ref h.objs.size, .ref (zipTLH1 h l1).objs.size] }
abbrev zipTLH4 (h : Heap) (l1 l2 : Addr) : Heap := (zipTLH3 h l1 l2).push { cls := .type "tuple", data := .seq #[.none, .none] }
abbrev zipTLH5 (h : Heap) (l1 l2 : Addr) : Heap := (zipTLH4 h l1 l2).push { cls := .type "zip", data := .fields #[.none, .bool false, .bool false, .ref (zipTLH2 h l1 l2).objs.size, .ref (zipTLH3 h l1 l2).objs.size] }

theorem meets_zipTL_new (l1 l2 : Addr) (xs ys : Array Value) :
    Meets (Builtin.«zip.__new__» ⟨[.type "zip", .ref l1, .ref l2], []⟩) (fun _ R s => s.heap.IsTuple l1 xs ∧ s.heap.IsList l2 ys ∧
      R (.ok (.ret (.ref (zipTLH4 s.heap l1 l2).objs.size))) { s with heap := zipTLH5 s.heap l1 l2 }) :=
  .of_wp fun prog w A R s h => by
    obtain ⟨hp, g, d, tk, os⟩ := s; obtain ⟨hl1, hl2, h⟩ := h
    have hsub := sub_zip
    have hL1 : Heap.IsTuple (Shared.heap ⟨hp, g, d, tk, os⟩) l1 xs := hl1
    have hL2 : Heap.IsList (Shared.heap ⟨hp.push { cls := .type "tuple_iterator", data := .fields #[.ref l1, .int 0 0] }, g, d, tk, os⟩) l2 ys := Heap.IsList.push hl2 _
    wp_walk using wpAny_pyIter_tuple hL1, wpAny_pyIter_list hL2
    exact ⟨_, rfl, h⟩

section
variable {prog : Program} {w : World} {A : Around} {E : Value → Shared → Prop} {s : Shared}

theorem call_zipTL {l1 l2 : Addr} {xs ys : Array Value} {Q : Value → Shared → Prop} (hl1 : s.heap.IsTuple l1 xs) (hl2 : s.heap.IsList l2 ys)
    (h : ∀ h', IsZip h' (s.heap.objs.size + 4) (s.heap.objs.size + 2) (s.heap.objs.size + 3) .none → IsPair h' (s.heap.objs.size + 2) (.ref s.heap.objs.size) (.ref (s.heap.objs.size + 1)) →
      IsPair h' (s.heap.objs.size + 3) .none .none → h'.IsTupleIter s.heap.objs.size l1 0 → h'.IsListIter (s.heap.objs.size + 1) l2 0 → h'.objs.size = s.heap.objs.size + 5 →
      (∀ c o, s.heap.get? c = some o → h'.get? c = some o) → Q (.ref (s.heap.objs.size + 4)) { s with heap := h' }) :
    wpAny (model prog w) A (call (.type "zip") [.ref l1, .ref l2]) Q E s := by
  refine callType_new F.called_zip (by decide) (F.typeCall_zip_2 _ _) (F.newCall_zip_2 _ _) (fun obj => F.args_object_init_3 obj _ _) F.entry_zip_new
    (meets_zipTL_new l1 l2 xs ys) ⟨hl1, hl2, ?_⟩
  have z1 : (zipTLH1 s.heap l1).objs.size = s.heap.objs.size + 1 := Heap.size_push ..
  have z2 : (zipTLH2 s.heap l1 l2).objs.size = s.heap.objs.size + 2 := by rw [Heap.size_push, z1]
  have z3 : (zipTLH3 s.heap l1 l2).objs.size = s.heap.objs.size + 3 := by rw [Heap.size_push, z2]
  have z4 : (zipTLH4 s.heap l1 l2).objs.size = s.heap.objs.size + 4 := by rw [Heap.size_push, z3]
  have z5 : (zipTLH5 s.heap l1 l2).objs.size = s.heap.objs.size + 5 := by rw [Heap.size_push, z4]
  have g5 : (zipTLH5 s.heap l1 l2).get? (zipTLH4 s.heap l1 l2).objs.size = some _ := Heap.get?_push_size _ rfl
  have g4 : (zipTLH5 s.heap l1 l2).get? (zipTLH3 s.heap l1 l2).objs.size = some _ := Heap.get?_push_of_some _ (Heap.get?_push_size _ rfl)
  have g3 : (zipTLH5 s.heap l1 l2).get? (zipTLH2 s.heap l1 l2).objs.size = some _ := Heap.get?_push_of_some _ (Heap.get?_push_of_some _ (Heap.get?_push_size _ rfl))
  have g2 : (zipTLH5 s.heap l1 l2).get? (zipTLH1 s.heap l1).objs.size = some _ := Heap.get?_push_of_some _ (Heap.get?_push_of_some _ (Heap.get?_push_of_some _ (Heap.get?_push_size _ rfl)))
  have g1 : (zipTLH5 s.heap l1 l2).get? s.heap.objs.size = some _ := Heap.get?_push_of_some _ (Heap.get?_push_of_some _ (Heap.get?_push_of_some _ (Heap.get?_push_of_some _ (Heap.get?_push_size _ rfl))))
  show _ ∧ _
  rw [z2, z3, z4] at g5
  rw [z1, z2] at g3
  rw [z3] at g4
  rw [z1] at g2
  rw [z4]
  exact ⟨⟨_, g5, rfl⟩, h _ g5 g3 g4 ⟨_, g1, rfl, rfl⟩ ⟨_, g2, rfl, rfl⟩ z5 fun c o x =>
    Heap.get?_push_of_some _ (Heap.get?_push_of_some _ (Heap.get?_push_of_some _ (Heap.get?_push_of_some _ (Heap.get?_push_of_some _ x))))⟩
end

abbrev zipLTH1 (h : Heap) (l1 : Addr) : Heap := h.push { cls := .type "list_iterator", data := .fields #[.ref l1, .int 0 0] }
abbrev zipLTH2 (h : Heap) (l1 l2 : Addr) : Heap := (zipLTH1 h l1).push { cls := .type "tuple_iterator", data := .fields #[.ref l2, .int 0 0] }
abbrev zipLTH3 (h : Heap) (l1 l2 : Addr) : Heap := (zipLTH2 h l1 l2).push { cls := .type "tuple", data := .seq #[.ref h.objs.size, .ref (zipLTH1 h l1).objs.size] }
abbrev zipLTH4 (h : Heap) (l1 l2 : Addr) : Heap := (zipLTH3 h l1 l2).push { cls := .type "tuple", data := .seq #[.none, .none] }
abbrev zipLTH5 (h : Heap) (l1 l2 : Addr) : Heap := (zipLTH4 h l1 l2).push { cls := .type "zip", data := .fields #[.none, .bool false, .bool false, .ref (zipLTH2 h l1 l2).objs.size, .ref (zipLTH3 h l1 l2).objs.size] }

theorem meets_zipLT_new (l1 l2 : Addr) (xs ys : Array Value) :
    Meets (Builtin.«zip.__new__» ⟨[.type "zip", .ref l1, .ref l2], []⟩) (fun _ R s => s.heap.IsList l1 xs ∧ s.heap.IsTuple l2 ys ∧
      R (.ok (.ret (.ref (zipLTH4 s.heap l1 l2).objs.size))) { s with heap := zipLTH5 s.heap l1 l2 }) :=
  .of_wp fun prog w A R s h => by
    obtain ⟨hp, g, d, tk, os⟩ := s; obtain ⟨hl1, hl2, h⟩ := h
    have hsub := sub_zip
    have hL1 : Heap.IsList (Shared.heap ⟨hp, g, d, tk, os⟩) l1 xs := hl1
    have hL2 : Heap.IsTuple (Shared.heap ⟨hp.push { cls := .type "list_iterator", data := .fields #[.ref l1, .int 0 0] }, g, d, tk, os⟩) l2 ys := Heap.IsTuple.push hl2 _
    wp_walk using wpAny_pyIter_list hL1, wpAny_pyIter_tuple hL2
    exact ⟨_, rfl, h⟩

section
variable {prog : Program} {w : World} {A : Around} {E : Value → Shared → Prop} {s : Shared}

theorem call_zipLT {l1 l2 : Addr} {xs ys : Array Value} {Q : Value → Shared → Prop} (hl1 : s.heap.IsList l1 xs) (hl2 : s.heap.IsTuple l2 ys)
    (h : ∀ h', IsZip h' (s.heap.objs.size + 4) (s.heap.objs.size + 2) (s.heap.objs.size + 3) .none → IsPair h' (s.heap.objs.size + 2) (.ref s.heap.objs.size) (.ref (s.heap.objs.size + 1)) →
      IsPair h' (s.heap.objs.size + 3) .none .none → h'.IsListIter s.heap.objs.size l1 0 → h'.IsTupleIter (s.heap.objs.size + 1) l2 0 → h'.objs.size = s.heap.objs.size + 5 →
      (∀ c o, s.heap.get? c = some o → h'.get? c = some o) → Q (.ref (s.heap.objs.size + 4)) { s with heap := h' }) :
    wpAny (model prog w) A (call (.type "zip") [.ref l1, .ref l2]) Q E s := by
  refine callType_new F.called_zip (by decide) (F.typeCall_zip_2 _ _) (F.newCall_zip_2 _ _) (fun obj => F.args_object_init_3 obj _ _) F.entry_zip_new
    (meets_zipLT_new l1 l2 xs ys) ⟨hl1, hl2, ?_⟩
  have z1 : (zipLTH1 s.heap l1).objs.size = s.heap.objs.size + 1 := Heap.size_push ..
  have z2 : (zipLTH2 s.heap l1 l2).objs.size = s.heap.objs.size + 2 := by rw [Heap.size_push, z1]
  have z3 : (zipLTH3 s.heap l1 l2).objs.size = s.heap.objs.size + 3 := by rw [Heap.size_push, z2]
  have z4 : (zipLTH4 s.heap l1 l2).objs.size = s.heap.objs.size + 4 := by rw [Heap.size_push, z3]
  have z5 : (zipLTH5 s.heap l1 l2).objs.size = s.heap.objs.size + 5 := by rw [Heap.size_push, z4]
  have g5 : (zipLTH5 s.heap l1 l2).get? (zipLTH4 s.heap l1 l2).objs.size = some _ := Heap.get?_push_size _ rfl
  have g4 : (zipLTH5 s.heap l1 l2).get? (zipLTH3 s.heap l1 l2).objs.size = some _ := Heap.get?_push_of_some _ (Heap.get?_push_size _ rfl)
  have g3 : (zipLTH5 s.heap l1 l2).get? (zipLTH2 s.heap l1 l2).objs.size = some _ := Heap.get?_push_of_some _ (Heap.get?_push_of_some _ (Heap.get?_push_size _ rfl))
  have g2 : (zipLTH5 s.heap l1 l2).get? (zipLTH1 s.heap l1).objs.size = some _ := Heap.get?_push_of_some _ (Heap.get?_push_of_some _ (Heap.get?_push_of_some _ (Heap.get?_push_size _ rfl)))
  have g1 : (zipLTH5 s.heap l1 l2).get? s.heap.objs.size = some _ := Heap.get?_push_of_some _ (Heap.get?_push_of_some _ (Heap.get?_push_of_some _ (Heap.get?_push_of_some _ (Heap.get?_push_size _ rfl))))
  show _ ∧ _
  rw [z2, z3, z4] at g5
  rw [z1, z2] at g3
  rw [z3] at g4
  rw [z1] at g2
  rw [z4]
  exact ⟨⟨_, g5, rfl⟩, h _ g5 g3 g4 ⟨_, g1, rfl, rfl⟩ ⟨_, g2, rfl, rfl⟩ z5 fun c o x =>
    Heap.get?_push_of_some _ (Heap.get?_push_of_some _ (Heap.get?_push_of_some _ (Heap.get?_push_of_some _ (Heap.get?_push_of_some _ x))))⟩
end

/-- the object as a sequence of a kind -/
def SqK (b : Bool) (K : PySem.W.Frag) (H : Hp) (a : Addr) (xs : List V) : Prop := if b = true then SqT K H a xs else SqL K H a xs
theorem SqK.inj {X : Cx} {b : Bool} {pins : List (Addr × Obj)} {σ : L2.St} {H : Hp} {s : Shared} {a : Addr} {xs ys : List V} (I : Inv X pins σ H s) (h : SqK b X.K H a xs) (h' : SqK b X.K H a ys) : xs = ys := by
  cases b with
  | true => exact I.tuple_inj h h'
  | false => exact I.list_inj h h'
theorem SqK.get {X : Cx} {b : Bool} {pins : List (Addr × Obj)} {σ : L2.St} {H : Hp} {s : Shared} {a : Addr} {xs : List V} (I : Inv X pins σ H s) (h : SqK b X.K H a xs) : ∃ its : List Value, Vals xs its ∧ SqB b s.heap a its.toArray := by
  cases b with
  | true =>
    obtain ⟨its, rv, p, _⟩ := I.tuple h
    exact ⟨its, rv, show s.heap.IsTuple a its.toArray from p⟩
  | false =>
    obtain ⟨its, rv, p, _⟩ := I.list h
    exact ⟨its, rv, p.isList⟩
/-- the tuples at a and b as they stand at each turn, the items in new pairs -/
def ItzB (b1 b2 : Bool) (K : PySem.W.Frag) (a b : Addr) : It :=
  ⟨fun i H => ∃ (xs ys : List V) (x y : V), SqK b1 K H a xs ∧ SqK b2 K H b ys ∧ xs[i]? = some x ∧ ys[i]? = some y,
    fun i H v H' => ∃ T x y, v = .ref T ∧ H T = none ∧ H' = upd H T (.tup [x, y]) ∧ (∀ xs, SqK b1 K H a xs → xs[i]? = some x) ∧ ∀ ys, SqK b2 K H b ys → ys[i]? = some y,
    fun i H => ∃ xs ys : List V, SqK b1 K H a xs ∧ SqK b2 K H b ys ∧ (xs.length ≤ i ∨ ys.length ≤ i)⟩
theorem turn_zipB {b1 b2 : Bool} {P : Program} {w : World} {K : PySem.W.Frag} {elts : List Expr} {kk : Nat} {tpos : Pos} {a b z TI TO i1 i2 : Addr} (D : ZipApart z TI TO i1 i2 a b) :
    Turn P w K (.Tuple elts kk tpos) (ItzB b1 b2 K a b) [z, TI, TO, i1, i2] z (fun i h => IsZip h z TI TO .none ∧ IsPair h TI (.ref i1) (.ref i2) ∧ (∃ x y, IsPair h TO x y) ∧ ItB b1 h i1 a i ∧ ItB b2 h i2 b i) where
  mem := by simp
  obj := fun i h st c hc => by
    obtain ⟨hz, hTI, ⟨x, y, hTO⟩, h1, h2⟩ := st
    have e' : c = z ∨ c = TI ∨ c = TO ∨ c = i1 ∨ c = i2 := by simpa using hc
    rcases e' with q | q | q | q | q
    · rw [q]; exact ⟨_, hz, fun v q => nomatch q⟩
    · rw [q]; exact ⟨_, hTI, fun v q => nomatch q⟩
    · rw [q]; exact ⟨_, hTO, fun v q => nomatch q⟩
    · rw [q]; exact h1.obj
    · rw [q]; exact h2.obj
  keep := fun i h h' st k => by
    obtain ⟨hz, hTI, ⟨x, y, hTO⟩, h1, h2⟩ := st
    exact ⟨k z (by simp) _ hz, k TI (by simp) _ hTI, ⟨x, y, k TO (by simp) _ hTO⟩, h1.at fun o q => k i1 (by simp) o q, h2.at fun o q => k i2 (by simp) o q⟩
  item := by
    intro X hP hw hK hc i pins s σ H E I hf st hg
    subst hP hw hK
    obtain ⟨hz, hTI, ⟨x0, y0, hTO⟩, h1, h2⟩ := st
    obtain ⟨xs, ys, x, y, hqx, hqy, hx, hy⟩ := hg
    obtain ⟨its, rv, p⟩ := hqx.get I
    obtain ⟨its2, rv2, p2⟩ := hqy.get I
    obtain ⟨u, hu, ru⟩ := rv.get hx
    obtain ⟨u2, hu2, ru2⟩ := rv2.get hy
    have hzl : z < s.heap.objs.size := Heap.lt_size hz
    refine pyNext_zipB_item D hz hTI hTO h1 h2 p p2 (x := u) (y := u2) (by simpa using hu) (by simpa using hu2) fun h' z' TO' h1' h2' hT hsz hk => ?_
    refine ⟨_, rfl, wpAny_letOwnedTupleGo_zip (s := { s with heap := h' }) z' fun h'' z'' sb => ?_⟩
    have hT2 : h''.get? s.heap.objs.size = some { cls := .type "tuple", data := .seq #[u, u2] } := (sb.2 _ (Nat.ne_of_gt hzl)).trans hT
    have new : ObjOk X.prog X.w (upd H s.heap.objs.size (.tup [x, y])) h'' s.heap.objs.size (.tup [x, y]) :=
      ⟨by show 2 ≤ sizeLine; decide, [u, u2], .cons ru (.cons ru2 .nil), ⟨_, hT2, rfl, _, rfl⟩⟩
    have I1 : Inv X pins σ (upd H s.heap.objs.size (.tup [x, y])) { s with heap := h'' } :=
      I.turnedNew (t' := s.toks) (ch := [z, TI, TO, i1, i2]) (fun c o hb q => (sb.2 c (fun q' => hb (by simp [q']))).trans (hk c o (fun q' => hb (by simp [q'])) (fun q' => hb (by simp [q'])) (fun q' => hb (by simp [q'])) (fun q' => hb (by simp [q'])) q)) hf (Nat.le_refl _) new
    refine ⟨.ref s.heap.objs.size, _, I1, rfl, ⟨_, x, y, rfl, I.hok.fresh (Nat.le_refl _), rfl, fun l hl => by rw [SqK.inj I hl hqx]; exact hx, fun l hl => by rw [SqK.inj I hl hqy]; exact hy⟩, ⟨z'', ?_, ⟨u, u2, ?_⟩, ?_, ?_⟩, fun c hcm => ?_⟩
    · exact (sb.2 _ D.TIz).trans (hk _ _ D.TIz D.TITO D.TIi1 D.TIi2 hTI)
    · exact (sb.2 _ D.TOz).trans TO'
    · exact h1'.at fun o q => (sb.2 _ D.i1z).trans q
    · exact h2'.at fun o q => (sb.2 _ D.i2z).trans q
    · have hlt : c < s.heap.objs.size := by
        have e' : c = z ∨ c = TI ∨ c = TO ∨ c = i1 ∨ c = i2 := by simpa using hcm
        rcases e' with q | q | q | q | q
        · rw [q]; exact hzl
        · rw [q]; exact Heap.lt_size hTI
        · rw [q]; exact Heap.lt_size hTO
        · rw [q]; exact h1.lt
        · rw [q]; exact h2.lt
      rw [upd_ne (Nat.ne_of_lt hlt)]
      exact (hf c hcm).1
  done := by
    intro X hP hw hK hc i pins s σ H E I hf st hg
    subst hP hw hK
    obtain ⟨hz, hTI, ⟨x0, y0, hTO⟩, h1, h2⟩ := st
    obtain ⟨xs, ys, hqx, hqy, hend⟩ := hg
    obtain ⟨its, rv, p⟩ := hqx.get I
    obtain ⟨its2, rv2, p2⟩ := hqy.get I
    have l1 := rv.length
    have l2 := rv2.length
    have he : its.toArray[i]? = none ∨ its2.toArray[i]? = none := by
      rcases hend with q | q
      · exact .inl (by simp; omega)
      · exact .inr (by simp; omega)
    exact pyNext_zipB_end (I.ok.hd hc) D hz hTI hTO h1 h2 p p2 he fun h' hk => ⟨rfl, I.turnedL (t' := s.toks) (ch := [z, TI, TO, i1, i2]) (fun c o hb q =>
      hk c o (fun q' => hb (by simp [q'])) (fun q' => hb (by simp [q'])) (fun q' => hb (by simp [q'])) (fun q' => hb (by simp [q'])) q) hf⟩
  self := fun A i s Q E st h => wpAny_pyIter_zip st.1 h


def iZipTL (K : PySem.W.Frag) (ta : TA) : TI := fun σ H R => ta σ H fun vs H1 => ∃ a b xs ys, vs = [.ref a, .ref b] ∧ SqK true K H1 a xs ∧ SqK false K H1 b ys ∧ R (ItzB true false K a b) H1
theorem pi_zipTL (K : PySem.W.Frag) {X : Cx} {e e2 : Expr} {ta : TA} {p pos tpos : Pos} {elts : List Expr} {kk : Nat} (hg : Gl X "zip") (hm : X.mg "zip" = none) (ha : PA X [e, e2] ta) (hK : X.K = K := by rfl)
    (hs : starEach [e, e2] X.env = (false, eval e X.env) :: starEach [e2] X.env := by rfl) (hpl : (backTo pos (starEach [e2] X.env)).any (·.1) = false := by rfl) :
    PI X (.Tuple elts kk tpos) (.Call (.Name "zip" p) [e, e2] [] pos) (iZipTL K ta) := by
  subst hK
  refine ⟨fun pins s σ H R I h => ?_⟩
  refine Call_ (ld_blt I hg hm PyProof.Rows.boot_zip (PyProof.Rows.callWith_type1 (thn (ha.run pos pins s σ H _ I h) fun us s1 ⟨vs, H1, I1, r1, q1⟩ => ?_) hs hpl))
  obtain ⟨a, b, xs, ys, ex, q1⟩ := q1
  subst ex
  cases r1 with
  | cons r rr =>
    cases rr with
    | cons r' rr =>
      cases rr
      cases r
      cases r'
      have fresh5 : ∀ c, c ∈ [s1.heap.objs.size + 4, s1.heap.objs.size + 2, s1.heap.objs.size + 3, s1.heap.objs.size, s1.heap.objs.size + 1] → FpOk X pins H1 c := fun c hcm => by
        have e' : c = s1.heap.objs.size + 4 ∨ c = s1.heap.objs.size + 2 ∨ c = s1.heap.objs.size + 3 ∨ c = s1.heap.objs.size ∨ c = s1.heap.objs.size + 1 := by simpa using hcm
        have hle : s1.heap.objs.size ≤ c := by
          rcases e' with z | z | z | z | z
          · rw [z]; exact Nat.le_add_right _ _
          · rw [z]; exact Nat.le_add_right _ _
          · rw [z]; exact Nat.le_add_right _ _
          · rw [z]; exact Nat.le_refl _
          · rw [z]; exact Nat.le_add_right _ _
        exact I1.fpOk hle (I1.hok.fresh hle)
      obtain ⟨hqx, hqy, q⟩ := q1
      obtain ⟨its, rv, p1⟩ := hqx.get I1
      obtain ⟨its2, rv2, p2⟩ := hqy.get I1
      have la : a < s1.heap.objs.size := by obtain ⟨o, ho, _⟩ := (show s1.heap.IsTuple a its.toArray from p1); exact Heap.lt_size ho
      have lb : b < s1.heap.objs.size := by obtain ⟨o, ho, _⟩ := (show s1.heap.IsList b its2.toArray from p2); exact Heap.lt_size ho
      refine call_zipTL (show s1.heap.IsTuple a its.toArray from p1) (show s1.heap.IsList b its2.toArray from p2) fun h' hz hTI hTO h1 h2 hsz hk => wpAny_pyIter_zip hz ?_
      have I2 : Inv X pins σ H1 { s1 with heap := h' } := I1.kept (t' := s1.toks) hk
      exact ⟨s1.heap.objs.size + 4, [s1.heap.objs.size + 4, s1.heap.objs.size + 2, s1.heap.objs.size + 3, s1.heap.objs.size, s1.heap.objs.size + 1], _, _, H1, rfl, I2, turn_zipB (b1 := true) (b2 := false) (PySem.W.ktu_apart s1.heap.objs.size a b la lb), ⟨hz, hTI, ⟨_, _, hTO⟩, h1, h2⟩, fresh5, q⟩

def iZipLT (K : PySem.W.Frag) (ta : TA) : TI := fun σ H R => ta σ H fun vs H1 => ∃ a b xs ys, vs = [.ref a, .ref b] ∧ SqK false K H1 a xs ∧ SqK true K H1 b ys ∧ R (ItzB false true K a b) H1
theorem pi_zipLT (K : PySem.W.Frag) {X : Cx} {e e2 : Expr} {ta : TA} {p pos tpos : Pos} {elts : List Expr} {kk : Nat} (hg : Gl X "zip") (hm : X.mg "zip" = none) (ha : PA X [e, e2] ta) (hK : X.K = K := by rfl)
    (hs : starEach [e, e2] X.env = (false, eval e X.env) :: starEach [e2] X.env := by rfl) (hpl : (backTo pos (starEach [e2] X.env)).any (·.1) = false := by rfl) :
    PI X (.Tuple elts kk tpos) (.Call (.Name "zip" p) [e, e2] [] pos) (iZipLT K ta) := by
  subst hK
  refine ⟨fun pins s σ H R I h => ?_⟩
  refine Call_ (ld_blt I hg hm PyProof.Rows.boot_zip (PyProof.Rows.callWith_type1 (thn (ha.run pos pins s σ H _ I h) fun us s1 ⟨vs, H1, I1, r1, q1⟩ => ?_) hs hpl))
  obtain ⟨a, b, xs, ys, ex, q1⟩ := q1
  subst ex
  cases r1 with
  | cons r rr =>
    cases rr with
    | cons r' rr =>
      cases rr
      cases r
      cases r'
      have fresh5 : ∀ c, c ∈ [s1.heap.objs.size + 4, s1.heap.objs.size + 2, s1.heap.objs.size + 3, s1.heap.objs.size, s1.heap.objs.size + 1] → FpOk X pins H1 c := fun c hcm => by
        have e' : c = s1.heap.objs.size + 4 ∨ c = s1.heap.objs.size + 2 ∨ c = s1.heap.objs.size + 3 ∨ c = s1.heap.objs.size ∨ c = s1.heap.objs.size + 1 := by simpa using hcm
        have hle : s1.heap.objs.size ≤ c := by
          rcases e' with z | z | z | z | z
          · rw [z]; exact Nat.le_add_right _ _
          · rw [z]; exact Nat.le_add_right _ _
          · rw [z]; exact Nat.le_add_right _ _
          · rw [z]; exact Nat.le_refl _
          · rw [z]; exact Nat.le_add_right _ _
        exact I1.fpOk hle (I1.hok.fresh hle)
      obtain ⟨hqx, hqy, q⟩ := q1
      obtain ⟨its, rv, p1⟩ := hqx.get I1
      obtain ⟨its2, rv2, p2⟩ := hqy.get I1
      have la : a < s1.heap.objs.size := by obtain ⟨o, ho, _⟩ := (show s1.heap.IsList a its.toArray from p1); exact Heap.lt_size ho
      have lb : b < s1.heap.objs.size := by obtain ⟨o, ho, _⟩ := (show s1.heap.IsTuple b its2.toArray from p2); exact Heap.lt_size ho
      refine call_zipLT (show s1.heap.IsList a its.toArray from p1) (show s1.heap.IsTuple b its2.toArray from p2) fun h' hz hTI hTO h1 h2 hsz hk => wpAny_pyIter_zip hz ?_
      have I2 : Inv X pins σ H1 { s1 with heap := h' } := I1.kept (t' := s1.toks) hk
      exact ⟨s1.heap.objs.size + 4, [s1.heap.objs.size + 4, s1.heap.objs.size + 2, s1.heap.objs.size + 3, s1.heap.objs.size, s1.heap.objs.size + 1], _, _, H1, rfl, I2, turn_zipB (b1 := false) (b2 := true) (PySem.W.ktu_apart s1.heap.objs.size a b la lb), ⟨hz, hTI, ⟨_, _, hTO⟩, h1, h2⟩, fresh5, q⟩

/-- a loop over zip of two tuples of one length -/
theorem for_zipB {b1 b2 : Bool} {K : PySem.W.Frag} {a b : Addr} {xs ys : List V} {g : TG} {tb : TS} {D : Ends} {σ : L2.St} {H : Hp} (hl : xs.length = ys.length) (Pv : Nat → L2.St → Hp → Prop) (h0 : Pv 0 σ H) (hq : ∀ i σ H, Pv i σ H → SqK b1 K H a xs ∧ SqK b2 K H b ys)
    (hs : ∀ (i : Nat) (x y : V) (T : Addr) (σ : L2.St) (H : Hp), xs[i]? = some x → ys[i]? = some y → Pv i σ H → H T = none → g (.ref T) σ (upd H T (.tup [x, y])) fun σ2 H2 => tb { D with nx := Pv (i + 1), ct := Pv (i + 1), bk := D.nx } σ2 H2) (hd : ∀ σ H, Pv xs.length σ H → D.nx σ H) :
    ∃ W : Nat → Nat → L2.St → Hp → Prop, (∃ m, W 0 m σ H) ∧ ∀ i m σ H, W i m σ H →
      ((ItzB b1 b2 K a b).stop i H ∧ D.nx σ H) ∨ ((ItzB b1 b2 K a b).go i H ∧ ∃ N : L2.St → Hp → Prop, (∀ σ' H', N σ' H' → ∃ m', m' < m ∧ W (i + 1) m' σ' H') ∧ ∀ v H', (ItzB b1 b2 K a b).yld i H v H' → g v σ H' fun σ2 H2 => tb { D with nx := N, ct := N, bk := D.nx } σ2 H2) := by
  refine ⟨fun i m σ H => m = xs.length - i ∧ i ≤ xs.length ∧ Pv i σ H, ⟨xs.length, rfl, Nat.zero_le _, h0⟩, ?_⟩
  rintro i m σ H ⟨rfl, hi, p⟩
  obtain ⟨qx, qy⟩ := hq i σ H p
  by_cases hlt : i < xs.length
  · have hx : xs[i]? = some xs[i] := List.getElem?_eq_getElem hlt
    have hlt2 : i < ys.length := by omega
    have hy : ys[i]? = some ys[i] := List.getElem?_eq_getElem hlt2
    refine .inr ⟨⟨xs, ys, _, _, qx, qy, hx, hy⟩, Pv (i + 1), fun σ' H' p' => ⟨xs.length - (i + 1), by omega, rfl, hlt, p'⟩, fun v H' y => ?_⟩
    obtain ⟨T, x', y', rfl, hT, rfl, f1, f2⟩ := y
    exact hs i x' y' T σ H (f1 xs qx) (f2 ys qy) p hT
  · have e : i = xs.length := by omega
    subst e
    exact .inl ⟨⟨xs, ys, qx, qy, Or.inl (Nat.le_refl _)⟩, hd σ H p⟩


theorem lc_zipB {b1 b2 : Bool} {K : PySem.W.Frag} {a b : Addr} {xs ys : List V} {g : TG} {tt : L2.TT} {te : TE} {vs : List Nat} {σ : L2.St} {H1 : Hp} {D : Addr} {Qd : Hp → Prop} (n : Nat) (hx : n ≤ xs.length) (hy : n ≤ ys.length) (hn : xs.length ≤ n ∨ ys.length ≤ n) (Pv : Nat → Hp → Prop) (h0 : Pv 0 (upd H1 D (.lst []))) (hl : ∀ i H, i ≤ n → Pv i H → SqK b1 K H a xs ∧ SqK b2 K H b ys)
    (hs : ∀ (i : Nat) (x y : V) (T : Addr) (H : Hp), xs[i]? = some x → ys[i]? = some y → Pv i H → H T = none → g (.ref T) (wipe σ vs) (upd H T (.tup [x, y])) fun σ2 H2 => wipe σ2 vs = wipe σ vs ∧ tt σ2 H2 fun b H3 =>
      if b = true then te σ2 H3 fun y H4 => ∃ acc, H4 D = some (.lst acc) ∧ acc.length < sizeLine ∧ Pv (i + 1) (upd H4 D (.lst (acc ++ [y]))) else Pv (i + 1) H3) (hd : ∀ H, Pv n H → Qd H) :
    ∃ W : Nat → Nat → Hp → Prop, (∃ m, W 0 m (upd H1 D (.lst []))) ∧ ∀ i m H, W i m H →
      ((ItzB b1 b2 K a b).stop i H ∧ Qd H) ∨ ((ItzB b1 b2 K a b).go i H ∧ ∃ Nx : Hp → Prop, (∀ H', Nx H' → ∃ m', m' < m ∧ W (i + 1) m' H') ∧ ∀ x H', (ItzB b1 b2 K a b).yld i H x H' → g x (wipe σ vs) H' fun σ2 H2 => wipe σ2 vs = wipe σ vs ∧ tt σ2 H2 fun b H3 =>
        if b = true then te σ2 H3 fun y H4 => ∃ acc, H4 D = some (.lst acc) ∧ acc.length < sizeLine ∧ Nx (upd H4 D (.lst (acc ++ [y]))) else Nx H3) := by
  refine ⟨fun i m H => m = n - i ∧ i ≤ n ∧ Pv i H, ⟨n, by simp, Nat.zero_le _, h0⟩, ?_⟩
  rintro i m H ⟨rfl, hi, p⟩
  obtain ⟨q1, q2⟩ := hl i H hi p
  by_cases hlt : i < n
  · have e1 : xs[i]? = some (xs[i]'(by omega)) := List.getElem?_eq_getElem _
    have e2 : ys[i]? = some (ys[i]'(by omega)) := List.getElem?_eq_getElem _
    refine .inr ⟨⟨xs, ys, _, _, q1, q2, e1, e2⟩, Pv (i + 1), fun H' p' => ⟨n - (i + 1), by omega, rfl, hlt, p'⟩, fun v H' y => ?_⟩
    obtain ⟨T, x1, y1, rfl, hT, rfl, f1, f2⟩ := y
    exact hs i x1 y1 T H (f1 xs q1) (f2 ys q2) p hT
  · have e : i = n := by omega
    subst e
    exact .inl ⟨⟨xs, ys, q1, q2, hn⟩, hd H p⟩

end ZB

set_option Elab.async false
set_option linter.all false
set_option maxRecDepth 100000
set_option maxHeartbeats 4000000
/-! the loops of a comprehension, whatever the turn does: also two fors, one in the other -/
namespace TK
open PySem PySem.Spec PyProof.Rows L2
theorem lc_listB {K : PySem.W.Frag} {a : Addr} {xs : List V} {g : TG} {σw : L2.St} {H0 : Hp} {Qd : Hp → Prop} {B : L2.St → Hp → (Hp → Prop) → Prop} (Pv : Nat → Hp → Prop) (h0 : Pv 0 H0) (hl : ∀ i H, i ≤ xs.length → Pv i H → SqL K H a xs)
    (hs : ∀ i x H, xs[i]? = some x → Pv i H → g x σw H fun σ2 H2 => B σ2 H2 (Pv (i + 1))) (hd : ∀ H, Pv xs.length H → Qd H) :
    ∃ W : Nat → Nat → Hp → Prop, (∃ m, W 0 m H0) ∧ ∀ i m H, W i m H →
      ((Itl K a).stop i H ∧ Qd H) ∨ ((Itl K a).go i H ∧ ∃ Nx : Hp → Prop, (∀ H', Nx H' → ∃ m', m' < m ∧ W (i + 1) m' H') ∧ ∀ x H', (Itl K a).yld i H x H' → g x σw H' fun σ2 H2 => B σ2 H2 Nx) := by
  refine ⟨fun i m H => m = xs.length - i ∧ i ≤ xs.length ∧ Pv i H, ⟨xs.length, by simp, Nat.zero_le _, h0⟩, ?_⟩
  rintro i m H ⟨rfl, hi, p⟩
  have qs := hl i H hi p
  by_cases hlt : i < xs.length
  · refine .inr ⟨⟨xs, xs[i], qs, by simp [hlt]⟩, Pv (i + 1), fun H' p' => ⟨xs.length - (i + 1), by omega, rfl, hlt, p'⟩, fun x H' y => ?_⟩
    obtain ⟨rfl, y⟩ := y
    exact hs i x H' (y xs qs) p
  · have e : i = xs.length := by omega
    subst e
    exact .inl ⟨⟨xs, qs, Nat.le_refl _⟩, hd H p⟩
theorem lc_rangeB {lo : Int} {n : Nat} {g : TG} {σw : L2.St} {H0 : Hp} {Qd : Hp → Prop} {B : L2.St → Hp → (Hp → Prop) → Prop} (Pv : Nat → Hp → Prop) (h0 : Pv 0 H0)
    (hs : ∀ i H, i < n → Pv i H → g (.int (lo + (i : Nat))) σw H fun σ2 H2 => B σ2 H2 (Pv (i + 1))) (hd : ∀ H, Pv n H → Qd H) :
    ∃ W : Nat → Nat → Hp → Prop, (∃ m, W 0 m H0) ∧ ∀ i m H, W i m H →
      ((Itr lo n).stop i H ∧ Qd H) ∨ ((Itr lo n).go i H ∧ ∃ Nx : Hp → Prop, (∀ H', Nx H' → ∃ m', m' < m ∧ W (i + 1) m' H') ∧ ∀ x H', (Itr lo n).yld i H x H' → g x σw H' fun σ2 H2 => B σ2 H2 Nx) := by
  refine ⟨fun i m H => m = n - i ∧ i ≤ n ∧ Pv i H, ⟨n, by simp, Nat.zero_le _, h0⟩, ?_⟩
  rintro i m H ⟨rfl, hi, p⟩
  by_cases hlt : i < n
  · refine .inr ⟨hlt, Pv (i + 1), fun H' p' => ⟨n - (i + 1), by omega, rfl, hlt, p'⟩, fun x H' y => ?_⟩
    obtain ⟨rfl, rfl⟩ := y
    exact hs i _ hlt p
  · have e : i = n := by omega
    subst e
    exact .inl ⟨Nat.le_refl _, hd H p⟩
end TK

set_option Elab.async false
set_option linter.all false
set_option maxRecDepth 100000
set_option maxHeartbeats 4000000
/-! a for and a comprehension over a sequence that is a list or a tuple -/
namespace ZB
open PySem PySem.Spec PyProof.Rows L2 RZ
theorem SqK.dtL {K : PySem.W.Frag} {H : Hp} {a : Addr} {xs : List V} (h : H a = some (.lst xs)) : SqK false K H a xs := .inl (.inl h)
theorem SqK.dtT {K : PySem.W.Frag} {H : Hp} {a : Addr} {xs : List V} (h : H a = some (.tup xs)) : SqK true K H a xs := .inl (.inl h)
def Itb (b : Bool) (K : PySem.W.Frag) (a : Addr) : It := if b = true then Itt K a else Itl K a
def iSeq (K : PySem.W.Frag) (tl : TE) : TI := fun σ H R => tl σ H fun x H1 => ∃ (a : Addr) (b : Bool), x = .ref a ∧ (∃ xs, SqK b K H1 a xs) ∧ R (Itb b K a) H1
theorem pi_seqK (K : PySem.W.Frag) {X : Cx} {tg l : Expr} {tl : TE} (hl : PE X l tl) (hK : X.K = K := by rfl) : PI X tg l (iSeq K tl) := by
  subst hK
  refine ⟨fun pins s σ H R I h => ?_⟩
  refine thn (hl.run pins s σ H _ I h) fun v s1 ⟨x, H1, I1, r1, q1⟩ => ?_
  obtain ⟨a, b, e, ⟨xs, hq⟩, q⟩ := q1
  subst e
  cases r1
  cases b with
  | true =>
    obtain ⟨its, rv, p, hz⟩ := I1.tuple (show SqT X.K H1 a xs from hq)
    refine wpAny_pyIter_tuple (show s1.heap.IsTuple a its.toArray from p) ?_
    refine ⟨s1.heap.objs.size, [s1.heap.objs.size], _, _, H1, rfl, I1.kept (t' := s1.toks) fun b o e => Heap.get?_push_of_some _ e, turn_tuple a _, ⟨_, Heap.get?_push_size _ rfl, rfl, rfl⟩, fun b hb => ?_, q⟩
    have e : b = s1.heap.objs.size := by simpa using hb
    subst e
    exact I1.fpOk (Nat.le_refl _) (I1.hok.fresh (Nat.le_refl _))
  | false =>
    obtain ⟨its, rv, p, hz⟩ := I1.list (show SqL X.K H1 a xs from hq)
    refine wpAny_pyIter_list p.isList ?_
    refine ⟨s1.heap.objs.size, [s1.heap.objs.size], _, _, H1, rfl, I1.kept (t' := s1.toks) fun b o e => Heap.get?_push_of_some _ e, turn_list a _, ⟨_, Heap.get?_push_size _ rfl, rfl, rfl⟩, fun b hb => ?_, q⟩
    have e : b = s1.heap.objs.size := by simpa using hb
    subst e
    exact I1.fpOk (Nat.le_refl _) (I1.hok.fresh (Nat.le_refl _))
/-- .. whatever the turn does -/
theorem lc_seqB {b : Bool} {K : PySem.W.Frag} {a : Addr} {xs : List V} {g : TG} {σw : L2.St} {H0 : Hp} {Qd : Hp → Prop} {B : L2.St → Hp → (Hp → Prop) → Prop} (Pv : Nat → Hp → Prop) (h0 : Pv 0 H0) (hl : ∀ i H, i ≤ xs.length → Pv i H → SqK b K H a xs)
    (hs : ∀ i x H, xs[i]? = some x → Pv i H → g x σw H fun σ2 H2 => B σ2 H2 (Pv (i + 1))) (hd : ∀ H, Pv xs.length H → Qd H) :
    ∃ W : Nat → Nat → Hp → Prop, (∃ m, W 0 m H0) ∧ ∀ i m H, W i m H →
      ((Itb b K a).stop i H ∧ Qd H) ∨ ((Itb b K a).go i H ∧ ∃ Nx : Hp → Prop, (∀ H', Nx H' → ∃ m', m' < m ∧ W (i + 1) m' H') ∧ ∀ x H', (Itb b K a).yld i H x H' → g x σw H' fun σ2 H2 => B σ2 H2 Nx) := by
  refine ⟨fun i m H => m = xs.length - i ∧ i ≤ xs.length ∧ Pv i H, ⟨xs.length, by simp, Nat.zero_le _, h0⟩, ?_⟩
  rintro i m H ⟨rfl, hi, p⟩
  have qs := hl i H hi p
  by_cases hlt : i < xs.length
  · cases b with
    | true =>
      refine .inr ⟨⟨xs, xs[i], qs, by simp [hlt]⟩, Pv (i + 1), fun H' p' => ⟨xs.length - (i + 1), by omega, rfl, hlt, p'⟩, fun x H' y => ?_⟩
      obtain ⟨rfl, y⟩ := y
      exact hs i x H' (y xs qs) p
    | false =>
      refine .inr ⟨⟨xs, xs[i], qs, by simp [hlt]⟩, Pv (i + 1), fun H' p' => ⟨xs.length - (i + 1), by omega, rfl, hlt, p'⟩, fun x H' y => ?_⟩
      obtain ⟨rfl, y⟩ := y
      exact hs i x H' (y xs qs) p
  · have e : i = xs.length := by omega
    subst e
    cases b with
    | true => exact .inl ⟨⟨xs, qs, Nat.le_refl _⟩, hd H p⟩
    | false => exact .inl ⟨⟨xs, qs, Nat.le_refl _⟩, hd H p⟩
theorem for_seqB {b : Bool} {K : PySem.W.Frag} {a : Addr} {xs : List V} {g : TG} {tb : TS} {D : Ends} {σ : L2.St} {H : Hp} (Pv : Nat → L2.St → Hp → Prop) (h0 : Pv 0 σ H) (hl : ∀ i σ H, i ≤ xs.length → Pv i σ H → SqK b K H a xs)
    (hs : ∀ i x σ H, xs[i]? = some x → Pv i σ H → g x σ H fun σ2 H2 => tb { D with nx := Pv (i + 1), ct := Pv (i + 1), bk := D.nx } σ2 H2) (hd : ∀ σ H, Pv xs.length σ H → D.nx σ H) :
    ∃ W : Nat → Nat → L2.St → Hp → Prop, (∃ m, W 0 m σ H) ∧ ∀ i m σ H, W i m σ H →
      ((Itb b K a).stop i H ∧ D.nx σ H) ∨ ((Itb b K a).go i H ∧ ∃ N : L2.St → Hp → Prop, (∀ σ' H', N σ' H' → ∃ m', m' < m ∧ W (i + 1) m' σ' H') ∧ ∀ x H', (Itb b K a).yld i H x H' → g x σ H' fun σ2 H2 => tb { D with nx := N, ct := N, bk := D.nx } σ2 H2) := by
  cases b with
  | true => exact for_tup Pv h0 hl hs hd
  | false => exact for_list Pv h0 hl hs hd
/-- over the keys of a dict (locked), whatever the turn does -/
theorem lc_keysB {d : Addr} {od : Obj} {kvs : List (L2.Key × V)} {g : TG} {σw : L2.St} {H0 : Hp} {Qd : Hp → Prop} {B : L2.St → Hp → (Hp → Prop) → Prop} (Pv : Nat → Hp → Prop) (h0 : Pv 0 H0) (hl : ∀ i H, i ≤ kvs.length → Pv i H → H d = some (.frz od (.dK kvs)))
    (hs : ∀ (i : Nat) k v H, kvs[i]? = some (k, v) → Pv i H → g (kV k) σw H fun σ2 H2 => B σ2 H2 (Pv (i + 1))) (hd : ∀ H, Pv kvs.length H → Qd H) :
    ∃ W : Nat → Nat → Hp → Prop, (∃ m, W 0 m H0) ∧ ∀ i m H, W i m H →
      ((Itk d od kvs).stop i H ∧ Qd H) ∨ ((Itk d od kvs).go i H ∧ ∃ Nx : Hp → Prop, (∀ H', Nx H' → ∃ m', m' < m ∧ W (i + 1) m' H') ∧ ∀ x H', (Itk d od kvs).yld i H x H' → g x σw H' fun σ2 H2 => B σ2 H2 Nx) := by
  refine ⟨fun i m H => m = kvs.length - i ∧ i ≤ kvs.length ∧ Pv i H, ⟨kvs.length, by simp, Nat.zero_le _, h0⟩, ?_⟩
  rintro i m H ⟨rfl, hi, p⟩
  have qs := hl i H hi p
  by_cases hlt : i < kvs.length
  · refine .inr ⟨⟨qs, hlt⟩, Pv (i + 1), fun H' p' => ⟨kvs.length - (i + 1), by omega, rfl, hlt, p'⟩, fun x H' y => ?_⟩
    obtain ⟨rfl, k, v, e, rfl⟩ := y
    exact hs i k v H' e p
  · have e : i = kvs.length := by omega
    subst e
    exact .inl ⟨⟨qs, Nat.le_refl _⟩, hd H p⟩
theorem for_keysB {d : Addr} {od : Obj} {kvs : List (L2.Key × V)} {g : TG} {tb : TS} {D : Ends} {σ : L2.St} {H : Hp} (Pv : Nat → L2.St → Hp → Prop) (h0 : Pv 0 σ H) (hl : ∀ i σ H, i ≤ kvs.length → Pv i σ H → H d = some (.frz od (.dK kvs)))
    (hs : ∀ (i : Nat) k v σ H, kvs[i]? = some (k, v) → Pv i σ H → g (kV k) σ H fun σ2 H2 => tb { D with nx := Pv (i + 1), ct := Pv (i + 1), bk := D.nx } σ2 H2) (hd : ∀ σ H, Pv kvs.length σ H → D.nx σ H) :
    ∃ W : Nat → Nat → L2.St → Hp → Prop, (∃ m, W 0 m σ H) ∧ ∀ i m σ H, W i m σ H →
      ((Itk d od kvs).stop i H ∧ D.nx σ H) ∨ ((Itk d od kvs).go i H ∧ ∃ N : L2.St → Hp → Prop, (∀ σ' H', N σ' H' → ∃ m', m' < m ∧ W (i + 1) m' σ' H') ∧ ∀ x H', (Itk d od kvs).yld i H x H' → g x σ H' fun σ2 H2 => tb { D with nx := N, ct := N, bk := D.nx } σ2 H2) := by
  refine ⟨fun i m σ H => m = kvs.length - i ∧ i ≤ kvs.length ∧ Pv i σ H, ⟨kvs.length, by simp, Nat.zero_le _, h0⟩, ?_⟩
  rintro i m σ H ⟨rfl, hi, p⟩
  have qs := hl i σ H hi p
  by_cases hlt : i < kvs.length
  · refine .inr ⟨⟨qs, hlt⟩, Pv (i + 1), fun σ' H' p' => ⟨kvs.length - (i + 1), by omega, rfl, hlt, p'⟩, fun x H' y => ?_⟩
    obtain ⟨rfl, k, v, e, rfl⟩ := y
    exact hs i k v σ H' e p
  · have e : i = kvs.length := by omega
    subst e
    exact .inl ⟨⟨qs, Nat.le_refl _⟩, hd σ H p⟩
/-! dicts of whole numbers, all True -/
def kI (ns : List Int) : List (L2.Key × V) := ns.map fun n => (Sum.inl n, V.bl true)
theorem kI_len (ns : List Int) : (kI ns).length = ns.length := by unfold kI; rw [List.length_map]
theorem kI_any (ns : List Int) (n : Int) : ((kI ns).any fun kv => decide (kv.1 = Sum.inl n)) = decide (n ∈ ns) := by
  induction ns with
  | nil => rfl
  | cons m ns ih =>
    show (decide ((Sum.inl m : L2.Key) = Sum.inl n) || (kI ns).any fun kv => decide (kv.1 = Sum.inl n)) = _
    rw [ih]
    by_cases e : m = n
    · subst e
      simp
    · have e1 : ¬ ((Sum.inl m : L2.Key) = Sum.inl n) := fun z => e (Sum.inl.inj z)
      rw [decide_eq_false e1, Bool.false_or]
      refine decide_eq_decide.mpr ⟨fun h => List.mem_cons_of_mem _ h, fun h => ?_⟩
      rcases List.mem_cons.mp h with h | h
      · exact absurd h.symm e
      · exact h
theorem kI_has (ns : List Int) (n : Int) : (valV (kI ns) (Sum.inl n)).isSome = decide (n ∈ ns) := by rw [← valV_any, kI_any]
theorem kI_old {ns : List Int} {n : Int} (h : n ∈ ns) : putK (kI ns) (Sum.inl n) (V.bl true) = kI ns := by
  unfold putK
  rw [kI_any, if_pos (decide_eq_true h)]
  have : ∀ l : List Int, (kI l).map (fun kv => if kv.1 = (Sum.inl n : L2.Key) then (kv.1, V.bl true) else kv) = kI l := fun l => by
    induction l with
    | nil => rfl
    | cons q l ih =>
      show (if (Sum.inl q : L2.Key) = Sum.inl n then ((Sum.inl q : L2.Key), V.bl true) else (Sum.inl q, V.bl true)) :: (kI l).map (fun kv => if kv.1 = (Sum.inl n : L2.Key) then (kv.1, V.bl true) else kv) = _
      rw [ite_self, ih]
      rfl
  exact this ns
theorem kI_new {ns : List Int} {n : Int} (h : n ∉ ns) : putK (kI ns) (Sum.inl n) (V.bl true) = kI (ns ++ [n]) := by
  unfold putK
  rw [kI_any, if_neg (by simpa using h)]
  unfold kI
  rw [List.map_append]
  rfl
def addI (ns : List Int) (n : Int) : List Int := if n ∈ ns then ns else ns ++ [n]
theorem kI_put (ns : List Int) (n : Int) : putK (kI ns) (Sum.inl n) (V.bl true) = kI (addI ns n) := by
  unfold addI
  by_cases h : n ∈ ns
  · rw [if_pos h, kI_old h]
  · rw [if_neg h, kI_new h]
theorem mem_addI {ns : List Int} {n m : Int} : m ∈ addI ns n ↔ m ∈ ns ∨ m = n := by
  unfold addI
  by_cases h : n ∈ ns
  · rw [if_pos h]
    exact ⟨.inl, fun z => z.elim id fun e => e ▸ h⟩
  · rw [if_neg h, List.mem_append, List.mem_singleton]
theorem nd_addI {ns : List Int} {n : Int} (h : ns.Nodup) : (addI ns n).Nodup := by
  unfold addI
  by_cases hn : n ∈ ns
  · rw [if_pos hn]
    exact h
  · rw [if_neg hn, List.nodup_append]
    exact ⟨h, by simp, fun a ha b hb => by
      rw [List.mem_singleton.mp hb]
      rintro rfl
      exact hn ha⟩
theorem len_addI (ns : List Int) (n : Int) : (addI ns n).length ≤ ns.length + 1 := by
  unfold addI
  split
  · exact Nat.le_succ _
  · rw [List.length_append]
    exact Nat.le_refl _
theorem nd_len {ns : List Int} {m : Nat} (h : ns.Nodup) (hb : ∀ n ∈ ns, 0 ≤ n ∧ n < (m : Int)) : ns.length ≤ m := by
  have h2 : ns.length ≤ ((List.range m).map fun (i : Nat) => (i : Int)).length := by
    refine List.Nodup.length_le_of_subset h fun n hn => ?_
    obtain ⟨h1, h2⟩ := hb n hn
    exact List.mem_map.mpr ⟨n.toNat, List.mem_range.mpr (by omega), by omega⟩
  rwa [List.length_map, List.length_range] at h2
end ZB

set_option Elab.async false
set_option linter.all false
/-! narrowing: masks and rows that are left -/
namespace MR
open PySem PySem.W PyProof.Rows
theorem vals_sub {m : Nat} {sz : Nat} (hm : m < 2 ^ sz) (h4 : sz ≤ 4) : List.Sublist (valsM m) (fullV sz) := by
  have h : ∀ sz, sz ≤ 4 → ∀ m, m < 2 ^ sz → List.Sublist (valsM m) (fullV sz) := by decide +kernel
  exact h sz h4 m hm
theorem mask16 {m sz : Nat} (hm : m < 2 ^ sz) (h4 : sz ≤ 4) : m < 16 := Nat.lt_of_lt_of_le hm (Nat.pow_le_pow_right (by decide) h4)
theorem clr_le (m v : Nat) : clrM m v ≤ m := by
  unfold clrM
  split
  · exact Nat.sub_le ..
  · exact Nat.le_refl _
theorem vals_clr {m v : Nat} (hm : m < 16) (hv : v < 4) : valsM (clrM m v) = (valsM m).filter fun x => decide (x ≠ (v : Int)) := by
  have h : ∀ m, m < 16 → ∀ v, v < 4 → valsM (clrM m v) = (valsM m).filter fun x => decide (x ≠ (v : Int)) := by decide +kernel
  exact h m hm v hv
theorem vals_clr_lt {m v : Nat} (hm : m < 16) (hv : v < 4) (hb : m.testBit v = true) : (valsM (clrM m v)).length < (valsM m).length := by
  have h : ∀ m, m < 16 → ∀ v, v < 4 → m.testBit v = true → (valsM (clrM m v)).length < (valsM m).length := by decide +kernel
  exact h m hm v hv hb
theorem vals_zero {m : Nat} (hm : m < 16) : valsM m = [] ↔ m = 0 := by
  have h : ∀ m, m < 16 → (valsM m = [] ↔ m = 0) := by decide +kernel
  exact h m hm
theorem mem_valsI {m : Nat} {v : Nat} : (v : Int) ∈ valsM m ↔ v < 4 ∧ m.testBit v = true := by
  rw [mem_vals]
  constructor
  · rintro ⟨w, e, h⟩
    have : v = w := by omega
    subst this
    exact h
  · exact fun h => ⟨v, rfl, h⟩
/-- one more value taken away -/
def clrF (ms : List Nat) (i v : Nat) : List Nat := ms.set i (clrM (ms.getD i 0) v)
theorem clrF_len {ms : List Nat} {i v : Nat} : (clrF ms i v).length = ms.length := by unfold clrF; rw [List.length_set]
theorem setD_at {α : Type} {l : List α} {i j : Nat} {x d : α} (hi : i < l.length) : (l.set i x).getD j d = if i = j then x else l.getD j d := by
  rw [List.getD_eq_getElem?_getD, List.getElem?_set]
  by_cases e : i = j
  · subst e
    rw [if_pos rfl, if_pos rfl, if_pos hi]
    rfl
  · rw [if_neg e, if_neg e, List.getD_eq_getElem?_getD]
theorem clrF_at {ms : List Nat} {i j v : Nat} (hi : i < ms.length) : (clrF ms i v).getD j 0 = if i = j then clrM (ms.getD i 0) v else ms.getD j 0 := setD_at hi
def allLt (ms : List Nat) (b : Nat) : Prop := ∀ i, ms.getD i 0 < b
theorem clrF_lt {ms : List Nat} {i v b : Nat} (h : allLt ms b) (hb : 0 < b) (hi : i < ms.length) : allLt (clrF ms i v) b := fun j => by
  rw [clrF_at hi]
  split
  · exact Nat.lt_of_le_of_lt (clr_le ..) (h i)
  · exact h j
theorem clrF_sub {ms : List Nat} {i v : Nat} (h : allLt ms 16) (hv : v < 4) (hi : i < ms.length) : SubF (famM (clrF ms i v)) (famM ms) := fun j x e => by
  rw [famM_at] at e ⊢
  rw [clrF_at hi] at e
  split at e
  · rename_i hj
    subst hj
    rw [vals_clr (h i) hv] at e
    exact (List.mem_filter.mp e).1
  · exact e
theorem cnt_set : ∀ {f : List (List Int)} {i : Nat} {l : List Int}, i < f.length → l.length < (f.getD i []).length → cntF (f.set i l) < cntF f
  | [], i, l, h, _ => by simp at h
  | a :: f, 0, l, h, e => by
    have e : l.length < a.length := e
    show l.length + cntF f < a.length + cntF f
    omega
  | a :: f, i + 1, l, h, e => by
    have := cnt_set (f := f) (i := i) (l := l) (by simpa using h) e
    show a.length + cntF (f.set i l) < a.length + cntF f
    omega
theorem clrF_cnt {ms : List Nat} {i v : Nat} (h : allLt ms 16) (hv : v < 4) (hi : i < ms.length) (hb : (ms.getD i 0).testBit v = true) : cntF (famM (clrF ms i v)) < cntF (famM ms) := by
  have e : famM (clrF ms i v) = (famM ms).set i (valsM (clrM (ms.getD i 0) v)) := by
    unfold famM clrF
    rw [List.map_set]
  rw [e]
  refine cnt_set (by unfold famM; rw [List.length_map]; exact hi) ?_
  rw [famM_at]
  exact vals_clr_lt (h i) hv hb
theorem famM_len {ms : List Nat} : (famM ms).length = ms.length := by unfold famM; rw [List.length_map]
theorem cnt_famM {ms : List Nat} : cntF (famM ms) ≤ ms.length * 4 := by
  induction ms with
  | nil => exact Nat.le_refl _
  | cons m ms ih =>
    show (valsM m).length + cntF (famM ms) ≤ _
    have : (valsM m).length ≤ 4 := by
      unfold valsM
      rw [List.length_map]
      exact Nat.le_trans (List.length_filter_le ..) (by rw [List.length_range]; exact Nat.le_refl _)
    rw [List.length_cons, Nat.add_mul]
    omega
/-- what stands at every time: the masks hold the greatest family, the rows left are all that lie in the masks -/
structure Nv (rels : RelL) (cs : List ConL) (sz n : Nat) (rws : List (List (List Int))) (ms : List Nat) (fl : Bool) : Prop where
  rl : rws.length = cs.length
  ml : ms.length = n
  lt : allLt ms (2 ^ sz)
  rin : ∀ (i : Nat) (c : ConL), cs[i]? = some c → (∀ r ∈ rws.getD i [], r ∈ (rels.getD c.1 (0, [])).2) ∧ ∀ r ∈ (rels.getD c.1 (0, [])).2, fitB (famM ms) c.2 r = true → r ∈ rws.getD i []
  best : ∀ g, ConsF rels cs g → SubF g (fullF sz n) → SubF g (famM ms)
  fl : fl = true ↔ ∃ i, i < n ∧ ms.getD i 0 = 0
theorem Nv.start {rels : RelL} {cs : List ConL} {sz n : Nat} (h1 : 1 ≤ sz) (h4 : sz ≤ 4) : Nv rels cs sz n (cs.map fun c => (rels.getD c.1 (0, [])).2) (List.replicate n (2 ^ sz - 1)) false where
  rl := by rw [List.length_map]
  ml := by rw [List.length_replicate]
  lt i := by
    have : 0 < 2 ^ sz := Nat.pow_pos (by decide)
    rw [List.getD_eq_getElem?_getD, List.getElem?_replicate]
    split
    · show 2 ^ sz - 1 < 2 ^ sz
      omega
    · exact this
  rin i c e := by
    rw [List.getD_eq_getElem?_getD, List.getElem?_map, e]
    exact ⟨fun r h => h, fun r h _ => h⟩
  best g _ h := by
    have e : famM (List.replicate n (2 ^ sz - 1)) = fullF sz n := by
      unfold famM fullF
      rw [List.map_replicate, vals_full h4, List.map_const', List.length_range]
    rw [e]
    exact h
  fl := by
    constructor
    · intro h
      cases h
    · rintro ⟨i, hi, e⟩
      rw [List.getD_eq_getElem?_getD, List.getElem?_replicate, if_pos hi] at e
      have e : 2 ^ sz - 1 = 0 := e
      have : 2 ^ 1 ≤ 2 ^ sz := Nat.pow_le_pow_right (by decide) h1
      omega
section
variable {rels : RelL} {cs : List ConL} {sz n : Nat} {rws : List (List (List Int))} {ms : List Nat} {fl : Bool}
/-- a constraint's rows are looked through -/
theorem Nv.rows (h : Nv rels cs sz n rws ms fl) {i : Nat} {c : ConL} (e : cs[i]? = some c) : Nv rels cs sz n (rws.set i ((rws.getD i []).filter (fitB (famM ms) c.2))) ms fl :=
  { h with
    rl := by rw [List.length_set]; exact h.rl
    rin := fun j d ed => by
      have hi : i < rws.length := by rw [h.rl]; exact (List.getElem?_eq_some_iff.mp e).1
      rw [setD_at hi]
      split
      · rename_i ij
        subst ij
        rw [e] at ed
        cases ed
        obtain ⟨a, b⟩ := h.rin i c e
        exact ⟨fun r hr => a r (List.mem_filter.mp hr).1, fun r hr hf => List.mem_filter.mpr ⟨b r hr hf, hf⟩⟩
      · exact h.rin j d ed }
/-- a value that no row has is taken away -/
theorem Nv.clear (h : Nv rels cs sz n rws ms false) (h4 : sz ≤ 4) {i p v : Nat} {c : ConL} (e : cs[i]? = some c) (hp : p < c.2.length) (hv : v < 4) (hn : c.2.getD p 0 < n) (no : ∀ r ∈ rws.getD i [], r.getD p 0 ≠ (v : Int)) :
    Nv rels cs sz n rws (clrF ms (c.2.getD p 0) v) (decide ((clrF ms (c.2.getD p 0) v).getD (c.2.getD p 0) 0 = 0)) := by
  have l16 : allLt ms 16 := fun j => mask16 (h.lt j) h4
  have hi : c.2.getD p 0 < ms.length := by rw [h.ml]; exact hn
  have sb := clrF_sub l16 hv hi
  refine { h with ml := clrF_len.trans h.ml, lt := clrF_lt h.lt (Nat.pow_pos (by decide)) hi, rin := fun j d ed => ?_, best := fun g hc hg j x hx => ?_, fl := ?_ }
  · obtain ⟨a, b⟩ := h.rin j d ed
    exact ⟨a, fun r hr hf => b r hr (fitB_mono sb hf)⟩
  · have hx0 := h.best g hc hg j x hx
    rw [famM_at] at hx0 ⊢
    rw [clrF_at hi]
    split
    · rename_i ij
      subst ij
      rw [vals_clr (l16 _) hv]
      refine List.mem_filter.mpr ⟨hx0, decide_eq_true fun ex => ?_⟩
      subst ex
      have s := hc _ _ hx
      unfold supB supC at s
      rw [List.all_eq_true] at s
      have s1 := s c (List.mem_of_getElem? e)
      rw [List.all_eq_true] at s1
      have s2 := s1 p (List.mem_range.mpr hp)
      unfold supA at s2
      rw [Bool.or_eq_true] at s2
      rcases s2 with s2 | s2
      · simp at s2
      · rw [List.any_eq_true] at s2
        obtain ⟨r, hr, g2⟩ := s2
        unfold goodB at g2
        rw [Bool.and_eq_true] at g2
        exact no r ((h.rin i c e).2 r hr (fitB_mono (h.best g hc hg) g2.2)) (of_decide_eq_true g2.1)
    · exact hx0
  · rw [decide_eq_true_iff]
    constructor
    · exact fun z => ⟨_, hn, z⟩
    · rintro ⟨j, hj, z⟩
      rw [clrF_at hi] at z ⊢
      rw [if_pos rfl]
      split at z
      · exact z
      · exact absurd (h.fl.mpr ⟨j, hj, z⟩) Bool.false_ne_true
/-- a constraint is consistent with the masks -/
def consC (rels : RelL) (ms : List Nat) (c : ConL) : Prop := ∀ p, p < c.2.length → ∀ x ∈ valsM (ms.getD (c.2.getD p 0) 0), ∃ r ∈ (rels.getD c.1 (0, [])).2, r.getD p 0 = x ∧ fitB (famM ms) c.2 r = true
theorem fitB_cong {f g : List (List Int)} {ps : List Nat} {r : List Int} (h : ∀ p ∈ ps, f.getD p [] = g.getD p []) : fitB f ps r = fitB g ps r := by
  unfold fitB
  rw [Bool.eq_iff_iff, List.all_eq_true, List.all_eq_true]
  have k : ∀ x, x ∈ List.range ps.length → f.getD (ps.getD x 0) [] = g.getD (ps.getD x 0) [] := fun x hx => h _ (by
    have := List.mem_range.mp hx
    rw [List.getD_eq_getElem?_getD, List.getElem?_eq_getElem this]
    exact List.getElem_mem _)
  exact ⟨fun a x hx => by rw [← k x hx]; exact a x hx, fun a x hx => by rw [k x hx]; exact a x hx⟩
theorem consC_cong {ms ms' : List Nat} {c : ConL} (h : ∀ p ∈ c.2, ms.getD p 0 = ms'.getD p 0) (k : consC rels ms c) : consC rels ms' c := fun p hp x hx => by
  have hm : c.2.getD p 0 ∈ c.2 := by rw [List.getD_eq_getElem?_getD, List.getElem?_eq_getElem hp]; exact List.getElem_mem _
  rw [← h _ hm] at hx
  obtain ⟨r, a, b, d⟩ := k p hp x hx
  exact ⟨r, a, b, by rw [← d]; exact (fitB_cong fun q hq => by rw [famM_at, famM_at, h q hq]).symm⟩
theorem cons_all (h : ∀ c ∈ cs, consC rels ms c) : ConsF rels cs (famM ms) := fun i x hx => by
  rw [famM_at] at hx
  unfold supB supC
  rw [List.all_eq_true]
  intro c hc
  rw [List.all_eq_true]
  intro a ha
  have ha := List.mem_range.mp ha
  unfold supA
  rw [Bool.or_eq_true]
  by_cases en : c.2.getD a 0 = i
  · right
    subst en
    obtain ⟨r, h1, h2, h3⟩ := h c hc a ha x hx
    rw [List.any_eq_true]
    refine ⟨r, h1, ?_⟩
    unfold goodB
    rw [Bool.and_eq_true]
    exact ⟨decide_eq_true h2, h3⟩
  · left
    rw [decide_eq_false en]
    rfl
/-- the end without a failure: the masks are the greatest family -/
theorem Nv.done (h : Nv rels cs sz n rws ms false) (h4 : sz ≤ 4) (hc : ∀ c ∈ cs, consC rels ms c) {t : Nat} {f : List (List Int)} (hf : FamSt rels cs sz n t f) (cf : ConsF rels cs f) : f = famM ms ∧ [] ∉ f := by
  have e : f = famM ms := best_eq hf (by rw [famM_len, h.ml]) (fun i => by rw [famM_at]; exact vals_sub (h.lt i) h4) (cons_all hc) (h.best f cf (sub_full hf.len hf.sub))
  refine ⟨e, fun hm => ?_⟩
  rw [e] at hm
  obtain ⟨m, hm, z⟩ := List.mem_map.mp hm
  obtain ⟨i, hi, em⟩ := List.mem_iff_getElem.mp hm
  have m16 : m < 16 := by
    have := h.lt i
    rw [List.getD_eq_getElem?_getD, List.getElem?_eq_getElem hi] at this
    rw [← em]
    exact mask16 this h4
  have := (vals_zero m16).mp z
  exact absurd (h.fl.mpr ⟨i, by rw [← h.ml]; exact hi, by rw [List.getD_eq_getElem?_getD, List.getElem?_eq_getElem hi, ← this]; exact em⟩) Bool.false_ne_true
/-- a failure: the greatest family has an empty place -/
theorem Nv.fail (h : Nv rels cs sz n rws ms true) {t : Nat} {f : List (List Int)} (hf : FamSt rels cs sz n t f) (cf : ConsF rels cs f) : [] ∈ f := by
  obtain ⟨i, hi, e⟩ := h.fl.mp rfl
  have s := h.best f cf (sub_full hf.len hf.sub)
  have il : i < f.length := by rw [hf.len]; exact hi
  have ef : f.getD i [] = [] := List.eq_nil_iff_forall_not_mem.mpr fun x hx => by
    have := s i x hx
    rw [famM_at, e] at this
    rw [show valsM 0 = [] from by decide] at this
    simp at this
  rw [List.getD_eq_getElem?_getD, List.getElem?_eq_getElem il] at ef
  have ef : f[i] = [] := ef
  rw [← ef]
  exact List.getElem_mem _
end
end MR

set_option Elab.async false
set_option linter.all false
set_option maxRecDepth 100000
set_option maxHeartbeats 4000000
/-! all of a list of whole numbers -/
namespace AL
open PySem PySem.Spec PyProof.Rows L2 TK
open PySem.W PySem.SeqAt
section
variable {prog : Program} {w : World} {A : Around} {E : Value → Shared → Prop} {s : Shared}
theorem all_get : ∀ (ns : List Int), (List.range ns.length).all (fun i => ns.getD i 0 != 0) = ns.all (· != 0) := fun ns => by
  rw [Bool.eq_iff_iff, List.all_eq_true, List.all_eq_true]
  constructor
  · intro h x hx
    obtain ⟨i, hi, rfl⟩ := List.getElem_of_mem hx
    have := h i (List.mem_range.mpr hi)
    rwa [List.getD_eq_getElem?_getD, List.getElem?_eq_getElem hi] at this
  · intro h i hi
    have hi := List.mem_range.mp hi
    rw [List.getD_eq_getElem?_getD, List.getElem?_eq_getElem hi]
    exact h _ (List.getElem_mem hi)
theorem all_ints_at {l : Addr} {vs : Array Value} {ns : List Int} {Q : Value → Shared → Prop} (hh : A.handled = none) (hl : s.heap.IsList l vs) (len : vs.size = ns.length) (hI : ∀ (i : Nat) (v : Value), vs[i]? = some v → ∃ t, v = Value.int (ns.getD i 0) t)
    (q : ∀ h' tk, (∀ b o, s.heap.get? b = some o → h'.get? b = some o) → Q (.bool (ns.all (· != 0))) { s with heap := h', toks := tk }) :
    wpAny (model prog w) A (call (.builtin "all") [.ref l]) Q E s := by
  refine call_all_walkS (iter_listW (A := A.in1) hh hl fun s₂ e W st hfp hw hk => ?_)
  refine ⟨_, _, _, _, _, _, _, fun i => ns.getD i 0 != 0, rfl, W, st, fun i v s Q E hv hQ => ?_, fun s' m => ?_⟩
  · obtain ⟨t, rfl⟩ := hI i v hv
    exact truthy_int hQ
  · obtain ⟨h', tk, rfl, kp⟩ := moved_old e rfl m
    rw [len, all_get]
    exact q h' tk kp
end
def rAllI (K : PySem.W.Frag) : List V → Hp → VK → Prop := fun vs H Q => ∃ (a : Addr) (ns : List Int), vs = [V.ref a] ∧ SqL K H a (ns.map V.int) ∧ Q (.bl (ns.all (· != 0))) H
theorem cr_allI (K : PySem.W.Frag) {X : Cx} (hc : X.calm = true) (hK : X.K = K := by rfl) : CallR X (.builtin "all") (rAllI K) := by
  subst hK
  intro pins s σ H vs us Q I r h
  obtain ⟨a, ns, rfl, ha, q⟩ := h
  rw [Vals.ref1 r]
  obtain ⟨its, rv, pl, hz⟩ := I.list ha
  have hl := rv.length
  rw [List.length_map] at hl
  refine all_ints_at (ns := ns) (I.ok.hd hc) pl.isList (by simpa using hl.symm) (fun i v ev => ?_) fun h' tk kp => ?_
  · have evi : its[i]? = some v := by simpa using ev
    have hi : i < ns.length := by
      have := (List.getElem?_eq_some_iff.mp evi).1
      omega
    obtain ⟨u, hu', ru⟩ := rv.get (i := i) (x := .int ns[i]) (by rw [List.getElem?_map, List.getElem?_eq_getElem hi]; rfl)
    rw [hu'] at evi
    cases evi
    rw [List.getD_eq_getElem?_getD, List.getElem?_eq_getElem hi]
    obtain ⟨t, et⟩ := ru
    exact ⟨t, et⟩
  · exact ⟨.bl _, H, I.kept kp, rfl, q⟩
end AL

set_option Elab.async false
set_option linter.all false
set_option maxRecDepth 100000
set_option maxHeartbeats 4000000
namespace K15
open PySem PySem.Spec PyProof.Rows L2 TK MR ZB
variable {P : Program} {w : World} {K : PySem.W.Frag} {mg : Str → Option Value} {base : Heap}
def bitR (ms ps : List Nat) (r : List Int) (to : Nat) : Int := if (ms.getD (ps.getD to 0) 0).testBit (r.getD to 0).toNat then 1 else 0
theorem bitR_fit {ms ps : List Nat} {r : List Int} (hl : r.length = ps.length) (hv : ∀ x ∈ r, 0 ≤ x ∧ x < 4) : (((List.range ps.length).map (bitR ms ps r)).all (· != 0)) = fitB (famM ms) ps r := by
  unfold fitB
  rw [List.all_map, Bool.eq_iff_iff, List.all_eq_true, List.all_eq_true]
  have k : ∀ x, x ∈ List.range ps.length → ((· != (0 : Int)) ∘ bitR ms ps r) x = decide (r.getD x 0 ∈ (famM ms).getD (ps.getD x 0) []) := fun x hx => by
    have hx := List.mem_range.mp hx
    have hb := hv (r.getD x 0) (by rw [List.getD_eq_getElem?_getD, List.getElem?_eq_getElem (by omega)]; exact List.getElem_mem _)
    obtain ⟨v, ev⟩ := Int.eq_ofNat_of_zero_le hb.1
    rw [famM_at]
    show (bitR ms ps r x != 0) = _
    unfold bitR
    rw [ev] at hb ⊢
    rw [Int.toNat_natCast, show decide ((v : Int) ∈ valsM (ms.getD (ps.getD x 0) 0)) = decide (v < 4 ∧ (ms.getD (ps.getD x 0) 0).testBit v = true) from decide_eq_decide.mpr mem_valsI]
    have v4 : v < 4 := by omega
    cases (ms.getD (ps.getD x 0) 0).testBit v <;> simp [v4]
  exact ⟨fun a x hx => by rw [← k x hx]; exact a x hx, fun a x hx => by rw [k x hx]; exact a x hx⟩
/-- a sequence of rows, a list or a tuple -/
def SRw (K : PySem.W.Frag) (H : Hp) (v : V) (rows : List (List Int)) : Prop := ∃ (a : Addr) (b : Bool) (xs : List V), v = .ref a ∧ SqK b K H a xs ∧ DTs K H xs (rows.map rowD)
theorem SqK.gr {b : Bool} {H H' : Hp} {a : Addr} {xs : List V} (g : Gr H H') (h : SqK b K H a xs) : SqK b K H' a xs := by
  cases b with
  | true => exact Gx.seqT g h
  | false => exact Gx.seqL g h
/-! rows_left -/
def sp_rows_left (K : PySem.W.Frag) : Sp := fun vs H Q _ => ∃ (v : V) (s m : Addr) (rows : List (List Int)) (ps ms : List Nat), vs = [v, .ref s, .ref m] ∧ SRw K H v rows ∧ H s = some (.tup ((natL ps).map V.int)) ∧ H m = some (.lst ((natL ms).map V.int)) ∧ allLt ms 16 ∧ (∀ p ∈ ps, p < ms.length) ∧ ps.length ≤ 4 ∧ rows.length ≤ 300 ∧
  (∀ r ∈ rows, r.length = ps.length ∧ ∀ x ∈ r, 0 ≤ x ∧ x < 4) ∧ ∀ p H', Gr H H' → H p = none → LR K H' p (rows.filter (fitB (famM ms) ps)) → Q (.ref p) H'
theorem ok_rows_left (T : Txt K mg base) : FnOk P w K mg base CX0 1 T.rows_left.f T.rows_left.fd p_rows_left (sp_rows_left K) := by
  refine T.rows_left.F.ok sc_rows_left (fun vs H Q E h => ?_) (fun A outer s H vs Q E hr h => ?_)
  · obtain ⟨_, _, _, _, _, _, rfl, _⟩ := h
    rfl
  · obtain ⟨v, s0, m0, rows, ps, ms, rfl, hv, hs, hm, l16, pn, p4, few, good, q⟩ := h
    refine ⟨_, (pss_cons (ps_set (i := 3) sc_rows_left.nd rfl (by first | exact .inl rfl | exact .inr rfl) (pe_lc (own := [("variable", 4)]) (g := gName 4) (tt := tYes) rfl sc_rows_left.nd (pi_tupK K (pv 1)) (blkOk_by (N := n_rows_left) (sc := defScope s_rows_left) (by decide +kernel)) (fun _ _ _ _ _ => pg_name (i := 4) sc_rows_left.nd rfl (Or.inl rfl)) (fun _ _ _ _ _ => pts_nil) (fun _ _ _ _ _ => pe_ix (ix_listK K) (pv 2) (pv 4) (fun _ _ => rfl)))) (pss_one (ps_ret (pe_lc (own := [("row", 5)]) (g := gName 5) rfl sc_rows_left.nd (pi_seqK K (pv 0)) (blkOk_by (N := n_rows_left) (sc := defScope s_rows_left) (by decide +kernel)) (fun _ _ _ _ _ => pg_name (i := 5) sc_rows_left.nd rfl (by first | exact .inl rfl | exact .inr rfl))
        (fun _ _ _ _ _ => pts_one (pt_val (pe_callB (AL.cr_allI K rfl) (by rfl) T.b_all boot_all (pa_cons (pe_lc (own := [("value", 6), ("mask", 7)]) (g := gTup K 2 (gCons (gName 6) (gCons (gName 7) gNil))) (tt := tYes) rfl sc_rows_left.nd (pi_zipTL K (by rfl) T.b_zip (pa_cons (pv 5) (pa_cons (pv 3) pa_nil)))
          (blkOk_by (by kernel_rfl)) (fun _ _ _ _ _ => pg_tup (by rfl) (pgs_cons (pg_name (i := 6) sc_rows_left.nd rfl (Or.inl rfl)) (pgs_cons (pg_name (i := 7) sc_rows_left.nd rfl (Or.inl rfl)) pgs_nil)))
          (fun _ _ _ _ _ => pts_nil) (fun _ _ _ _ _ => pe_op op_and (pe_op op_shr (pv 7) (pv 6)) pe_int)) pa_nil)))) (fun _ _ _ _ _ => pv 5))))), ?_⟩
    have psl : ((natL ps).map V.int).length = ps.length := by rw [List.length_map, List.length_map]
    refine ⟨.ref s0, rfl, s0, rfl, ⟨_, .inl (.inl hs)⟩, fun D nD => ?_⟩
    refine lc_tup (K := K) (a := s0) (xs := (natL ps).map V.int) (fun i H' => Gr H H' ∧ H' D = some (.lst (((List.range i).map fun k => ((ms.getD (ps.getD k 0) 0 : Nat) : Int)).map V.int))) ⟨Gx.new nD, upd_same⟩ (fun i H' _ h => .inl (.inl (Gx.tupS h.1 .nil hs))) (fun i x H' ex h => ?_) (fun H1 h => ?_)
    · obtain ⟨g, hD⟩ := h
      rw [List.getElem?_map, List.getElem?_map] at ex
      obtain ⟨y, ey, rfl⟩ := Option.map_eq_some_iff.mp ex
      obtain ⟨p, ep, rfl⟩ := Option.map_eq_some_iff.mp ey
      have hp := pn p (List.mem_of_getElem? ep)
      have hi : i < ps.length := (List.getElem?_eq_some_iff.mp ep).1
      have epi : ps.getD i 0 = p := by rw [List.getD_eq_getElem?_getD, ep]; rfl
      refine ⟨rfl, yesT ⟨.ref m0, rfl, .int (p : Int), rfl, m0, _, (p : Int), _, rfl, rfl, .inl (.inl (g.lst hm)), nat_at hp, _, hD, ?_, g.wr nD, ?_⟩⟩
      · rw [List.length_map, List.length_map, List.length_range]
        exact small1000 (by omega)
      · rw [upd_same, List.range_succ, List.map_append, List.map_append, List.map_cons, epi]
        rfl
    · obtain ⟨g1, hD⟩ := h
      rw [psl] at hD
      obtain ⟨a, b, xs, rfl, hq, hds⟩ := hv
      have xl : xs.length = rows.length := by rw [hds.1, List.length_map]
      refine ⟨.ref a, rfl, a, b, rfl, ⟨xs, SqK.gr g1 hq⟩, fun L nL => ?_⟩
      refine lc_seqB (K := K) (a := a) (xs := xs) (fun i H' => Gr H1 H' ∧ LR K H' L ((rows.take i).filter (fitB (famM ms) ps))) ⟨Gx.new nL, [], upd_same, .nil⟩ (fun i H' _ h => SqK.gr (g1.trans h.1) hq) (fun i x H' ex h => ?_) (fun H2 h => ?_)
      · obtain ⟨g, ws, hL, hws⟩ := h
        obtain ⟨d, ed, dx⟩ := hds.at' ex
        rw [List.getElem?_map] at ed
        obtain ⟨r, er, rfl⟩ := Option.map_eq_some_iff.mp ed
        have hi : i < rows.length := (List.getElem?_eq_some_iff.mp er).1
        obtain ⟨rl, rv⟩ := good r (List.mem_of_getElem? er)
        have dx' := dx.gr (g1.trans g)
        obtain ⟨t, rfl, ht⟩ := dx'.row_invS
        have hD' := g.lst hD
        refine ⟨rfl, .ref t, rfl, .ref D, rfl, t, D, _, _, rfl, SqK.dtT ht, SqK.dtL hD', fun B nB => ?_⟩
        refine lc_zipB (b1 := true) (b2 := false) ps.length (by rw [List.length_map]; omega) (by rw [List.length_map, List.length_map, List.length_range]; exact Nat.le_refl _) (.inl (by rw [List.length_map]; omega)) (fun j H2 => Gr H' H2 ∧ H2 B = some (.lst (((List.range j).map (bitR ms ps r)).map V.int))) ⟨Gx.new nB, upd_same⟩
          (fun j H2 _ p => ⟨SqK.dtT (Gx.tupS p.1 .nil ht), SqK.dtL (p.1.lst hD')⟩) (fun j x y T H2 ex ey p nT => ?_) (fun H2 p => ?_)
        · obtain ⟨g2, hB⟩ := p
          rw [List.getElem?_map] at ex ey
          obtain ⟨x, ex1, rfl⟩ := Option.map_eq_some_iff.mp ex
          obtain ⟨y, ey1, rfl⟩ := Option.map_eq_some_iff.mp ey
          have hj : j < ps.length := by
            have := (List.getElem?_eq_some_iff.mp ex1).1
            omega
          rw [List.getElem?_map, List.getElem?_range hj] at ey1
          have ey2 := Option.some.inj ey1
          subst ey2
          have ex2 : r.getD j 0 = x := by rw [List.getD_eq_getElem?_getD, ex1]; rfl
          have xb := rv x (List.mem_of_getElem? ex1)
          have gT : Gr H2 (upd H2 T (.tup [.int x, .int ((ms.getD (ps.getD j 0) 0 : Nat) : Int)])) := Gx.new nT
          have hT : (upd H2 T (.tup [.int x, .int ((ms.getD (ps.getD j 0) 0 : Nat) : Int)])) T = some (.tup [.int x, .int ((ms.getD (ps.getD j 0) 0 : Nat) : Int)]) := upd_same
          have hB2 := gT.lst hB
          generalize upd H2 T (.tup [.int x, .int ((ms.getD (ps.getD j 0) 0 : Nat) : Int)]) = H3 at *
          have gH3 := g2.trans gT
          have m16 := l16 (ps.getD j 0)
          obtain ⟨v, rfl⟩ := Int.eq_ofNat_of_zero_le xb.1
          refine ⟨T, _, rfl, .inl (.inl hT), rfl, .int v, [.int _], rfl, .int _, [], rfl, rfl, rfl, yesT ⟨.int _, rfl, .int (v : Int), rfl, _, (v : Int), rfl, rfl, by omega, _, 1, rfl, rfl, _, hB2, ?_, gH3.wr nB, ?_⟩⟩
          · rw [List.length_map, List.length_map, List.length_range]
            exact small1000 (by omega)
          · have eb : Builtin.bitAnd (((ms.getD (ps.getD j 0) 0 : Nat) : Int) / 2 ^ ((v : Int)).toNat) 1 = bitR ms ps r j := by
              unfold bitR
              rw [Int.toNat_natCast, bit_and1 m16 (by omega), ex2, Int.toNat_natCast]
            rw [upd_same]
            show some (HO.lst (_ ++ [V.int (Builtin.bitAnd (((ms.getD (ps.getD j 0) 0 : Nat) : Int) / 2 ^ ((v : Int)).toNat) 1)])) = _
            rw [eb, List.range_succ, List.map_append, List.map_append]
            rfl
        · obtain ⟨g2, hB⟩ := p
          refine ⟨B, _, rfl, .inl (.inl hB), _, rfl, ?_⟩
          rw [bitR_fit rl rv]
          have ht2 := Gx.tupS g2 .nil ht
          have hL2 := g2.lst hL
          refine ite2 (fun hf => ?_) (fun hf => ?_)
          · refine ⟨.ref t, rfl, ws, hL2, ?_, (g.trans g2).wr nL, ws ++ [.ref t], upd_same, ?_⟩
            · rw [hws.1, List.length_map]
              have := List.length_filter_le (fitB (famM ms) ps) (rows.take i)
              rw [List.length_take] at this
              exact small1000 (by omega)
            · rw [List.take_add_one, er, List.filter_append, Option.toList_some, List.filter_cons, if_pos hf, List.filter_nil, List.map_append]
              exact ((hws.gr g2).wr hL2).app (.one (DT.wr hL2 (.row ht2)))
          · refine ⟨g.trans g2, ws, hL2, ?_⟩
            rw [List.take_add_one, er, List.filter_append, Option.toList_some, List.filter_cons, if_neg hf, List.filter_nil, List.append_nil]
            exact hws.gr g2
      · obtain ⟨g, h⟩ := h
        rw [xl, List.take_length] at h
        exact q L H2 (g1.trans g) (Gr.free g1 nL) h
end K15

set_option Elab.async false
set_option linter.all false
set_option maxRecDepth 100000
set_option maxHeartbeats 4000000
/-! d.setdefault(key, x), the key a tuple -/
namespace SD
open PySem PySem.W PySem.Calls PyProof.Rows PyProof.V PySem.Spec L2
section
variable {prog : Program} {w : World} {K : Type} [DecidableEq K] {knd : HeapKind prog w K} {A : Around} {E : Value → Shared → Prop} {s : Shared}
theorem dictSetDefault_heap {d a : Addr} {xs : List (K × Addr × Value)} {k : K} {v : Value} {Q : Value → Shared → Prop} (hu : knd.room A) (hkey : knd.is s.heap k a) (hm : s.heap.DictOfH knd d xs)
    (h1 : ∀ p, atKey xs k = some p → Q p.2 { s with toks := s.toks + knd.draws k })
    (hQ : atKey xs k = none → ∀ h', h'.DictOfH knd d (storedH xs k a v) → Heap.SameBut d s.heap h' → Q v { s with heap := h', toks := s.toks + knd.draws k })
    (hsz : xs.length ≤ sizeLine) :
    wpAny (model prog w) A (dictSetDefault d (.ref a) v) Q E s := by
  obtain ⟨o, es, ep, ho, hc, hd, he, his, hn⟩ := hm
  unfold dictSetDefault
  try with_reducible refine wpAny_holding ?_
  refine wpAny_bind (knd.pyHash hu hkey ?_)
  refine wpAny_bind (wpAny_dictFind_heap (s := { s with toks := s.toks + knd.draws k }) hu hkey ho hd he his hn ?_ ?_)
  · intro hno
    have hnot : k ∉ xs.map (·.1) := not_mem_keys_of_get hno
    refine wpAny_bind (wpAny_rule (wpAny_bind (wpAny_updateDictKeys (hz := by have e := size_of_entries he; omega) (s := { s with toks := s.toks + knd.draws k }) ho hd (wpAny_pure (hQ (atKey_none_of_get hno) _ ⟨_, _, ep + 1, Heap.get?_update_self _ ho (Obj.isFreed_of_dict (Obj.data_mapDictKeys hd _)),
      hc.mapDictKeys _, Obj.data_mapDictKeys hd _, ?_, ?_, ?_⟩ (Heap.SameBut.update ..))))))
    · rw [storedH_new (atKey_none_of_get hno)]
      simp [he, entryOfKey]
    · rw [storedH_new (atKey_none_of_get hno)]
      intro x hx
      rcases List.mem_append.mp hx with hx | hx
      · exact knd.keeps (his x hx) ho hd (Heap.SameBut.update ..)
      · simp only [List.mem_singleton] at hx
        subst hx
        exact knd.keeps hkey ho hd (Heap.SameBut.update ..)
    · rw [storedH_new (atKey_none_of_get hno)]
      rw [List.map_append, List.nodup_append]
      refine ⟨hn, by simp, ?_⟩
      intro x hx y hy
      simp only [List.map_cons, List.map_nil, List.mem_singleton] at hy
      subst hy
      exact fun e => hnot (e ▸ hx)
  · intro j p hj
    refine wpAny_bind (wpAny_dictEntries (s := { s with toks := s.toks + knd.draws k }) ho hd ?_)
    have hej : es[j]? = some (entryOfKey knd (k, p)) := by rw [entry_at he j, hj]; rfl
    rw [hej]
    exact wpAny_bind (wpAny_rule (wpAny_pure (h1 p (atKey_of_get hn hj))))
theorem meetsSetdefault {d b : Addr} {k : K} (dflt : Value) (hd : (d == sysModules) = false) :
    MeetsIn prog w (Builtin.«dict.setdefault» ⟨[.ref d, .ref b, dflt], []⟩) (fun A R s => ∃ xs, knd.room A.in1 ∧ knd.is s.heap k b ∧ s.heap.DictOfH knd d xs ∧ xs.length ≤ sizeLine ∧
      (∀ p, atKey xs k = some p → ∀ tk, R (.ok (.ret p.2)) { s with toks := tk }) ∧
      (atKey xs k = none → ∀ h' tk, h'.DictOfH knd d (storedH xs k b dflt) → Heap.SameBut d s.heap h' → R (.ok (.ret dflt)) { s with heap := h', toks := tk })) :=
  .of_wp fun A R s ⟨xs, hu, hkey, hm, hsz, h1, h2⟩ => by
    unfold Builtin.«dict.setdefault»
    refine wpAny_bind ?_
    unfold Builtin.Dict.keyAndDefault
    refine wpAny_bind (wpAny_notOrdered_dict hm.typeIs ?_)
    show wpAny _ _ (pure (d, Value.ref b, some dflt)) _ _ s
    refine wpAny_pure ?_
    show wpAny _ _ (if (d == sysModules) = true then _ else (dictSetDefault d (.ref b) dflt >>= _)) _ _ s
    rw [if_neg (by rw [hd]; exact Bool.false_ne_true)]
    exact wpAny_bind (dictSetDefault_heap hu hkey hm (fun p hp => wpAny_pure ⟨_, rfl, h1 p hp _⟩) (fun hn h' hm' hs' => wpAny_pure ⟨dflt, rfl, h2 hn h' _ hm' hs'⟩) hsz)
end
section
variable {X : Cx}
def rSetT : V → List V → Hp → VK → Prop := fun x xs H Q => ∃ (a : Addr) (kvs : List (List L2.Key × V)) (k : List L2.Key) (b : Addr) (d : V), x = .ref a ∧ xs = [.ref b, d] ∧ H a = some (.dT kvs) ∧ H b = some (.tup (k.map kV)) ∧ kvs.length < sizeLine ∧
  (∀ v, valV kvs k = some v → Q v H) ∧ (valV kvs k = none → Q d (upd H a (.dT (putK kvs k d))))
theorem mt_setT (hu : X.A.units + 1 < cLine) : MtR X "dict.setdefault" rSetT := by
  intro pins s σ H x xs v us Q I rx rxs h
  obtain ⟨a, kvs, k, b, d, rfl, rfl, ha, hb, hlt, q1, q2⟩ := h
  cases rx
  obtain ⟨u1, u2, rfl, r1, r2⟩ := vals2 rxs
  cases r1
  obtain ⟨z, hd, xs', rel, dd⟩ := dt_of I.hok ha
  have hz : xs'.length ≤ sizeLine := by rw [← Paired.length rel]; exact z
  refine call_meetsIn PySem.F.slot_dict_setdefault dd.typeIs PySem.F.entry_dict_setdefault (PySem.F.args_dict_setdefault_3 _ _ _) (meetsSetdefault (knd := tupleKind (mixKind X.prog X.w)) (k := k) u2 hd)
    ⟨xs', tupleKind_room_in1 hu, key_of I.hok hb, dd, hz, fun p hp tk => ?_, fun hn h' tk dd' hs => ?_⟩
  · have r := rel.val k
    rw [hp] at r
    obtain ⟨v0, ev, rv⟩ : ∃ v0, valV kvs k = some v0 ∧ RelV v0 p.2 := by
      cases ev : valV kvs k with
      | none =>
        rw [ev] at r
        exact (show False from r).elim
      | some v0 =>
        rw [ev] at r
        exact ⟨v0, rfl, r⟩
    show EP X pins σ Q p.2 _
    exact ⟨v0, H, I.tok tk, rv, q1 v0 ev⟩
  · have r := rel.val k
    rw [hn] at r
    have e : valV kvs k = none := by
      cases ev : valV kvs k with
      | none => rfl
      | some v0 =>
        rw [ev] at r
        exact (show False from r).elim
    have hl : (putK kvs k d).length ≤ sizeLine := by have := length_putK kvs k d; omega
    obtain ⟨q, es, ep, hq, h2, h3, h4, _, h5⟩ := dd'
    have I2 : Inv X pins σ (upd H a (.dT (putK kvs k d))) { s with heap := h', toks := tk } :=
      d_write I (by rw [ha]; exact True.intro) hs ⟨q, hq⟩ ⟨hl, hd, _, (rel.put k hb r2).keeps (fun c ys ec => (by rw [upd_ne (ne_of ec ha (fun z => nomatch z))]; exact ec)), q, es, ep, hq, h2, h3, h4, h5⟩
    show EP X pins σ Q u2 _
    exact ⟨d, _, I2, r2, q2 e⟩
end
end SD

set_option Elab.async false
set_option linter.all false
set_option maxRecDepth 100000
set_option maxHeartbeats 4000000
/-! {k: v for x in walk}, the keys tuples: the walk of the library's rule for other keys, the store any -/
namespace SD
open PySem PySem.W PySem.Calls PyProof.Rows PyProof.V PySem.Spec L2
/-- how a new dict stands, and what a store into it asks -/
structure DStore (X : Cx) (O : HO) (st : Addr → V → V → Hp → (Hp → Prop) → Prop) : Prop where
  new : ∀ (H : Hp) (h : Heap), sysModules < h.objs.size → ObjOk X.prog X.w H (h.push { cls := .type "dict", data := .dict #[] }) h.objs.size O
  set : ∀ (X' : Cx) (pins : List (Addr × Obj)) (σ : L2.St) (H : Hp) (s : Shared) (E : Value → Shared → Prop) (D : Addr) (y z : V) (u r : Value) (R : Hp → Prop), X'.prog = X.prog → X'.w = X.w → X'.A = X.A → Inv X' pins σ H s → RelV y u → RelV z r → st D y z H R →
    wpAny (model X.prog X.w) X.A (dictSet D u r) (fun _ s' => ∃ H', Inv X' pins σ H' s' ∧ R H') E s
section
variable {X : Cx}
def tDg (O : HO) (st : Addr → V → V → Hp → (Hp → Prop) → Prop) (wi : TI) (g : TG) (tt : L2.TT) (tk tv : TE) (vs : List Nat) : TE := fun σ H Q => wi σ H fun J H1 => ∀ D, H1 D = none → ∃ W : Nat → Nat → Hp → Prop, (∃ m, W 0 m (upd H1 D O)) ∧ ∀ i m H, W i m H →
  (J.stop i H ∧ Q (.ref D) H) ∨ (J.go i H ∧ ∃ N : Hp → Prop, (∀ H', N H' → ∃ m', m' < m ∧ W (i + 1) m' H') ∧ ∀ x H', J.yld i H x H' → g x (wipe σ vs) H' fun σ2 H2 => wipe σ2 vs = wipe σ vs ∧ tt σ2 H2 fun b H3 =>
    if b = true then tk σ2 H3 fun y H4 => tv σ2 H4 fun z H5 => st D y z H5 N else N H3)
abbrev blkEnv (scope : Scope) (b : Addr) (e : Env) : Env := compEnvC scope (cellsFrom (b + 1) scope.names (cloFrom e.cells scope.names [])) b e
theorem dg_core {O : HO} {st : Addr → V → V → Hp → (Hp → Prop) → Prop} (dO : DStore X O st) {pins : List (Addr × Obj)} {s : Shared} {σ : L2.St} {H : Hp} {Q : VK} {kx vx tg iter : Expr} {ifs : List Expr} {scope : Scope} {own : List (Str × Nat)} {pos pos' : Pos} {wi : TI} {g : TG} {tt : L2.TT} {tk tv : TE} {use : Option (Value → Sem Unit)} {Qf : Value → Shared → Prop}
    (hc : X.calm = true) (hN : X.N.Nodup) (I : Inv X pins σ H s) (hi : PI X tg iter wi) (ok : BlkOk X.N X.env.scope scope own)
    (hg : ∀ s H b fp, PG (X.blk s H scope (blkEnv scope b X.env) fp) tg g) (ht : ∀ s H b fp, PTs (X.blk s H scope (blkEnv scope b X.env) fp) ifs tt) (hk : ∀ s H b fp, PE (X.blk s H scope (blkEnv scope b X.env) fp) kx tk) (he : ∀ s H b fp, PE (X.blk s H scope (blkEnv scope b X.env) fp) vx tv)
    (hs : ∀ x, foldedSetIterable iter X.env x = pure x) (h : tDg O st wi g tt tk tv (own.map (·.2)) σ H Q)
    (hR : ∀ D C s' m H', Inv X pins σ H' s' → Q (.ref D) H' → s'.heap.Ns C m → FpOk X pins H' C → compPost (model X.prog X.w) X.A X.xe use Qf (.ref D) C (.ok .next) s') :
    wpAny (model X.prog X.w) X.A (comprehension (.DictComp kx vx [⟨tg, iter, ifs, 0⟩] scope pos) scope X.env pos' newDict false (eval iter X.env) use) Qf X.xe s := by
  have free : ∀ y ∈ scope.names, y.2 = .free → ∃ c, X.env.cells.lookup y.1 = some c := fun y hy e => (ok.free y hy e).elim (fun k => I.ok.has _ (.inl k)) fun k => I.ok.has _ (.inr k)
  refine wpAny_comprehension_free (use := use) rfl hs (closure_ok free) ok.kind (fun y hy e => by rw [ok.uniq y hy, e]) (thn (hi.run pins s σ H _ I h) fun xv s1 hx => thn hx fun itv s2 h2 => ?_)
  obtain ⟨it, fp, tn, J, H2, rfl, I2, T, st2, f2, q⟩ := h2
  refine wpAny_newObj_type (newEnv_comp ?_)
  have hDn : H2 s2.heap.objs.size = none := I2.hok.fresh (Nat.le_refl _)
  obtain ⟨W, ⟨m0, w0⟩, turn⟩ := q _ hDn
  have lt2 : ∀ b ∈ fp, b < s2.heap.objs.size := fun b hb => let ⟨_, e, _⟩ := T.obj _ _ st2 b hb; Heap.lt_size e
  have up : ∀ b o, s2.heap.get? b = some o → (s2.heap.push ({ cls := .type "dict", data := .dict #[] } : Obj)).get? b = some o := fun b o e => Heap.get?_push_of_some _ e
  have I3 : Inv X pins σ (upd H2 s2.heap.objs.size O) { s2 with heap := s2.heap.push { cls := .type "dict", data := .dict #[] } } := I2.laid (t' := s2.toks) up (Nat.le_refl _) (dO.new _ s2.heap I2.big)
  have f3 : ∀ b ∈ fp, FpOk X pins (upd H2 s2.heap.objs.size O) b ∧ b < (s2.heap.push ({ cls := .type "dict", data := .dict #[] } : Obj)).objs.size := fun b hb =>
    ⟨⟨by rw [upd_ne (Nat.ne_of_lt (lt2 b hb))]; exact (f2 b hb).1, (f2 b hb).2⟩, by rw [Heap.size_push]; exact Nat.lt_succ_of_lt (lt2 b hb)⟩
  have st3 := T.keep _ _ _ st2 fun b _ o e => up b o e
  generalize eD : s2.heap.objs.size = D at *
  generalize e3 : ({ s2 with heap := s2.heap.push { cls := .type "dict", data := .dict #[] } } : Shared) = s3 at *
  have h3 : s2.heap.push { cls := .type "dict", data := .dict #[] } = s3.heap := by rw [← e3]
  rw [h3] at f3 st3
  generalize eH : upd H2 D O = H3 at *
  have I4 := block_start I3 ok hN f3
  have pg := hg s3 H3 s3.heap.objs.size fp
  have pt := ht s3 H3 s3.heap.objs.size fp
  have pk := hk s3 H3 s3.heap.objs.size fp
  have pe := he s3 H3 s3.heap.objs.size fp
  have nfp : ∀ b ∈ fp, H3 b = none := fun b hb => (f3 b hb).1.1
  show codeAny _ _ (.compStart (.DictComp kx vx [⟨tg, iter, ifs, 0⟩] scope pos) 0 (.ref it) (.ref D) (blkEnv scope s3.heap.objs.size X.env)) (compPost (model X.prog X.w) X.A X.xe use Qf (.ref D) s3.heap.objs.size) { s3 with heap := pushCells (s3.heap.push { cls := .type "dict", data := .dict #[] }) scope.names }
  have cL : (blkEnv scope s3.heap.objs.size X.env).locals = s3.heap.objs.size := rfl
  change Inv (X.blk s3 H3 scope (blkEnv scope s3.heap.objs.size X.env) fp) _ _ _ _ at I4
  generalize blkEnv scope s3.heap.objs.size X.env = ce at *
  have st4 := T.keep 0 _ (pushCells (s3.heap.push { cls := .type "dict", data := .dict #[] }) scope.names) st3 fun b _ o e => pushCells_keeps _ _ _ _ (Heap.get?_push_of_some _ e)
  generalize e4 : ({ s3 with heap := pushCells (s3.heap.push { cls := .type "dict", data := .dict #[] }) scope.names } : Shared) = s4 at *
  have h4 : pushCells (s3.heap.push { cls := .type "dict", data := .dict #[] }) scope.names = s4.heap := by rw [← e4]
  rw [h4] at st4
  have stat : ∀ {σ' : L2.St} {H' : Hp} {s' : Shared}, Inv (X.blk s3 H3 scope ce fp) [] σ' H' s' → (∀ b ∈ fp, H' b = none) → ∀ b ∈ fp, FpOk (X.blk s3 H3 scope ce fp) [] H' b := fun {σ' H' s'} J hn b hb =>
    ⟨hn b hb, (J.ok.exf b hb).1, J.ok.exfs b hb, .inl hb, fun x c e => (J.ok.exf b hb).2 x c e, fun p hp => absurd (show p ∈ ([] : List (Addr × Obj)) ++ [] from hp) (by simp)⟩
  suffices loop : codeAny (model X.prog X.w) X.A (.compLoop (.DictComp kx vx [⟨tg, iter, ifs, 0⟩] scope pos) 0 (.ref it) (.ref D) ce) (compPost (model X.prog X.w) X.A X.xe use Qf (.ref D) s3.heap.objs.size) s4 from codeAny_compStart_dict loop (T.self X.A 0 _ _ _ st4 loop)
  · refine compLoop_anyD (fun n s' => ∃ i H', Inv (X.blk s3 H3 scope ce fp) [] (wipe σ (own.map (·.2))) H' s' ∧ tn i s'.heap ∧ (∀ b ∈ fp, H' b = none) ∧ W i n H') ?_ m0 ⟨0, H3, I4, st4, nfp, w0⟩
    rintro n s5 ⟨i, H5, I5, st5, n5, w5⟩
    rcases turn i n H5 w5 with ⟨stop, qq⟩ | ⟨go, N, hNx, step⟩
    · refine thnF (T.done (X.blk s3 H3 scope ce fp) rfl rfl rfl hc i [] s5 _ H5 (fun _ _ => False) I5 (stat I5 n5) st5 stop) fun r s6 ⟨hr, I6⟩ => ?_
      subst hr
      have I7 : Inv X pins σ H5 s6 := I3.call' (ch := fp) I6.os I6.base I6.hok I6.bare fun b hb => ⟨(f3 b hb).1.2.2.2.1, (f3 b hb).1.2.1, (f3 b hb).1.2.2.2.2.1, (f3 b hb).1.2.2.2.2.2⟩
      have nC : H5 ce.locals = none := I6.free
      obtain ⟨m, hn, _⟩ := I6.loc
      have hn : s6.heap.Ns ce.locals m := hn
      rw [cL] at hn nC
      exact hR D s3.heap.objs.size s6 m H5 I7 qq hn (I3.fpOk (Nat.le_refl _) nC)
    · refine thnF (T.item (X.blk s3 H3 scope ce fp) rfl rfl rfl hc i [] s5 _ H5 (fun _ _ => False) I5 (stat I5 n5) st5 go) fun r s6 ⟨u, hr, h6⟩ => ?_
      subst hr
      refine thnF h6 fun _ s7 ⟨x, H7, I7, r7, y7, st7, n7⟩ => ?_
      have I7' := I7.pinned (stat I7 n7) (T.obj _ _ st7)
      refine thnF (pg.run _ s7 _ H7 x u _ I7' r7 (step x H7 y7)) fun _ s8 ⟨σ8, H8, I8, hw8, q8⟩ => thnF (pt.run _ s8 σ8 H8 _ I8 q8) fun b s9 ⟨H9, I9, q9⟩ => ?_
      have fin : ∀ {s' : Shared} {H' : Hp}, Inv (X.blk s3 H3 scope ce fp) ([] ++ pinsAt fp s7.heap) σ8 H' s' → N H' → ∃ m, m < n ∧ ∃ i H', Inv (X.blk s3 H3 scope ce fp) [] (wipe σ (own.map (·.2))) H' s' ∧ tn i s'.heap ∧ (∀ b ∈ fp, H' b = none) ∧ W i m H' := fun {s' H'} J nx => by
        obtain ⟨m', hm, w'⟩ := hNx H' nx
        have pin' : ∀ b ∈ fp, ∀ o, s7.heap.get? b = some o → s'.heap.get? b = some o ∧ H' b = none := fun b hb o e =>
          let z := J.pin (b, o) (List.mem_append_right _ (List.mem_append_right _ (mem_pinsAt hb e)))
          ⟨z.1, z.2.1⟩
        have hl : (wipe σ (own.map (·.2))).length = σ8.length := by rw [← hw8, wipe_length]
        refine ⟨m', hm, i + 1, H', (J.unpinned (pins := [])).weak hl (fun j v e => ?_), T.keep _ _ _ st7 fun b hb o e => (pin' b hb o e).1, fun b hb => ?_, w'⟩
        · rw [← hw8] at e
          exact (wipe_some e).1
        · obtain ⟨o, e, _⟩ := T.obj _ _ st7 b hb
          exact (pin' b hb o e).2
      cases b with
      | false =>
        simp only [Bool.false_eq_true, if_false] at q9 ⊢
        exact fin I9 q9
      | true =>
        simp only [if_true] at q9 ⊢
        refine thnF (pk.run _ s9 σ8 H9 _ I9 q9) fun z s10 ⟨yk, H10, I10, r10, q10⟩ => thnF (pe.run _ s10 σ8 H10 _ I10 q10) fun z2 s11 ⟨yv, H11, I11, r11, q11⟩ => ?_
        exact thnF (dO.set (X.blk s3 H3 scope ce fp) _ σ8 H11 s11 (fun _ _ => False) D yk yv z z2 N rfl rfl rfl I11 r10 r11 q11) fun _ s12 ⟨H12, I12, nx⟩ => fin I12 nx
theorem pe_dg {O : HO} {st : Addr → V → V → Hp → (Hp → Prop) → Prop} (dO : DStore X O st) {kx vx tg iter : Expr} {ifs : List Expr} {scope : Scope} {own : List (Str × Nat)} {pos : Pos} {wi : TI} {g : TG} {tt : L2.TT} {tk tv : TE} (hc : X.calm = true) (hN : X.N.Nodup) (hi : PI X tg iter wi) (ok : BlkOk X.N X.env.scope scope own)
    (hg : ∀ s H b fp, PG (X.blk s H scope (blkEnv scope b X.env) fp) tg g) (ht : ∀ s H b fp, PTs (X.blk s H scope (blkEnv scope b X.env) fp) ifs tt) (hk : ∀ s H b fp, PE (X.blk s H scope (blkEnv scope b X.env) fp) kx tk) (he : ∀ s H b fp, PE (X.blk s H scope (blkEnv scope b X.env) fp) vx tv)
    (hs : ∀ x, foldedSetIterable iter X.env x = pure x := by intro _; rfl) : PE X (.DictComp kx vx [⟨tg, iter, ifs, 0⟩] scope pos) (tDg O st wi g tt tk tv (own.map (·.2))) := by
  refine ⟨fun pins s σ H Q I h => ?_⟩
  rw [arm_eval_DictComp]
  refine dg_core dO hc hN I hi ok hg ht hk he hs h fun D C s' m H' J q hn f => ⟨m, hn, fun h'' sb => ?_⟩
  exact ⟨.ref D, H', J.turned (t' := s'.toks) (fun b o hb e => (sb.2 b hb).trans e) f.1 f.2.1 f.2.2.2.1 f.2.2.2.2.1 f.2.2.2.2.2, rfl, q⟩
/-- keys that are tuples -/
def stT : Addr → V → V → Hp → (Hp → Prop) → Prop := fun D y z H R => ∃ (kvs : List (List L2.Key × V)) (k : List L2.Key) (b : Addr), y = .ref b ∧ H b = some (.tup (k.map kV)) ∧ H D = some (.dT kvs) ∧ kvs.length < sizeLine ∧ R (upd H D (.dT (putK kvs k z)))
theorem dstoreT (hu : X.A.units < cLine) : DStore X (.dT []) stT where
  new := fun H h hb => dt_empty h hb
  set := by
    intro X' pins σ H s E D y z u r R hp hw hA I ry rz h
    obtain ⟨kvs, k, b, rfl, hb, hD, hl, hR⟩ := h
    rw [← hp, ← hw]
    rw [← hA] at hu
    rw [← hA]
    cases ry
    obtain ⟨z0, hd, xs, rel, dd⟩ := dt_of I.hok hD
    have hz : xs.length ≤ sizeLine := by rw [← Paired.length rel]; exact z0
    have hl2 : (putK kvs k z).length ≤ sizeLine := by have := length_putK kvs k z; omega
    refine wpAny_dictSet_heap (hsz := hz) (knd := tupleKind (mixKind X'.prog X'.w)) hu (key_of I.hok hb) dd fun h' dd' hs => ⟨_, ?_, hR⟩
    obtain ⟨q, es, ep, hq, h2, h3, h4, _, h5⟩ := dd'
    refine d_write I (by rw [hD]; exact True.intro) hs ⟨q, hq⟩ ⟨hl2, hd, _, (rel.put k hb rz).keeps fun c ys ec => ?_, q, es, ep, hq, h2, h3, h4, h5⟩
    rw [upd_ne (ne_of ec hD (fun z => nomatch z))]
    exact ec
/-- the comprehension over a tuple that stays -/
theorem dg_tup {K : PySem.W.Frag} {O : HO} {st : Addr → V → V → Hp → (Hp → Prop) → Prop} {a : Addr} {xs : List V} {g : TG} {tt : L2.TT} {tk tv : TE} {vs : List Nat} {σ : L2.St} {H1 : Hp} {D : Addr} {Qd : Hp → Prop} (Pv : Nat → Hp → Prop) (h0 : Pv 0 (upd H1 D O)) (hl : ∀ i H, i ≤ xs.length → Pv i H → SqT K H a xs)
    (hs : ∀ i x H, xs[i]? = some x → Pv i H → g x (wipe σ vs) H fun σ2 H2 => wipe σ2 vs = wipe σ vs ∧ tt σ2 H2 fun b H3 => if b = true then tk σ2 H3 fun y H4 => tv σ2 H4 fun z H5 => st D y z H5 (Pv (i + 1)) else Pv (i + 1) H3) (hd : ∀ H, Pv xs.length H → Qd H) :
    ∃ W : Nat → Nat → Hp → Prop, (∃ m, W 0 m (upd H1 D O)) ∧ ∀ i m H, W i m H →
      ((Itt K a).stop i H ∧ Qd H) ∨ ((Itt K a).go i H ∧ ∃ N : Hp → Prop, (∀ H', N H' → ∃ m', m' < m ∧ W (i + 1) m' H') ∧ ∀ x H', (Itt K a).yld i H x H' → g x (wipe σ vs) H' fun σ2 H2 => wipe σ2 vs = wipe σ vs ∧ tt σ2 H2 fun b H3 =>
        if b = true then tk σ2 H3 fun y H4 => tv σ2 H4 fun z H5 => st D y z H5 N else N H3) := by
  refine ⟨fun i m H => m = xs.length - i ∧ i ≤ xs.length ∧ Pv i H, ⟨xs.length, by simp, Nat.zero_le _, h0⟩, ?_⟩
  rintro i m H ⟨rfl, hi, p⟩
  have q := hl i H hi p
  by_cases h : i < xs.length
  · refine .inr ⟨⟨xs, xs[i], q, by simp [h]⟩, Pv (i + 1), fun H' p' => ⟨xs.length - (i + 1), by omega, rfl, h, p'⟩, fun x H' y => ?_⟩
    obtain ⟨rfl, y⟩ := y
    exact hs i x _ (y xs q) p
  · have e : i = xs.length := by omega
    subst e
    exact .inl ⟨⟨xs, q, Nat.le_refl _⟩, hd H p⟩
end
end SD

set_option Elab.async false
set_option linter.all false
set_option maxRecDepth 100000
set_option maxHeartbeats 4000000
/-! dict comprehensions stored in a name, and those with two fors -/
namespace SD
open PySem PySem.W PySem.Calls PyProof.Rows PyProof.V PySem.Spec L2
/-- keys that are whole numbers or texts -/
def stK : Addr → V → V → Hp → (Hp → Prop) → Prop := fun D y z H R => ∃ (kvs : List (L2.Key × V)) (k : L2.Key), y = kV k ∧ H D = some (.dK kvs) ∧ kvs.length < sizeLine ∧ R (upd H D (.dK (putK kvs k z)))
theorem dstoreK {X : Cx} : DStore X (.dK []) stK where
  new := fun H h hb => dk_empty h hb
  set := by
    intro X' pins σ H s E D y z u r R hp hw hA I ry rz h
    obtain ⟨kvs, k, rfl, hD, hl, hR⟩ := h
    rw [← hp, ← hw, ← hA]
    exact d_dictSet I hD hl ry rz fun s' I' => ⟨_, I', hR⟩
theorem sw_trueD {kx vx : Expr} {gs : List Comprehension} {scope : Scope} {pos py : Pos} {y : Str} {l : Nat} {env : Env} (hk : env.scope.kind = .function) (hy : env.scope.names.lookup y = some .local) (hl : (py.line == pos.line) = true)
    (ha : (scope.names.any fun (n, k) => n == y && (k == .local || k == .cell)) = false) : swapsWith (.DictComp kx vx gs scope pos) (some (.Name y py)) l env = pure true := by
  have ky : env.kindOf y = some .local := hy
  have hb : env.blockKind = .function := by unfold Env.blockKind; rw [hk]; rfl
  unfold swapsWith
  simp only [hb, ky, ha, Expr.pos, hl]
  rfl
section
variable {X : Cx}
theorem ps_setDg {i : Nat} {y : Str} {py : Pos} {O : HO} {st : Addr → V → V → Hp → (Hp → Prop) → Prop} (dO : DStore X O st) {kx vx tg iter : Expr} {ifs : List Expr} {scope : Scope} {own : List (Str × Nat)} {pos spos : Pos} {wi : TI} {g : TG} {tt : L2.TT} {tk tv : TE} (hc : X.calm = true) (hN : X.N.Nodup) (hy : X.N[i]? = some y) (hyl : X.env.scope.names.lookup y = some .local)
    (hsw : swapsWith (.DictComp kx vx [⟨tg, iter, ifs, 0⟩] scope pos) (some (.Name y py)) spos.line X.env = pure true) (hi : PI X tg iter wi) (ok : BlkOk X.N X.env.scope scope own)
    (hg : ∀ s H b fp, PG (X.blk s H scope (blkEnv scope b X.env) fp) tg g) (ht : ∀ s H b fp, PTs (X.blk s H scope (blkEnv scope b X.env) fp) ifs tt) (hk : ∀ s H b fp, PE (X.blk s H scope (blkEnv scope b X.env) fp) kx tk) (he : ∀ s H b fp, PE (X.blk s H scope (blkEnv scope b X.env) fp) vx tv)
    (hs : ∀ x, foldedSetIterable iter X.env x = pure x := by intro _; rfl) :
    PS X (.Assign [.Name y py] (.DictComp kx vx [⟨tg, iter, ifs, 0⟩] scope pos) spos) (tAsg (tDg O st wi g tt tk tv (own.map (·.2))) (gName i)) := by
  refine ⟨fun pins s σ H D I h => ?_⟩
  rw [exec_Assign_Name_used _ _ _ _ hsw]
  refine wpAny_bind (wpAny_standAt (wpAny_bind ?_))
  show wpAny _ X.A (do let _ ← comprehension (.DictComp kx vx [⟨tg, iter, ifs, 0⟩] scope pos) scope X.env (firstIterPos [⟨tg, iter, ifs, 0⟩] pos) newDict false (eval iter X.env) (some (assign (.Name y py) X.env))) _ _ s
  have h : tDg O st wi g tt tk tv (own.map (·.2)) σ H (fun x H1 => gName i x σ H1 D.nx) := h
  refine wpAny_bind (thn (dg_core (Qf := fun _ s' => SP X pins D .next s') dO hc hN I hi ok hg ht hk he hs h fun L C s' m H' I' q hn f => ?_) fun _ s' hq => wpAny_pure (wpAny_pure hq))
  show wpAny _ _ (assign (.Name y py) X.env (.ref L)) _ _ _
  refine wpAny_assign_Name (store_ok2 (v := V.ref L) I' hN hy (.inl hyl) rfl (fun s2 I2 ⟨a, sb, ha⟩ => ?_) (.inr hyl))
  obtain ⟨f0, f1, f2, f3, f4, f5⟩ := f
  have haC : C ≠ a := by
    rcases ha with z | z
    · rw [z]; exact f1
    · exact fun e => f4 y a z e.symm
  refine ⟨m, hn.sameBut sb haC, fun h3 sb3 => ?_⟩
  exact ⟨_, H', I2.turned (t' := s2.toks) (fun b o hb e => (sb3.2 b hb).trans e) f0 f1 f3 f4 f5, q⟩

end
theorem compTurnD2_out (kx vx t0 i0 t1 i1 : Expr) (ifs0 ifs1 : List Expr) (scope : Scope) (pos : Pos) (it acc : Value) (env : Env) :
    compTurn (.DictComp kx vx [⟨t0, i0, ifs0, 0⟩, ⟨t1, i1, ifs1, 0⟩] scope pos) 0 it acc env = (do
      standAt i0.pos
      match ← pyNext it with
      | none => pure (.done .next)
      | some v =>
        letOwnedTupleGo t0 it v
        assign t0 env v
        let mut ok := true
        for c in ifs0 do
          if ok then ok ← isTrue c env (eval c env)
        if ok then
          let x ← eval i1 env
          standAt i1.pos
          let x ← foldedSetIterable i1 env x
          let _ ← runOwn (.compStart (.DictComp kx vx [⟨t0, i0, ifs0, 0⟩, ⟨t1, i1, ifs1, 0⟩] scope pos) 1 (← holding [x] (pyIter x)) acc env) env
        again (.compLoop (.DictComp kx vx [⟨t0, i0, ifs0, 0⟩, ⟨t1, i1, ifs1, 0⟩] scope pos) 0 it acc env)) := by rfl
theorem compTurnD2_in (kx vx t0 i0 t1 i1 : Expr) (ifs0 ifs1 : List Expr) (scope : Scope) (pos : Pos) (it : Value) (D : Addr) (env : Env) :
    compTurn (.DictComp kx vx [⟨t0, i0, ifs0, 0⟩, ⟨t1, i1, ifs1, 0⟩] scope pos) 1 it (.ref D) env = (do
      standAt i1.pos
      match ← pyNext it with
      | none => pure (.done .next)
      | some v =>
        letOwnedTupleGo t1 it v
        assign t1 env v
        let mut ok := true
        for c in ifs1 do
          if ok then ok ← isTrue c env (eval c env)
        if ok then
          (do
            let kv ← eval kx env
            let vv ← holding [kv] (eval vx env)
            standAt { kx.pos with endLine := vx.pos.endLine, endCol := vx.pos.endCol }
            holding [kv, vv] (dictSet D kv vv))
        again (.compLoop (.DictComp kx vx [⟨t0, i0, ifs0, 0⟩, ⟨t1, i1, ifs1, 0⟩] scope pos) 1 it (.ref D) env)) := by rfl


section
variable {prog : Program} {w : World} {A : Around} {R : Result → Shared → Prop} {s : Shared} {kx vx t0 i0 t1 i1 : Expr} {ifs0 ifs1 : List Expr} {scope : Scope} {pos : Pos} {it acc : Value} {env : Env}

/-- the loop of the first clause -/
theorem compLoopD2_out (hs : ∀ x, foldedSetIterable i1 env x = pure x) (I : Nat → Shared → Prop)
    (turn : ∀ n s, I n s → wpAny (model prog w) A (pyNext it) (fun r s₁ => match r with
      | none => R (.ok .next) s₁
      | some v => wpAny (model prog w) A (letOwnedTupleGo t0 it v) (fun _ s₁' => wpAny (model prog w) A (assign t0 env v) (fun _ s₂ =>
          wpAny (model prog w) A (forIn ifs0 true fun c r => if r = true then do let ok ← isTrue c env (eval c env); pure (ForInStep.yield ok) else pure (ForInStep.yield r)) (fun ok s₃ =>
            if ok = true then wpAny (model prog w) A (eval i1 env) (fun x s₄ => wpAny (model prog w) A (pyIter x) (fun it1 s₅ =>
              codeAny (model prog w) A (.compStart (.DictComp kx vx [⟨t0, i0, ifs0, 0⟩, ⟨t1, i1, ifs1, 0⟩] scope pos) 1 it1 acc env) (fun r s' => match r with
                | .ok _ => ∃ m, m < n ∧ I m s'
                | .error _ => False) s₅) (notedBy (model prog w) A env fun e s' => R (.error e) s') s₄) (notedBy (model prog w) A env fun e s' => R (.error e) s') s₃
            else ∃ m, m < n ∧ I m s₃) (notedBy (model prog w) A env fun e s' => R (.error e) s') s₂) (notedBy (model prog w) A env fun e s' => R (.error e) s') s₁') (notedBy (model prog w) A env fun e s' => R (.error e) s') s₁) (notedBy (model prog w) A env fun e s' => R (.error e) s') s)
    (n : Nat) (h : I n s) :
    codeAny (model prog w) A (.compLoop (.DictComp kx vx [⟨t0, i0, ifs0, 0⟩, ⟨t1, i1, ifs1, 0⟩] scope pos) 0 it acc env) R s := by
  refine codeAny_loop rfl I (fun n s hI => ?_) n h
  show wpAny _ A ((compTurn (.DictComp kx vx [⟨t0, i0, ifs0, 0⟩, ⟨t1, i1, ifs1, 0⟩] scope pos) 0 it acc env).onRaise (fun x => do noteFrame x env; theTreesLotGoes x)) _ _ s
  refine wpAny_noted ?_
  rw [compTurnD2_out]
  refine wpAny_bind (wpAny_standAt (wpAny_bind (wpAny_mono (turn n s hI) (fun r s₁ h₁ => ?_) fun _ _ h' => h')))
  cases r with
  | none => exact wpAny_pure h₁
  | some v =>
    refine wpAny_bind (wpAny_mono h₁ (fun _ s₁' h₁' => ?_) fun _ _ h' => h')
    refine wpAny_bind (wpAny_mono h₁' (fun _ s₂ h₂ => wpAny_bind (wpAny_mono h₂ (fun ok s₃ h₃ => ?_) fun _ _ h' => h')) fun _ _ h' => h')
    cases ok with
    | false => exact wpAny_pure ⟨rfl, h₃⟩
    | true =>
      refine wpAny_bind (wpAny_mono h₃ (fun x s₄ h₄ => ?_) fun _ _ h' => h')
      refine wpAny_bind (wpAny_standAt (wpAny_bind (wpAny_of_eq (hs x) (wpAny_bind (wpAny_holding (wpAny_mono h₄ (fun it1 s₅ h₅ => ?_) fun _ _ h' => h'))))))
      refine wpAny_bind (wpAny_runOwn ?_)
      rw [Around.mark_none]
      refine codeAny_mono h₅ fun r s' hr => ?_
      cases r with
      | ok f =>
        first
          | exact wpAny_pure ⟨rfl, hr⟩
          | exact wpAny_bind (wpAny_pure (wpAny_pure ⟨rfl, hr⟩))
      | error e => exact hr.elim
/-- the loop of the second -/
theorem compLoopD2_in {D : Addr} (I : Nat → Shared → Prop)
    (turn : ∀ n s, I n s → wpAny (model prog w) A (pyNext it) (fun r s₁ => match r with
      | none => R (.ok .next) s₁
      | some v => wpAny (model prog w) A (letOwnedTupleGo t1 it v) (fun _ s₁' => wpAny (model prog w) A (assign t1 env v) (fun _ s₂ =>
          wpAny (model prog w) A (forIn ifs1 true fun c r => if r = true then do let ok ← isTrue c env (eval c env); pure (ForInStep.yield ok) else pure (ForInStep.yield r)) (fun ok s₃ =>
            if ok = true then wpAny (model prog w) A (eval kx env) (fun kv s₄ => wpAny (model prog w) A (eval vx env) (fun vv s₅ =>
              wpAny (model prog w) A (dictSet D kv vv) (fun _ s₆ => ∃ m, m < n ∧ I m s₆) (notedBy (model prog w) A env fun e s' => R (.error e) s') s₅) (notedBy (model prog w) A env fun e s' => R (.error e) s') s₄) (notedBy (model prog w) A env fun e s' => R (.error e) s') s₃
            else ∃ m, m < n ∧ I m s₃) (notedBy (model prog w) A env fun e s' => R (.error e) s') s₂) (notedBy (model prog w) A env fun e s' => R (.error e) s') s₁') (notedBy (model prog w) A env fun e s' => R (.error e) s') s₁) (notedBy (model prog w) A env fun e s' => R (.error e) s') s)
    (n : Nat) (h : I n s) :
    codeAny (model prog w) A (.compLoop (.DictComp kx vx [⟨t0, i0, ifs0, 0⟩, ⟨t1, i1, ifs1, 0⟩] scope pos) 1 it (.ref D) env) R s := by
  refine codeAny_loop rfl I (fun n s hI => ?_) n h
  show wpAny _ A ((compTurn (.DictComp kx vx [⟨t0, i0, ifs0, 0⟩, ⟨t1, i1, ifs1, 0⟩] scope pos) 1 it (.ref D) env).onRaise (fun x => do noteFrame x env; theTreesLotGoes x)) _ _ s
  refine wpAny_noted ?_
  rw [compTurnD2_in]
  refine wpAny_bind (wpAny_standAt (wpAny_bind (wpAny_mono (turn n s hI) (fun r s₁ h₁ => ?_) fun _ _ h' => h')))
  cases r with
  | none => exact wpAny_pure h₁
  | some v =>
    refine wpAny_bind (wpAny_mono h₁ (fun _ s₁' h₁' => ?_) fun _ _ h' => h')
    refine wpAny_bind (wpAny_mono h₁' (fun _ s₂ h₂ => wpAny_bind (wpAny_mono h₂ (fun ok s₃ h₃ => ?_) fun _ _ h' => h')) fun _ _ h' => h')
    cases ok with
    | false => exact wpAny_pure ⟨rfl, h₃⟩
    | true =>
      exact wpAny_bind (wpAny_bind (wpAny_mono h₃ (fun kv s₄ h₄ => wpAny_bind (wpAny_holding (wpAny_mono h₄ (fun vv s₅ h₅ => wpAny_bind (wpAny_standAt (wpAny_holding (wpAny_mono h₅ (fun _ s₆ h₆ => wpAny_pure ⟨rfl, h₆⟩) fun _ _ h' => h')))) fun _ _ h' => h'))) fun _ _ h' => h'))
/-- the second clause's start -/
theorem compStartD1_ok (h0 : codeAny (model prog w) A (.compLoop (.DictComp kx vx [⟨t0, i0, ifs0, 0⟩, ⟨t1, i1, ifs1, 0⟩] scope pos) 1 it acc env) R s)
    (h : wpAny (model prog w) A (pyIter it) (fun it' s' => codeAny (model prog w) A (.compLoop (.DictComp kx vx [⟨t0, i0, ifs0, 0⟩, ⟨t1, i1, ifs1, 0⟩] scope pos) 1 it' acc env) R s')
      (notedBy (model prog w) A env fun x s' => R (.error x) s') s) :
    codeAny (model prog w) A (.compStart (.DictComp kx vx [⟨t0, i0, ifs0, 0⟩, ⟨t1, i1, ifs1, 0⟩] scope pos) 1 it acc env) R s := by
  refine codeAny_of_tree ?_
  show wpAny _ _ ((compStart (.DictComp kx vx [⟨t0, i0, ifs0, 0⟩, ⟨t1, i1, ifs1, 0⟩] scope pos) 1 it acc env).onRaise (fun x => do noteFrame x env; standAt theWindowsPlace)) _ _ s
  refine wpAny_notedAt ?_
  unfold compStart
  show wpAny _ _ (ask >>= _) _ _ s
  refine wpAny_bind (wpAny_askSetting (wpAny_ite ?_))
  split
  · first
      | exact wpAny_bind (wpAny_pure (wpAny_pure (And.intro rfl h0)))
      | exact wpAny_pure (And.intro rfl h0)
  · first
      | exact wpAny_bind (wpAny_rule (wpAny_bind (wpAny_standAt (wpAny_bind (wpAny_mono h (fun it' s' h' => wpAny_pure (And.intro rfl h')) fun _ _ x => x)))))
      | (refine wpAny_bind (wpAny_rule ?_); show wpAny _ _ (standAt i1.pos >>= _) _ _ s; exact wpAny_bind (wpAny_standAt (wpAny_bind (wpAny_mono h (fun it' s' h' => wpAny_pure (And.intro rfl h')) fun _ _ x => x))))
end


section
variable {X : Cx}

def tDg2 (O : HO) (st : Addr → V → V → Hp → (Hp → Prop) → Prop) (wi : TI) (g : TG) (tt : L2.TT) (wi1 : TI) (g1 : TG) (tt1 : L2.TT) (tk tv : TE) (vs vs1 : List Nat) : TE := fun σ H Q => wi σ H fun J H1 => ∀ D, H1 D = none → ∃ W : Nat → Nat → Hp → Prop, (∃ m, W 0 m (upd H1 D O)) ∧ ∀ i m H, W i m H →
  (J.stop i H ∧ Q (.ref D) H) ∨ (J.go i H ∧ ∃ Nx : Hp → Prop, (∀ H', Nx H' → ∃ m', m' < m ∧ W (i + 1) m' H') ∧ ∀ x H', J.yld i H x H' → g x (wipe σ vs) H' fun σ2 H2 => wipe σ2 vs = wipe σ vs ∧ tt σ2 H2 fun b H3 =>
    if b = true then wi1 σ2 H3 fun J1 H4 => ∃ W1 : Nat → Nat → Hp → Prop, (∃ m, W1 0 m H4) ∧ ∀ j k H, W1 j k H →
      (J1.stop j H ∧ Nx H) ∨ (J1.go j H ∧ ∃ Nx1 : Hp → Prop, (∀ H', Nx1 H' → ∃ k', k' < k ∧ W1 (j + 1) k' H') ∧ ∀ x H', J1.yld j H x H' → g1 x (wipe σ2 vs1) H' fun σ3 H5 => wipe σ3 vs1 = wipe σ2 vs1 ∧ tt1 σ3 H5 fun b H6 =>
        if b = true then tk σ3 H6 fun y H7 => tv σ3 H7 fun z H8 => st D y z H8 Nx1 else Nx1 H6)
    else Nx H3)
theorem dg2_core {O : HO} {st : Addr → V → V → Hp → (Hp → Prop) → Prop} (dO : DStore X O st) {pins : List (Addr × Obj)} {s : Shared} {σ : L2.St} {H : Hp} {Q : VK} {kx vx tg iter tg1 iter1 : Expr} {ifs ifs1 : List Expr} {scope : Scope} {own : List (Str × Nat)} {vs1 : List Nat} {pos pos' : Pos} {wi wi1 : TI} {g g1 : TG} {tt tt1 : L2.TT} {tk tv : TE} {use : Option (Value → Sem Unit)} {Qf : Value → Shared → Prop}
    (hc : X.calm = true) (hN : X.N.Nodup) (I : Inv X pins σ H s) (hi : PI X tg iter wi) (ok : BlkOk X.N X.env.scope scope own) (hv : ∀ i ∈ vs1, i ∈ own.map (·.2))
    (hg : ∀ (s : Shared) (H : Hp) (C : Addr) (cl : List (Str × Addr)) (fp : List Addr), PG (X.blk s H scope (compEnvC scope cl C X.env) fp) tg g) (ht : ∀ (s : Shared) (H : Hp) (C : Addr) (cl : List (Str × Addr)) (fp : List Addr), PTs (X.blk s H scope (compEnvC scope cl C X.env) fp) ifs tt)
    (hk : ∀ (s : Shared) (H : Hp) (C : Addr) (cl : List (Str × Addr)) (fp : List Addr), PE (X.blk s H scope (compEnvC scope cl C X.env) fp) kx tk) (he : ∀ (s : Shared) (H : Hp) (C : Addr) (cl : List (Str × Addr)) (fp : List Addr), PE (X.blk s H scope (compEnvC scope cl C X.env) fp) vx tv) (hs : ∀ x, foldedSetIterable iter X.env x = pure x)
    (hi1 : ∀ (s : Shared) (H : Hp) (C : Addr) (cl : List (Str × Addr)) (fp : List Addr), PI (X.blk s H scope (compEnvC scope cl C X.env) fp) tg1 iter1 wi1)
    (hg1 : ∀ (s : Shared) (H : Hp) (C : Addr) (cl : List (Str × Addr)) (fp : List Addr), PG (X.blk s H scope (compEnvC scope cl C X.env) fp) tg1 g1)
    (ht1 : ∀ (s : Shared) (H : Hp) (C : Addr) (cl : List (Str × Addr)) (fp : List Addr), PTs (X.blk s H scope (compEnvC scope cl C X.env) fp) ifs1 tt1)
    (hs1 : ∀ env x, foldedSetIterable iter1 env x = pure x)
    (h : tDg2 O st wi g tt wi1 g1 tt1 tk tv (own.map (·.2)) vs1 σ H Q)
    (hRR : ∀ D C s' m H', Inv X pins σ H' s' → Q (.ref D) H' → s'.heap.Ns C m → FpOk X pins H' C → compPost (model X.prog X.w) X.A X.xe use Qf (.ref D) C (.ok .next) s') :
    wpAny (model X.prog X.w) X.A (comprehension (.DictComp kx vx [⟨tg, iter, ifs, 0⟩, ⟨tg1, iter1, ifs1, 0⟩] scope pos) scope X.env pos' newDict false (eval iter X.env) use) Qf X.xe s := by
  have hfree : ∀ y ∈ scope.names, y.2 = .free → ∃ c, X.env.cells.lookup y.1 = some c := fun y hy e => by
    rcases ok.free y hy e with k | k
    · exact I.ok.has _ (.inl k)
    · exact I.ok.has _ (.inr k)
  refine wpAny_comprehension_free (use := use) rfl hs (closure_ok hfree) ok.kind (fun y hy e => by rw [ok.uniq y hy, e])
    (thn (hi.run pins s σ H _ I h) fun xv s1 hx => thn hx fun itv s2 h2 => ?_)
  obtain ⟨it, fp, tn, J, H2, e, I2, T, st2, f2, q⟩ := h2
  subst e
  refine wpAny_newObj_type (newEnv_comp ?_)
  generalize hD : s2.heap.objs.size = D
  have hDn : H2 D = none := I2.hok.fresh (Nat.le_of_eq hD)
  obtain ⟨W, ⟨m0, w0⟩, turn⟩ := q D hDn
  -- the new list
  generalize hs3 : ({ s2 with heap := s2.heap.push { cls := .type "dict", data := .dict #[] } } : Shared) = s3
  have I3 : Inv X pins σ (upd H2 D O) s3 := by
    rw [← hs3]
    refine I2.laid (t' := s2.toks) (fun b o e => Heap.get?_push_of_some _ e) (Nat.le_of_eq hD) ?_
    rw [← hD]
    exact dO.new _ s2.heap I2.big
  have h3 : s3.heap = s2.heap.push { cls := .type "dict", data := .dict #[] } := by rw [← hs3]
  have sz : ∀ b ∈ fp, b < s2.heap.objs.size := fun b hb => by
    obtain ⟨o, e, _⟩ := T.obj _ _ st2 b hb
    exact Heap.lt_size e
  have f3 : ∀ b ∈ fp, FpOk X pins (upd H2 D O) b ∧ b < s3.heap.objs.size := fun b hb => by
    have hlt := sz b hb
    refine ⟨⟨?_, (f2 b hb).2⟩, by rw [h3, Heap.size_push]; exact Nat.lt_succ_of_lt hlt⟩
    rw [upd_ne (by rw [← hD]; exact Nat.ne_of_lt hlt)]
    exact (f2 b hb).1
  have st3 : tn 0 s3.heap := T.keep _ _ _ st2 fun b _ o e => by rw [h3]; exact Heap.get?_push_of_some _ e
  have I4 := block_start I3 ok hN f3
  have pg := hg s3 (upd H2 D O) s3.heap.objs.size (cellsFrom (s3.heap.objs.size + 1) scope.names (cloFrom X.env.cells scope.names [])) fp
  have pt := ht s3 (upd H2 D O) s3.heap.objs.size (cellsFrom (s3.heap.objs.size + 1) scope.names (cloFrom X.env.cells scope.names [])) fp
  have pk := hk s3 (upd H2 D O) s3.heap.objs.size (cellsFrom (s3.heap.objs.size + 1) scope.names (cloFrom X.env.cells scope.names [])) fp
  have pe := he s3 (upd H2 D O) s3.heap.objs.size (cellsFrom (s3.heap.objs.size + 1) scope.names (cloFrom X.env.cells scope.names [])) fp
  have pi1 := hi1 s3 (upd H2 D O) s3.heap.objs.size (cellsFrom (s3.heap.objs.size + 1) scope.names (cloFrom X.env.cells scope.names [])) fp
  have pg1 := hg1 s3 (upd H2 D O) s3.heap.objs.size (cellsFrom (s3.heap.objs.size + 1) scope.names (cloFrom X.env.cells scope.names [])) fp
  have pt1 := ht1 s3 (upd H2 D O) s3.heap.objs.size (cellsFrom (s3.heap.objs.size + 1) scope.names (cloFrom X.env.cells scope.names [])) fp
  show codeAny _ _ (.compStart (.DictComp kx vx [⟨tg, iter, ifs, 0⟩, ⟨tg1, iter1, ifs1, 0⟩] scope pos) 0 (.ref it) (.ref D) (compEnvC scope (cellsFrom (s3.heap.objs.size + 1) scope.names (cloFrom X.env.cells scope.names [])) s3.heap.objs.size X.env)) (compPost (model X.prog X.w) X.A X.xe use Qf (.ref D) s3.heap.objs.size) { s3 with heap := pushCells (s3.heap.push { cls := .type "dict", data := .dict #[] }) scope.names }
  have nfp : ∀ b ∈ fp, (upd H2 D O) b = none := fun b hb => (f3 b hb).1.1
  generalize hce : compEnvC scope (cellsFrom (s3.heap.objs.size + 1) scope.names (cloFrom X.env.cells scope.names [])) s3.heap.objs.size X.env = ce at I4 pg pt pk pe pi1 pg1 pt1 ⊢
  have cL : ce.locals = s3.heap.objs.size := by subst hce; rfl
  generalize hH3 : upd H2 D O = H3 at I3 I4 pg pt pk pe pi1 pg1 pt1 w0 nfp f3
  generalize hs4 : ({ s3 with heap := pushCells (s3.heap.push { cls := .type "dict", data := .dict #[] }) scope.names } : Shared) = s4 at I4 ⊢
  have st4 : tn 0 s4.heap := T.keep _ _ _ st3 fun b _ o e => by rw [← hs4]; exact pushCells_keeps _ _ _ _ (Heap.get?_push_of_some _ e)
  have stat : ∀ {σ' : L2.St} {H' : Hp} {s' : Shared}, Inv (X.blk s3 H3 scope ce fp) [] σ' H' s' → (∀ b ∈ fp, H' b = none) → ∀ b ∈ fp, FpOk (X.blk s3 H3 scope ce fp) [] H' b := fun {σ' H' s'} I' hn b hb =>
    ⟨hn b hb, (I'.ok.exf b hb).1, I'.ok.exfs b hb, .inl hb, fun x c e => (I'.ok.exf b hb).2 x c e, fun p hp => absurd (show p ∈ ([] : List (Addr × Obj)) ++ [] from hp) (by simp)⟩
  have loop : codeAny (model X.prog X.w) X.A (.compLoop (.DictComp kx vx [⟨tg, iter, ifs, 0⟩, ⟨tg1, iter1, ifs1, 0⟩] scope pos) 0 (.ref it) (.ref D) ce) (compPost (model X.prog X.w) X.A X.xe use Qf (.ref D) s3.heap.objs.size) s4 := by
    refine compLoopD2_out (hs1 ce) (fun n s' => ∃ i H', Inv (X.blk s3 H3 scope ce fp) [] (wipe σ (own.map (·.2))) H' s' ∧ tn i s'.heap ∧ (∀ b ∈ fp, H' b = none) ∧ W i n H') ?_ m0 ⟨0, H3, I4, st4, nfp, w0⟩
    rintro n s5 ⟨i, H5, I5, st5, n5, w5⟩
    rcases turn i n H5 w5 with ⟨stop, qq⟩ | ⟨go, Nx, hNx, step⟩
    · have td := T.done (X.blk s3 H3 scope ce fp) rfl rfl rfl hc i [] s5 _ H5 (fun _ _ => False) I5 (stat I5 n5) st5 stop
      refine thnF td fun r s6 ⟨hr, I6⟩ => ?_
      subst hr
      -- back in the def's context
      have I7 : Inv X pins σ H5 s6 := I3.call' (ch := fp) I6.os I6.base I6.hok I6.bare fun b hb => ⟨(f3 b hb).1.2.2.2.1, (f3 b hb).1.2.1, (f3 b hb).1.2.2.2.2.1, (f3 b hb).1.2.2.2.2.2⟩
      have nC : H5 s3.heap.objs.size = none := by
        have z : H5 ce.locals = none := I6.free
        rw [cL] at z
        exact z
      obtain ⟨m, hn, _⟩ := I6.loc
      have hn : s6.heap.Ns ce.locals m := hn
      rw [cL] at hn
      exact hRR D s3.heap.objs.size s6 m H5 I7 qq hn (I3.fpOk (Nat.le_refl _) nC)
    · have ti := T.item (X.blk s3 H3 scope ce fp) rfl rfl rfl hc i [] s5 _ H5 (fun _ _ => False) I5 (stat I5 n5) st5 go
      refine thnF ti fun r s6 ⟨u, hr, h6⟩ => ?_
      subst hr
      refine thnF h6 fun _ s7 ⟨x, H7, I7, r7, y7, st7, n7⟩ => ?_
      have I7' := I7.pinned (stat I7 n7) (T.obj _ _ st7)
      refine thnF (pg.run _ s7 _ H7 x u _ I7' r7 (step x H7 y7)) fun _ s8 ⟨σ8, H8, I8, hw8, q8⟩ => ?_
      refine thnF (pt.run _ s8 σ8 H8 _ I8 q8) fun b s9 ⟨H9, I9, q9⟩ => ?_
      -- the turn's end, from any slots that know what the block knew at its start
      have fin : ∀ {σ9 : L2.St} {s' : Shared} {H' : Hp}, Inv (X.blk s3 H3 scope ce fp) ([] ++ pinsAt fp s7.heap) σ9 H' s' → (wipe σ (own.map (·.2))).length = σ9.length → (∀ (j : Nat) v, (wipe σ (own.map (·.2)))[j]? = some (some v) → σ9[j]? = some (some v)) → Nx H' →
          ∃ m, m < n ∧ ∃ i H', Inv (X.blk s3 H3 scope ce fp) [] (wipe σ (own.map (·.2))) H' s' ∧ tn i s'.heap ∧ (∀ b ∈ fp, H' b = none) ∧ W i m H' := fun {σ9 s' H'} I' hl hk nx => by
        obtain ⟨m', hm, w'⟩ := hNx H' nx
        have pin' : ∀ b ∈ fp, ∀ o, s7.heap.get? b = some o → s'.heap.get? b = some o ∧ H' b = none := fun b hb o e =>
          let z := I'.pin (b, o) (List.mem_append_right _ (List.mem_append_right _ (mem_pinsAt hb e)))
          ⟨z.1, z.2.1⟩
        refine ⟨m', hm, i + 1, H', (I'.unpinned (pins := [])).weak hl hk, T.keep _ _ _ st7 fun b hb o e => (pin' b hb o e).1, fun b hb => ?_, w'⟩
        obtain ⟨o, e, _⟩ := T.obj _ _ st7 b hb
        exact (pin' b hb o e).2
      have hl8 : (wipe σ (own.map (·.2))).length = σ8.length := by rw [← hw8, wipe_length]
      have hk8 : ∀ (j : Nat) v, (wipe σ (own.map (·.2)))[j]? = some (some v) → σ8[j]? = some (some v) := fun j v e => by
        rw [← hw8] at e
        exact (wipe_some e).1
      have hk9 : ∀ (j : Nat) v, (wipe σ (own.map (·.2)))[j]? = some (some v) → (wipe σ8 vs1)[j]? = some (some v) := fun j v e => by
        rw [← hw8] at e
        obtain ⟨e1, e2⟩ := wipe_some e
        rw [wipe_out fun z => e2 (hv j z)]
        exact e1
      cases b with
      | false =>
        simp only [Bool.false_eq_true, if_false] at q9 ⊢
        exact fin I9 hl8 hk8 q9
      | true =>
        simp only [if_true] at q9 ⊢
        refine thnF (pi1.run _ s9 σ8 H9 _ I9 q9) fun xv s10 hx => thnF hx fun itv s11 h11 => ?_
        obtain ⟨it1, fp1, tn1, J1, H11, e1, I11, T1, st11, f11, W1, ⟨m1, w1⟩, turn1⟩ := h11
        subst e1
        -- the inner loop
        have stat1 : ∀ {H' : Hp}, (∀ b ∈ fp1, H' b = none) → ∀ b ∈ fp1, FpOk (X.blk s3 H3 scope ce fp) ([] ++ pinsAt fp s7.heap) H' b := fun hn b hb => ⟨hn b hb, (f11 b hb).2⟩
        have loop1 : codeAny (model X.prog X.w) X.A (.compLoop (.DictComp kx vx [⟨tg, iter, ifs, 0⟩, ⟨tg1, iter1, ifs1, 0⟩] scope pos) 1 (.ref it1) (.ref D) ce)
            (fun r s' => match r with
              | .ok _ => ∃ m, m < n ∧ ∃ i H', Inv (X.blk s3 H3 scope ce fp) [] (wipe σ (own.map (·.2))) H' s' ∧ tn i s'.heap ∧ (∀ b ∈ fp, H' b = none) ∧ W i m H'
              | .error _ => False) s11 := by
          refine compLoopD2_in (fun k s' => ∃ j H', Inv (X.blk s3 H3 scope ce fp) ([] ++ pinsAt fp s7.heap) (wipe σ8 vs1) H' s' ∧ tn1 j s'.heap ∧ (∀ b ∈ fp1, H' b = none) ∧ W1 j k H') ?_ m1 ⟨0, H11, I11.weak (wipe_length _ _) (fun j v e => (wipe_some e).1), st11, fun b hb => (f11 b hb).1, w1⟩
          rintro k s12 ⟨j, H12, I12, st12, n12, w12⟩
          rcases turn1 j k H12 w12 with ⟨stop1, nx1⟩ | ⟨go1, Nx1, hNx1, step1⟩
          · refine thnF (T1.done (X.blk s3 H3 scope ce fp) rfl rfl rfl hc j _ s12 (wipe σ8 vs1) H12 (fun _ _ => False) I12 (stat1 n12) st12 stop1) fun r s13 ⟨hr, I13⟩ => ?_
            subst hr
            exact fin I13 (hl8.trans (wipe_length σ8 vs1).symm) hk9 nx1
          · refine thnF (T1.item (X.blk s3 H3 scope ce fp) rfl rfl rfl hc j _ s12 (wipe σ8 vs1) H12 (fun _ _ => False) I12 (stat1 n12) st12 go1) fun r s13 ⟨u1, hr, h13⟩ => ?_
            subst hr
            refine thnF h13 fun _ s14 ⟨x1, H14, I14, r14, y14, st14, n14⟩ => ?_
            have I14' := I14.pinned (stat1 n14) (T1.obj _ _ st14)
            refine thnF (pg1.run _ s14 (wipe σ8 vs1) H14 x1 u1 _ I14' r14 (step1 x1 H14 y14)) fun _ s15 ⟨σ15, H15, I15, hw15, q15⟩ => ?_
            refine thnF (pt1.run _ s15 σ15 H15 _ I15 q15) fun b1 s16 ⟨H16, I16, q16⟩ => ?_
            have fin1 : ∀ {s' : Shared} {H' : Hp}, Inv (X.blk s3 H3 scope ce fp) (([] ++ pinsAt fp s7.heap) ++ pinsAt fp1 s14.heap) σ15 H' s' → Nx1 H' → ∃ m, m < k ∧ ∃ j H', Inv (X.blk s3 H3 scope ce fp) ([] ++ pinsAt fp s7.heap) (wipe σ8 vs1) H' s' ∧ tn1 j s'.heap ∧ (∀ b ∈ fp1, H' b = none) ∧ W1 j m H' := fun {s' H'} I' nx => by
              obtain ⟨m', hm, w'⟩ := hNx1 H' nx
              have pin' : ∀ b ∈ fp1, ∀ o, s14.heap.get? b = some o → s'.heap.get? b = some o ∧ H' b = none := fun b hb o e =>
                let z := I'.pin (b, o) (List.mem_append_right _ (List.mem_append_right _ (mem_pinsAt hb e)))
                ⟨z.1, z.2.1⟩
              refine ⟨m', hm, j + 1, H', I'.unpinned.weak (by rw [← hw15, wipe_length]) (fun j v e => by rw [← hw15] at e; exact (wipe_some e).1), T1.keep _ _ _ st14 fun b hb o e => (pin' b hb o e).1, fun b hb => ?_, w'⟩
              obtain ⟨o, e, _⟩ := T1.obj _ _ st14 b hb
              exact (pin' b hb o e).2
            cases b1 with
            | false =>
              simp only [Bool.false_eq_true, if_false] at q16 ⊢
              exact fin1 I16 q16
            | true =>
              simp only [if_true] at q16 ⊢
              refine thnF (pk.run _ s16 σ15 H16 _ I16 q16) fun z s17 ⟨yk, H17, I17, r17, q17⟩ => thnF (pe.run _ s17 σ15 H17 _ I17 q17) fun z2 s18 ⟨yv, H18, I18, r18, q18⟩ => ?_
              exact thnF (dO.set (X.blk s3 H3 scope ce fp) _ σ15 H18 s18 (fun _ _ => False) D yk yv z z2 Nx1 rfl rfl rfl I18 r17 r18 q18) fun _ s19 ⟨H19, I19, nx⟩ => fin1 I19 nx
        exact compStartD1_ok loop1 (T1.self X.A 0 _ _ _ st11 loop1)
  exact codeAny_compStart_dict loop (T.self X.A 0 _ _ _ st4 loop)

/-- as a value -/
theorem pe_dg2 {O : HO} {st : Addr → V → V → Hp → (Hp → Prop) → Prop} (dO : DStore X O st) {kx vx tg iter tg1 iter1 : Expr} {ifs ifs1 : List Expr} {scope : Scope} {own : List (Str × Nat)} {vs1 : List Nat} {pos : Pos} {wi wi1 : TI} {g g1 : TG} {tt tt1 : L2.TT} {tk tv : TE} (hc : X.calm = true) (hN : X.N.Nodup) (hi : PI X tg iter wi) (ok : BlkOk X.N X.env.scope scope own) (hv : ∀ i ∈ vs1, i ∈ own.map (·.2))
    (hg : ∀ (s : Shared) (H : Hp) (C : Addr) (cl : List (Str × Addr)) (fp : List Addr), PG (X.blk s H scope (compEnvC scope cl C X.env) fp) tg g) (ht : ∀ (s : Shared) (H : Hp) (C : Addr) (cl : List (Str × Addr)) (fp : List Addr), PTs (X.blk s H scope (compEnvC scope cl C X.env) fp) ifs tt)
    (hi1 : ∀ (s : Shared) (H : Hp) (C : Addr) (cl : List (Str × Addr)) (fp : List Addr), PI (X.blk s H scope (compEnvC scope cl C X.env) fp) tg1 iter1 wi1)
    (hg1 : ∀ (s : Shared) (H : Hp) (C : Addr) (cl : List (Str × Addr)) (fp : List Addr), PG (X.blk s H scope (compEnvC scope cl C X.env) fp) tg1 g1) (ht1 : ∀ (s : Shared) (H : Hp) (C : Addr) (cl : List (Str × Addr)) (fp : List Addr), PTs (X.blk s H scope (compEnvC scope cl C X.env) fp) ifs1 tt1)
    (hk : ∀ (s : Shared) (H : Hp) (C : Addr) (cl : List (Str × Addr)) (fp : List Addr), PE (X.blk s H scope (compEnvC scope cl C X.env) fp) kx tk) (he : ∀ (s : Shared) (H : Hp) (C : Addr) (cl : List (Str × Addr)) (fp : List Addr), PE (X.blk s H scope (compEnvC scope cl C X.env) fp) vx tv) (hs : ∀ x, foldedSetIterable iter X.env x = pure x := by intro _; rfl) (hs1 : ∀ env x, foldedSetIterable iter1 env x = pure x := by intro _ _; rfl) :
    PE X (.DictComp kx vx [⟨tg, iter, ifs, 0⟩, ⟨tg1, iter1, ifs1, 0⟩] scope pos) (tDg2 O st wi g tt wi1 g1 tt1 tk tv (own.map (·.2)) vs1) := by
  refine ⟨fun pins s σ H Q I h => ?_⟩
  rw [arm_eval_DictComp]
  refine dg2_core dO hc hN I hi ok hv hg ht hk he hs hi1 hg1 ht1 hs1 h fun D C s' m H' I' q hn f => ⟨m, hn, fun h'' sb => ?_⟩
  obtain ⟨f0, f1, f2, f3, f4, f5⟩ := f
  exact ⟨.ref D, H', I'.turned (t' := s'.toks) (fun b o hb e => (sb.2 b hb).trans e) f0 f1 f3 f4 f5, rfl, q⟩
theorem ps_setDg2 {O : HO} {st : Addr → V → V → Hp → (Hp → Prop) → Prop} (dO : DStore X O st) {i : Nat} {y : Str} {py : Pos} {kx vx tg iter tg1 iter1 : Expr} {ifs ifs1 : List Expr} {scope : Scope} {own : List (Str × Nat)} {vs1 : List Nat} {pos spos : Pos} {wi wi1 : TI} {g g1 : TG} {tt tt1 : L2.TT} {tk tv : TE} (hc : X.calm = true) (hN : X.N.Nodup) (hy : X.N[i]? = some y) (hyl : X.env.scope.names.lookup y = some .local)
    (hsw : swapsWith (.DictComp kx vx [⟨tg, iter, ifs, 0⟩, ⟨tg1, iter1, ifs1, 0⟩] scope pos) (some (.Name y py)) spos.line X.env = pure true) (hi : PI X tg iter wi) (ok : BlkOk X.N X.env.scope scope own) (hv : ∀ i ∈ vs1, i ∈ own.map (·.2))
    (hg : ∀ (s : Shared) (H : Hp) (C : Addr) (cl : List (Str × Addr)) (fp : List Addr), PG (X.blk s H scope (compEnvC scope cl C X.env) fp) tg g) (ht : ∀ (s : Shared) (H : Hp) (C : Addr) (cl : List (Str × Addr)) (fp : List Addr), PTs (X.blk s H scope (compEnvC scope cl C X.env) fp) ifs tt)
    (hi1 : ∀ (s : Shared) (H : Hp) (C : Addr) (cl : List (Str × Addr)) (fp : List Addr), PI (X.blk s H scope (compEnvC scope cl C X.env) fp) tg1 iter1 wi1)
    (hg1 : ∀ (s : Shared) (H : Hp) (C : Addr) (cl : List (Str × Addr)) (fp : List Addr), PG (X.blk s H scope (compEnvC scope cl C X.env) fp) tg1 g1) (ht1 : ∀ (s : Shared) (H : Hp) (C : Addr) (cl : List (Str × Addr)) (fp : List Addr), PTs (X.blk s H scope (compEnvC scope cl C X.env) fp) ifs1 tt1)
    (hk : ∀ (s : Shared) (H : Hp) (C : Addr) (cl : List (Str × Addr)) (fp : List Addr), PE (X.blk s H scope (compEnvC scope cl C X.env) fp) kx tk) (he : ∀ (s : Shared) (H : Hp) (C : Addr) (cl : List (Str × Addr)) (fp : List Addr), PE (X.blk s H scope (compEnvC scope cl C X.env) fp) vx tv) (hs : ∀ x, foldedSetIterable iter X.env x = pure x := by intro _; rfl) (hs1 : ∀ env x, foldedSetIterable iter1 env x = pure x := by intro _ _; rfl) :
    PS X (.Assign [.Name y py] (.DictComp kx vx [⟨tg, iter, ifs, 0⟩, ⟨tg1, iter1, ifs1, 0⟩] scope pos) spos) (tAsg (tDg2 O st wi g tt wi1 g1 tt1 tk tv (own.map (·.2)) vs1) (gName i)) := by
  refine ⟨fun pins s σ H D I h => ?_⟩
  rw [exec_Assign_Name_used _ _ _ _ hsw]
  refine wpAny_bind (wpAny_standAt (wpAny_bind ?_))
  show wpAny _ X.A (do let _ ← comprehension (.DictComp kx vx [⟨tg, iter, ifs, 0⟩, ⟨tg1, iter1, ifs1, 0⟩] scope pos) scope X.env (firstIterPos [⟨tg, iter, ifs, 0⟩, ⟨tg1, iter1, ifs1, 0⟩] pos) newDict false (eval iter X.env) (some (assign (.Name y py) X.env))) _ _ s
  have h : tDg2 O st wi g tt wi1 g1 tt1 tk tv (own.map (·.2)) vs1 σ H (fun x H1 => gName i x σ H1 D.nx) := h
  refine wpAny_bind (thn (dg2_core (Qf := fun _ s' => SP X pins D .next s') dO hc hN I hi ok hv hg ht hk he hs hi1 hg1 ht1 hs1 h fun L C s' m H' I' q hn f => ?_) fun _ s' hq => wpAny_pure (wpAny_pure hq))
  show wpAny _ _ (assign (.Name y py) X.env (.ref L)) _ _ _
  refine wpAny_assign_Name (store_ok2 (v := V.ref L) I' hN hy (.inl hyl) rfl (fun s2 I2 ⟨a, sb, ha⟩ => ?_) (.inr hyl))
  obtain ⟨f0, f1, f2, f3, f4, f5⟩ := f
  have haC : C ≠ a := by
    rcases ha with z | z
    · rw [z]; exact f1
    · exact fun e => f4 y a z e.symm
  refine ⟨m, hn.sameBut sb haC, fun h3 sb3 => ?_⟩
  exact ⟨_, H', I2.turned (t' := s2.toks) (fun b o hb e => (sb3.2 b hb).trans e) f0 f1 f3 f4 f5, q⟩

end
end SD

set_option Elab.async false
set_option linter.all false
/-! narrowing: one constraint is followed -/
namespace MR
open PySem PySem.W PyProof.Rows ZB
/-- how masks and the changed variables move -/
structure Fo (n : Nat) (ms : List Nat) (chs : List Int) (ms' : List Nat) (chs' : List Int) : Prop where
  sub : ∀ p ∈ chs, p ∈ chs'
  nd : chs'.Nodup
  ok : ∀ p ∈ chs', 0 ≤ p ∧ p < (n : Int)
  same : ∀ i : Nat, (i : Int) ∉ chs' → ms'.getD i 0 = ms.getD i 0
  le : ∀ i, ms'.getD i 0 ≤ ms.getD i 0
  cnt : (ms' = ms ∧ chs' = chs) ∨ cntF (famM ms') < cntF (famM ms)
theorem Fo.refl {n : Nat} {ms : List Nat} {chs : List Int} (nd : chs.Nodup) (ok : ∀ p ∈ chs, 0 ≤ p ∧ p < (n : Int)) : Fo n ms chs ms chs := ⟨fun _ h => h, nd, ok, fun _ _ => rfl, fun _ => Nat.le_refl _, .inl ⟨rfl, rfl⟩⟩
theorem Fo.trans {n : Nat} {a b c : List Nat} {x y z : List Int} (h : Fo n a x b y) (k : Fo n b y c z) : Fo n a x c z where
  sub := fun p hp => k.sub p (h.sub p hp)
  nd := k.nd
  ok := k.ok
  same := fun i hi => (k.same i hi).trans (h.same i fun z => hi (k.sub _ z))
  le := fun i => Nat.le_trans (k.le i) (h.le i)
  cnt := by
    rcases h.cnt with ⟨rfl, rfl⟩ | h1
    · exact k.cnt
    · rcases k.cnt with ⟨rfl, rfl⟩ | k1
      · exact .inr h1
      · exact .inr (Nat.lt_trans k1 h1)
theorem Fo.clear {n : Nat} {ms ms' : List Nat} {chs chs' : List Int} (h : Fo n ms chs ms' chs') (l16 : allLt ms' 16) {i v : Nat} (hv : v < 4) (hl : ms'.length = n) (hi : i < n) (hb : (ms'.getD i 0).testBit v = true) : Fo n ms chs (clrF ms' i v) (addI chs' i) where
  sub := fun p hp => mem_addI.mpr (.inl (h.sub p hp))
  nd := nd_addI h.nd
  ok := fun p hp => by
    rcases mem_addI.mp hp with hp | rfl
    · exact h.ok p hp
    · omega
  same := fun j hj => by
    have ne : i ≠ j := fun e => hj (mem_addI.mpr (.inr (by rw [e])))
    rw [clrF_at (by omega), if_neg ne]
    exact h.same j fun z => hj (mem_addI.mpr (.inl z))
  le := fun j => by
    rw [clrF_at (by omega)]
    split
    · rename_i e
      rw [← e]
      exact Nat.le_trans (clr_le ..) (h.le i)
    · exact h.le j
  cnt := by
    have c := clrF_cnt l16 hv (show i < ms'.length by omega) hb
    rcases h.cnt with ⟨e, _⟩ | h1
    · rw [e] at c ⊢
      exact .inr c
    · exact .inr (Nat.lt_trans c h1)
theorem Fo.fails {rels : RelL} {cs : List ConL} {sz n : Nat} {rws rws' : List (List (List Int))} {ms ms' : List Nat} {fl' : Bool} {chs chs' : List Int} (h : Fo n ms chs ms' chs') (N : Nv rels cs sz n rws ms true) (N' : Nv rels cs sz n rws' ms' fl') : fl' = true := by
  obtain ⟨i, hi, e⟩ := N.fl.mp rfl
  refine N'.fl.mpr ⟨i, hi, ?_⟩
  have := h.le i
  omega
/-- how a round moves what is consistent -/
theorem round_step {rels : RelL} {n : Nat} {c : ConL} {ms ms' : List Nat} {chs chs' : List Int} (h : Fo n ms chs ms' chs') (k : (∃ p ∈ c.2, (p : Int) ∈ chs) ∨ consC rels ms c) : (∃ p ∈ c.2, (p : Int) ∈ chs') ∨ consC rels ms' c := by
  rcases k with ⟨p, hp, hc⟩ | k
  · exact .inl ⟨p, hp, h.sub _ hc⟩
  · by_cases e : ∃ p ∈ c.2, (p : Int) ∈ chs'
    · exact .inl e
    · exact .inr (consC_cong (fun p hp => (h.same p fun z => e ⟨p, hp, z⟩).symm) k)
/-- the places ahead of j have only values of the rows R -/
def HeldUp (c : ConL) (R : List (List Int)) (ms : List Nat) (fl : Bool) (j : Nat) : Prop := fl = true ∨ ∀ q, q < j → ∀ y ∈ valsM (ms.getD (c.2.getD q 0) 0), ∃ r ∈ R, r.getD q 0 = y
/-- .. the values below k of the place j -/
def HeldV (c : ConL) (R : List (List Int)) (ms : List Nat) (fl : Bool) (j k : Nat) : Prop := fl = true ∨ ∀ y ∈ valsM (ms.getD (c.2.getD j 0) 0), y < (k : Int) → ∃ r ∈ R, r.getD j 0 = y
theorem sub_clr {ms : List Nat} {i v j : Nat} {y : Int} (l16 : allLt ms 16) (hv : v < 4) (hi : i < ms.length) (hy : y ∈ valsM ((clrF ms i v).getD j 0)) : y ∈ valsM (ms.getD j 0) := by
  have := clrF_sub l16 hv hi j y
  rw [famM_at, famM_at] at this
  exact this hy
theorem HeldUp.clear {c : ConL} {R : List (List Int)} {ms : List Nat} {fl : Bool} {j i v : Nat} (h : HeldUp c R ms false j) (l16 : allLt ms 16) (hv : v < 4) (hi : i < ms.length) : HeldUp c R (clrF ms i v) fl j := by
  rcases h with h | h
  · cases h
  · exact .inr fun q hq y hy => h q hq y (sub_clr l16 hv hi hy)
theorem HeldV.clear {c : ConL} {R : List (List Int)} {ms : List Nat} {fl : Bool} {j v : Nat} (h : HeldV c R ms false j v) (l16 : allLt ms 16) (hv : v < 4) (hi : c.2.getD j 0 < ms.length) : HeldV c R (clrF ms (c.2.getD j 0) v) fl j (v + 1) := by
  rcases h with h | h
  · cases h
  · refine .inr fun y hy hk => ?_
    have hy0 := sub_clr l16 hv hi hy
    rw [clrF_at hi, if_pos rfl, vals_clr (l16 _) hv] at hy
    have ne := of_decide_eq_true (List.mem_filter.mp hy).2
    exact h y hy0 (by omega)
theorem HeldV.skip {c : ConL} {R : List (List Int)} {ms : List Nat} {fl : Bool} {j v : Nat} (h : HeldV c R ms fl j v) (hs : fl = false → (ms.getD (c.2.getD j 0) 0).testBit v = true → ∃ r ∈ R, r.getD j 0 = (v : Int)) : HeldV c R ms fl j (v + 1) := by
  cases fl with
  | true => exact .inl rfl
  | false =>
    rcases h with h | h
    · cases h
    · refine .inr fun y hy hk => ?_
      by_cases e : y = (v : Int)
      · subst e
        exact hs rfl (mem_valsI.mp hy).2
      · exact h y hy (by omega)
theorem HeldUp.next {c : ConL} {R : List (List Int)} {ms : List Nat} {fl : Bool} {j k : Nat} (h : HeldUp c R ms fl j) (hv : HeldV c R ms fl j k) (hk : ∀ v, v < 4 → (ms.getD (c.2.getD j 0) 0).testBit v = true → v < k) : HeldUp c R ms fl (j + 1) := by
  rcases h with h | h
  · exact .inl h
  rcases hv with hv | hv
  · exact .inl hv
  · refine .inr fun q hq y hy => ?_
    by_cases e : q = j
    · subst e
      refine hv y hy ?_
      obtain ⟨v, rfl, h4, hb⟩ := mem_vals.mp hy
      have := hk v h4 hb
      omega
    · exact h q (by omega) y hy
/-- what a constraint's following leaves -/
theorem follow_cons {rels : RelL} {n : Nat} {c : ConL} {R : List (List Int)} {ms ms' : List Nat} {chs chs' : List Int} {fl : Bool} (f : Fo n ms chs ms' chs') (hR : ∀ r ∈ R, r ∈ (rels.getD c.1 (0, [])).2 ∧ fitB (famM ms) c.2 r = true) (h : HeldUp c R ms' fl c.2.length) : fl = true ∨ (∃ p ∈ c.2, (p : Int) ∈ chs') ∨ consC rels ms' c := by
  rcases h with h | h
  · exact .inl h
  right
  by_cases e : ∃ p ∈ c.2, (p : Int) ∈ chs'
  · exact .inl e
  · right
    have sm : ∀ p ∈ c.2, ms'.getD p 0 = ms.getD p 0 := fun p hp => f.same p fun z => e ⟨p, hp, z⟩
    intro p hp x hx
    obtain ⟨r, hr, er⟩ := h p hp x hx
    obtain ⟨h1, h2⟩ := hR r hr
    exact ⟨r, h1, er, by rw [← h2]; exact fitB_cong fun q hq => by rw [famM_at, famM_at, sm q hq]⟩
/-- the values of a place of some rows, as a dict holds them -/
def heldL (j : Nat) : List (List Int) → List Int := fun R => R.foldl (fun ks r => addI ks (r.getD j 0)) []
theorem held_fold {j : Nat} : ∀ (R : List (List Int)) (ks : List Int), (∀ y, y ∈ R.foldl (fun ks r => addI ks (r.getD j 0)) ks ↔ y ∈ ks ∨ ∃ r ∈ R, r.getD j 0 = y)
  | [], ks, y => by simp
  | r :: R, ks, y => by
    show y ∈ R.foldl (fun ks r => addI ks (r.getD j 0)) (addI ks (r.getD j 0)) ↔ _
    rw [held_fold R _ y, mem_addI]
    constructor
    · rintro ((h | h) | ⟨s, hs, e⟩)
      · exact .inl h
      · exact .inr ⟨r, List.mem_cons_self, h.symm⟩
      · exact .inr ⟨s, List.mem_cons_of_mem _ hs, e⟩
    · rintro (h | ⟨s, hs, e⟩)
      · exact .inl (.inl h)
      · rcases List.mem_cons.mp hs with rfl | hs
        · exact .inl (.inr e.symm)
        · exact .inr ⟨s, hs, e⟩
theorem mem_held {j : Nat} {R : List (List Int)} {y : Int} : y ∈ heldL j R ↔ ∃ r ∈ R, r.getD j 0 = y := by
  unfold heldL
  rw [held_fold]
  simp
theorem held_len {j : Nat} : ∀ (R : List (List Int)) (ks : List Int), (R.foldl (fun ks r => addI ks (r.getD j 0)) ks).length ≤ ks.length + R.length
  | [], ks => Nat.le_refl _
  | r :: R, ks => by
    have h1 := held_len (j := j) R (addI ks (r.getD j 0))
    have h2 := len_addI ks (r.getD j 0)
    show (R.foldl (fun ks r => addI ks (r.getD j 0)) (addI ks (r.getD j 0))).length ≤ _
    rw [List.length_cons]
    omega
end MR

set_option Elab.async false
set_option linter.all false
namespace MR
/-! steps that take values away -/
structure Stp where
  v : Nat
  x : Nat
  i : Nat
  p : Nat
def stR (s : Stp) : List Int := [(s.v : Int), (s.x : Int), (s.i : Int), (s.p : Int)]
def goodS (rels : RelL) (cs : List ConL) (f : List (List Int)) (s : Stp) : Bool :=
  decide ((s.x : Int) ∈ f.getD s.v []) && (decide (s.p < (cs.getD s.i (0, [])).2.length) && (decide ((cs.getD s.i (0, [])).2.getD s.p 0 = s.v) &&
    (rels.getD (cs.getD s.i (0, [])).1 (0, [])).2.all fun r => !(decide (r.getD s.p 0 = (s.x : Int)) && fitB f (cs.getD s.i (0, [])).2 r)))
def outF (f : List (List Int)) (v x : Nat) : List (List Int) := f.set v ((f.getD v []).filter fun y => decide (y ≠ (x : Int)))
def runS (rels : RelL) (cs : List ConL) (f : List (List Int)) : List Stp → Option (List (List Int))
  | [] => some f
  | s :: ss => if goodS rels cs f s = true then runS rels cs (outF f s.v s.x) ss else none
def endS (rels : RelL) (cs : List ConL) (f : List (List Int)) (ss : List Stp) : Bool :=
  match runS rels cs f ss with
  | some g => decide ([] ∈ g)
  | none => false
theorem runS_app {rels : RelL} {cs : List ConL} : ∀ {a b : List Stp} {f : List (List Int)}, runS rels cs f (a ++ b) = (runS rels cs f a).bind fun g => runS rels cs g b
  | [], b, f => rfl
  | s :: a, b, f => by
    show (if _ then runS rels cs _ (a ++ b) else none) = Option.bind (if _ then _ else none) _
    split
    · exact runS_app
    · rfl
theorem out_at {f : List (List Int)} {v x j : Nat} : (outF f v x).getD j [] = if v = j then (f.getD j []).filter (fun y => decide (y ≠ (x : Int))) else f.getD j [] := by
  unfold outF
  by_cases hv : v < f.length
  · rw [setD_at hv]
    split
    · rename_i e
      rw [e]
    · rfl
  · rw [List.set_eq_of_length_le (by omega)]
    split
    · rename_i e
      rw [← e, getD_out (by omega)]
      rfl
    · rfl
theorem out_len {f : List (List Int)} {v x : Nat} : (outF f v x).length = f.length := by unfold outF; rw [List.length_set]
theorem out_sub {f : List (List Int)} {v x : Nat} : SubF (outF f v x) f := fun j y h => by
  rw [out_at] at h
  split at h
  · exact (List.mem_filter.mp h).1
  · exact h
theorem run_sub {rels : RelL} {cs : List ConL} : ∀ {ss : List Stp} {f g : List (List Int)}, runS rels cs f ss = some g → SubF g f ∧ g.length = f.length
  | [], f, g, h => by cases h; exact ⟨.refl _, rfl⟩
  | s :: ss, f, g, h => by
    unfold runS at h
    split at h
    · obtain ⟨a, b⟩ := run_sub h
      exact ⟨a.trans out_sub, b.trans out_len⟩
    · cases h
/-- what is taken away does not come again -/
theorem run_gone {rels : RelL} {cs : List ConL} : ∀ {ss : List Stp} {f g : List (List Int)} {s : Stp}, runS rels cs f ss = some g → s ∈ ss → (s.x : Int) ∉ g.getD s.v []
  | [], _, _, _, _, h => by simp at h
  | t :: ss, f, g, s, h, hm => by
    unfold runS at h
    split at h
    · rcases List.mem_cons.mp hm with rfl | hm
      · intro z
        have := (run_sub h).1 _ _ z
        rw [out_at, if_pos rfl] at this
        simp at this
      · exact run_gone h hm
    · cases h
theorem good_out {rels : RelL} {cs : List ConL} {f : List (List Int)} {s : Stp} (h : (s.x : Int) ∉ f.getD s.v []) : goodS rels cs f s = false := by
  unfold goodS
  rw [decide_eq_false h]
  rfl
theorem end_twice {rels : RelL} {cs : List ConL} {f : List (List Int)} {ss : List Stp} {s : Stp} (hm : s ∈ ss) : endS rels cs f (ss ++ [s]) = false := by
  unfold endS
  rw [runS_app]
  cases h : runS rels cs f ss with
  | none => rfl
  | some g =>
    show (match runS rels cs g [s] with | some g => _ | none => false) = false
    unfold runS
    rw [good_out (run_gone h hm)]
    rfl
theorem out_vals {ms : List Nat} {v x : Nat} (h : allLt ms 16) (hx : x < 4) : outF (famM ms) v x = famM (clrF ms v x) := by
  by_cases hv : v < ms.length
  · unfold outF clrF
    rw [famM_at, ← vals_clr (h v) hx]
    unfold famM
    rw [List.map_set]
  · unfold outF clrF
    rw [List.set_eq_of_length_le (by rw [famM_len]; omega), List.set_eq_of_length_le (by omega)]
theorem full_mask {sz n : Nat} (h1 : 1 ≤ sz) (h4 : sz ≤ 4) : famM (List.replicate n (2 ^ sz - 1)) = fullF sz n := by
  have h : ∀ sz, sz ≤ 4 → valsM (2 ^ sz - 1) = fullV sz := by decide +kernel
  unfold famM fullF
  rw [List.map_replicate, h sz h4, List.map_const', List.length_range]
structure InS (cs : List ConL) (sz n : Nat) (s : Stp) : Prop where
  v : s.v < n
  x : s.x < sz
  i : s.i < cs.length
/-- the steps lead from all values to the masks -/
structure Goes (rels : RelL) (cs : List ConL) (sz n : Nat) (ss : List Stp) (ms : List Nat) : Prop where
  run : runS rels cs (fullF sz n) ss = some (famM ms)
  ins : ∀ s ∈ ss, InS cs sz n s ∧ s.p < (cs.getD s.i (0, [])).2.length
theorem Goes.start {rels : RelL} {cs : List ConL} {sz n : Nat} (h1 : 1 ≤ sz) (h4 : sz ≤ 4) : Goes rels cs sz n [] (List.replicate n (2 ^ sz - 1)) := ⟨by rw [full_mask h1 h4]; rfl, fun _ h => by simp at h⟩
theorem Goes.step {rels : RelL} {cs : List ConL} {sz n : Nat} {ss : List Stp} {ms : List Nat} {rws : List (List (List Int))} {fl : Bool} (h : Goes rels cs sz n ss ms) (N : Nv rels cs sz n rws ms fl) (h4 : sz ≤ 4) {i p v x : Nat} {c : ConL} (e : cs[i]? = some c) (hp : p < c.2.length) (ev : c.2.getD p 0 = v) (hv : v < n) (hx : x < 4) (hb : (ms.getD v 0).testBit x = true) (no : ∀ r ∈ rws.getD i [], r.getD p 0 ≠ (x : Int)) : Goes rels cs sz n (ss ++ [⟨v, x, i, p⟩]) (clrF ms v x) := by
  have l16 : allLt ms 16 := fun j => mask16 (N.lt j) h4
  have ec : cs.getD i (0, []) = c := by rw [List.getD_eq_getElem?_getD, e]; rfl
  have hi : i < cs.length := (List.getElem?_eq_some_iff.mp e).1
  have hxs : x < sz := Decidable.byContradiction fun z => by
    have := Nat.testBit_lt_two_pow (x := ms.getD v 0) (i := x) (Nat.lt_of_lt_of_le (N.lt v) (Nat.pow_le_pow_right (by decide) (by omega)))
    rw [this] at hb
    cases hb
  refine ⟨?_, fun s hs => ?_⟩
  · rw [runS_app, h.run]
    show (if goodS rels cs (famM ms) ⟨v, x, i, p⟩ = true then some (outF (famM ms) v x) else none) = _
    rw [out_vals l16 hx, if_pos]
    unfold goodS
    simp only [ec]
    rw [famM_at, decide_eq_true (mem_valsI.mpr ⟨hx, hb⟩), decide_eq_true hp, decide_eq_true ev, Bool.true_and, Bool.true_and, Bool.true_and, List.all_eq_true]
    intro r hr
    cases hf : fitB (famM ms) c.2 r with
    | false => simp
    | true => rw [decide_eq_false (no r ((N.rin i c e).2 r hr hf))]; rfl
  · rcases List.mem_append.mp hs with hs | hs
    · exact h.ins s hs
    · rw [List.mem_singleton.mp hs]
      exact ⟨⟨hv, hxs, hi⟩, by rw [ec]; exact hp⟩
theorem Goes.fin {rels : RelL} {cs : List ConL} {sz n : Nat} {ss : List Stp} {ms : List Nat} {rws : List (List (List Int))} (h : Goes rels cs sz n ss ms) (N : Nv rels cs sz n rws ms true) : endS rels cs (fullF sz n) ss = true := by
  unfold endS
  rw [h.run]
  obtain ⟨i, hi, e⟩ := N.fl.mp rfl
  refine decide_eq_true ?_
  have : (famM ms)[i]? = some [] := by
    unfold famM
    rw [List.getElem?_map, List.getElem?_eq_getElem (by rw [N.ml]; exact hi)]
    have e2 : ms[i]'(by rw [N.ml]; exact hi) = 0 := by
      rw [List.getD_eq_getElem?_getD, List.getElem?_eq_getElem (by rw [N.ml]; exact hi)] at e
      exact e
    rw [Option.map_some, e2]
    rfl
  exact List.mem_of_getElem? this
theorem full_no {sz n : Nat} (h : 1 ≤ sz) : [] ∉ fullF sz n := fun z => by
  unfold fullF at z
  obtain ⟨_, _, e⟩ := List.mem_map.mp z
  unfold fullV at e
  have := congrArg List.length e
  rw [List.length_map, List.length_range] at this
  simp at this
  omega
theorem end_nil {rels : RelL} {cs : List ConL} {sz n : Nat} (h : 1 ≤ sz) : endS rels cs (fullF sz n) [] = false := decide_eq_false (full_no h)
theorem end_ne {rels : RelL} {cs : List ConL} {sz n : Nat} {ss : List Stp} (h : 1 ≤ sz) (e : endS rels cs (fullF sz n) ss = true) : 1 ≤ ss.length := by
  cases ss with
  | nil => rw [end_nil h] at e; cases e
  | cons => exact Nat.succ_le_succ (Nat.zero_le _)
/-- there is a greatest consistent family -/
theorem best_is {rels : RelL} {cs : List ConL} {sz n : Nat} : ∀ (k t : Nat) (f : List (List Int)), n * sz - t ≤ k → FamSt rels cs sz n t f → ∃ t g, FamSt rels cs sz n t g ∧ ConsF rels cs g
  | 0, t, f, hk, F => by
    refine ⟨t, f, F, Classical.byContradiction fun z => ?_⟩
    have a := (F.step z).cnt
    omega
  | k + 1, t, f, hk, F => by
    by_cases z : ConsF rels cs f
    · exact ⟨t, f, F, z⟩
    · exact best_is k (t + 1) _ (by omega) (F.step z)
end MR

set_option Elab.async false
set_option linter.all false
set_option maxRecDepth 100000
set_option maxHeartbeats 4000000
namespace K15
open PySem PySem.Spec PyProof.Rows L2 TK MR ZB
variable {P : Program} {w : World} {K : PySem.W.Frag} {mg : Str → Option Value} {base : Heap}
def stepsD (ss : List Stp) : List PyData := ss.map fun s => rowD (stR s)
/-- a narrowing as it stands between two calls; Hb: the heap ahead of it -/
structure NSt (K : PySem.W.Frag) (C : Addr) (Hb H : Hp) (x sc ro ma sp : Addr) (sas : List Addr) (cs : List Con) (rws : List (List (List Int))) (ms : List Nat) (fl : Bool) (stp : List Stp) (cap : Nat) : Prop where
  hob : ∃ dx fs, H x = some (.ins C dx fs) ∧ fs.length ≤ 5 ∧ fs.lookup ("scopes" : Str) = some (.ref sc) ∧ fs.lookup ("rows" : Str) = some (.ref ro) ∧ fs.lookup ("masks" : Str) = some (.ref ma) ∧ fs.lookup ("steps" : Str) = some (.ref sp) ∧ fs.lookup ("failed" : Str) = some (.bl fl) ∧ fs.lookup ("run" : Str) = none ∧ fs.lookup ("_follow" : Str) = none
  gb : Gr Hb H
  fr : ∀ b ∈ [x, ro, ma, sp], Hb b = none
  nd : sc ≠ ro ∧ sc ≠ ma ∧ sc ≠ sp ∧ ro ≠ ma ∧ ro ≠ sp ∧ ma ≠ sp
  hsc : H sc = some (.lst (sas.map V.ref))
  scl : sas.length = cs.length
  hsa : ∀ (i : Nat) a c, sas[i]? = some a → cs[i]? = some c → Hb a = some (.tup ((natL c.2).map V.int))
  hro : ∃ vs, H ro = some (.lst vs) ∧ vs.length = rws.length ∧ ∀ (i : Nat) v, vs[i]? = some v → SRw K H v (rws.getD i []) ∧ ∀ a, v = .ref a → a ∉ [x, ro, ma, sp]
  hma : H ma = some (.lst ((natL ms).map V.int))
  hsp : ∃ ss, H sp = some (.lst ss) ∧ ss.length + cntF (famM ms) ≤ cap ∧ DTs K H ss (stepsD stp)
section
variable {C : Addr} {Hb H H' : Hp} {x sc ro ma sp : Addr} {sas : List Addr} {cs : List Con} {rws : List (List (List Int))} {ms : List Nat} {fl : Bool} {stp : List Stp} {cap : Nat}
theorem SRw.keep {v : V} {rows : List (List Int)} (h : SRw K H v rows) (kt : ∀ a xs, H a = some (.tup xs) → H' a = some (.tup xs)) (kl : ∀ a xs, v = .ref a → H a = some (.lst xs) → H' a = some (.lst xs)) (kf : ∀ a o u, (∃ xs, u = .tup xs ∨ u = .lst xs) → H a = some (.frz o u) → H' a = some (.frz o u)) : SRw K H' v rows := by
  obtain ⟨a, b, xs, rfl, h1, h2⟩ := h
  refine ⟨a, b, xs, rfl, ?_, DTs.keep kt h2⟩
  cases b with
  | true =>
    rcases (show SqT K H a xs from h1) with (h | ⟨o, h⟩) | h
    · exact .inl (.inl (kt a xs h))
    · exact .inl (.inr ⟨o, kf a o _ ⟨xs, .inl rfl⟩ h⟩)
    · exact .inr h
  | false =>
    rcases (show SqL K H a xs from h1) with (h | ⟨o, h⟩) | h
    · exact .inl (.inl (kl a xs rfl h))
    · exact .inl (.inr ⟨o, kf a o _ ⟨xs, .inr rfl⟩ h⟩)
    · exact .inr h
theorem SRw.gx {S : List Addr} {v : V} {rows : List (List Int)} (g : Gx S H H') (hS : ∀ b ∈ S, ∀ o, H b = some o → (∀ xs, o ≠ .tup xs) ∧ ∀ o' u, o ≠ .frz o' u) (hv : ∀ a, v = .ref a → a ∉ S) (h : SRw K H v rows) : SRw K H' v rows :=
  h.keep (fun a xs e => g.at (fun hm => (hS a hm _ e).1 xs rfl) e fun _ z => by cases z) (fun a xs ea e => g.at (hv a ea) e fun _ z => by cases z) (fun a o u _ e => g.at (fun hm => (hS a hm _ e).2 o u rfl) e fun _ z => by cases z)
/-- the kinds of what is written -/
theorem NSt.kinds (h : NSt K C Hb H x sc ro ma sp sas cs rws ms fl stp cap) {b : Addr} (hb : b ∈ [x, ro, ma, sp]) {o : HO} (e : H b = some o) : (∃ dx fs, o = .ins C dx fs) ∨ ∃ ws, o = .lst ws := by
  simp only [List.mem_cons, List.not_mem_nil, or_false] at hb
  rcases hb with rfl | rfl | rfl | rfl
  · obtain ⟨dx, fs, a, _⟩ := h.hob
    rw [a] at e
    exact .inl ⟨dx, fs, (Option.some.inj e).symm⟩
  · obtain ⟨vs, a, _⟩ := h.hro
    rw [a] at e
    exact .inr ⟨_, (Option.some.inj e).symm⟩
  · rw [h.hma] at e
    exact .inr ⟨_, (Option.some.inj e).symm⟩
  · obtain ⟨ss, a, _⟩ := h.hsp
    rw [a] at e
    exact .inr ⟨_, (Option.some.inj e).symm⟩
/-- what is another thing stands -/
theorem NSt.off (h : NSt K C Hb H x sc ro ma sp sas cs rws ms fl stp cap) {b : Addr} {o : HO} (e : H b = some o) (h1 : ∀ C dx fs, o ≠ .ins C dx fs) (h2 : ∀ ws, o ≠ .lst ws) : b ∉ [x, ro, ma, sp] := fun hb => by
  rcases h.kinds hb e with ⟨dx, fs, z⟩ | ⟨ws, z⟩
  · exact h1 _ _ _ z
  · exact h2 _ z
theorem NSt.offk (h : NSt K C Hb H x sc ro ma sp sas cs rws ms fl stp cap) : ∀ b ∈ [x, ro, ma, sp], ∀ o, H b = some o → (∀ xs, o ≠ .tup xs) ∧ ∀ o' u, o ≠ .frz o' u := fun b hb o e => by
  rcases h.kinds hb e with ⟨dx, fs, rfl⟩ | ⟨ws, rfl⟩
  · exact ⟨fun _ z => (nomatch z), fun _ _ z => (nomatch z)⟩
  · exact ⟨fun _ z => (nomatch z), fun _ _ z => (nomatch z)⟩
theorem NSt.gr (h : NSt K C Hb H x sc ro ma sp sas cs rws ms fl stp cap) (g : Gr H H') : NSt K C Hb H' x sc ro ma sp sas cs rws ms fl stp cap :=
  { h with
    hob := let ⟨dx, fs, a, q⟩ := h.hob; ⟨dx, fs, Gx.at g (by simp) a (fun _ z => by cases z), q⟩
    gb := h.gb.trans g
    hsc := g.lst h.hsc
    hro := let ⟨vs, a, b, q⟩ := h.hro; ⟨vs, g.lst a, b, fun i v e => let ⟨k1, k2⟩ := q i v e; ⟨k1.gx g (fun _ z => by simp at z) (fun _ _ z => by simp at z), k2⟩⟩
    hma := g.lst h.hma
    hsp := let ⟨ss, a, b, d⟩ := h.hsp; ⟨ss, g.lst a, b, DTs.gr g d⟩ }
/-- something else is written -/
theorem NSt.gx {S : List Addr} (h : NSt K C Hb H x sc ro ma sp sas cs rws ms fl stp cap) (g : Gx S H H') (hS : ∀ b ∈ S, Hb b = none ∧ b ∉ sc :: [x, ro, ma, sp] ∧ ∀ o, H b = some o → (∀ xs, o ≠ .tup xs) ∧ (∀ xs, o ≠ .lst xs) ∧ ∀ o' u, (∃ xs, u = .tup xs ∨ u = .lst xs) → o ≠ .frz o' u) : NSt K C Hb H' x sc ro ma sp sas cs rws ms fl stp cap := by
  have off : ∀ b, b ∈ sc :: [x, ro, ma, sp] → b ∉ S := fun b hb hm => (hS b hm).2.1 hb
  have lk : ∀ b xs, b ∈ sc :: [x, ro, ma, sp] → H b = some (.lst xs) → H' b = some (.lst xs) := fun b xs hb e => g.at (off b hb) e fun _ z => by cases z
  refine { h with hob := ?_, gb := ?_, hsc := lk _ _ (by simp) h.hsc, hro := ?_, hma := lk _ _ (by simp) h.hma, hsp := ?_ }
  · obtain ⟨dx, fs, a, q⟩ := h.hob
    exact ⟨dx, fs, g.at (off x (by simp)) a (fun _ z => by cases z), q⟩
  · exact fun b o hb eb => (h.gb b o hb eb).trans fun u e' => g b u (fun hm => by rw [(hS b hm).1] at eb; cases eb) e'
  · obtain ⟨vs, a, b, q⟩ := h.hro
    refine ⟨vs, lk _ _ (by simp) a, b, fun i v e => ?_⟩
    obtain ⟨k1, k2⟩ := q i v e
    refine ⟨k1.keep (fun a xs e => g.at (fun hm => ((hS a hm).2.2 _ e).1 xs rfl) e fun _ z => by cases z) (fun a xs _ e => g.at (fun hm => ((hS a hm).2.2 _ e).2.1 xs rfl) e fun _ z => by cases z) (fun a o u hu e => g.at (fun hm => ((hS a hm).2.2 _ e).2.2 o u hu rfl) e fun _ z => by cases z), k2⟩
  · obtain ⟨ss, a, b, d⟩ := h.hsp
    exact ⟨ss, lk _ _ (by simp) a, b, DTs.keep (fun a xs e => g.at (fun hm => ((hS a hm).2.2 _ e).1 xs rfl) e fun _ z => by cases z) d⟩
end
end K15

set_option Elab.async false
set_option linter.all false
set_option maxRecDepth 100000
set_option maxHeartbeats 4000000
namespace K15
open PySem PySem.Spec PyProof.Rows L2 TK MR ZB
variable {P : Program} {w : World} {K : PySem.W.Frag} {mg : Str → Option Value} {base : Heap}
theorem putF_len {f : Str} {v u : V} : ∀ {fs : List (Str × V)}, fs.lookup f = some u → (putF f v fs).length = fs.length
  | [], h => by cases h
  | (g, x) :: fs, h => by
    show (if g = f then (g, v) :: fs else (g, x) :: putF f v fs).length = _
    by_cases e : g = f
    · rw [if_pos e]
      rfl
    · rw [if_neg e, List.length_cons, List.length_cons]
      have h2 : fs.lookup f = some u := by
        rw [List.lookup_cons] at h
        have : (f == g) = false := by simpa using fun z : f = g => e z.symm
        rw [this] at h
        exact h
      rw [putF_len h2]
theorem pe_fldK (K : PySem.W.Frag) {X : Cx} {e : Expr} {f : Str} {pos : Pos} {ta : TE} (he : PE X e ta) (hb : attributeBase e f X.env (eval e X.env) = eval e X.env) (hK : X.K = K := by rfl) : PE X (.Attribute e f pos) (tFld K ta f) := hK ▸ pe_fld he hb
theorem ixN_nat {n j : Nat} (h : j < n) : ixN n (j : Int) = some j := by
  unfold ixN
  rw [if_pos (by omega), if_pos (by omega)]
  simp
theorem keys_g {H : Hp} {d : Addr} {ks : List Int} {n : Int} (h : H d = some (.dK (kI ks))) : DGet H d (.int n) (valV (kI ks) (Sum.inl n)) := DGet.k (k := Sum.inl n) h
theorem keys_p {H : Hp} {d : Addr} {ks : List Int} {n : Int} (h : H d = some (.dK (kI ks))) (hl : ks.length ≤ 900) : DPut H d (.int n) (.bl true) (upd H d (.dK (kI (addI ks n)))) := by
  rw [← kI_put]
  exact DPut.k (k := Sum.inl n) h (by rw [kI_len]; exact small1000 (by omega))
section
variable {Hb H H' : Hp} {x sc ro ma sp : Addr} {sas : List Addr} {cs : List Con} {rws : List (List (List Int))} {ms : List Nat} {fl : Bool} {stp : List Stp} {cap : Nat}
variable {C : Addr}
theorem NSt.fMasks (h : NSt K C Hb H x sc ro ma sp sas cs rws ms fl stp cap) (cl : Cls K C) (na : NoAttr K C "masks") {σ : L2.St} {Q : VK} (hσ : σ[0]? = some (some (.ref x))) (q : Q (.ref ma) H) : tFld K (tVar 0) "masks" σ H Q := by
  obtain ⟨dx, fs, a, _, _, _, l, _⟩ := h.hob
  exact ⟨.ref x, hσ, x, C, dx, fs, .ref ma, rfl, a, cl, na, l, q⟩
theorem NSt.fRows (h : NSt K C Hb H x sc ro ma sp sas cs rws ms fl stp cap) (cl : Cls K C) (na : NoAttr K C "rows") {σ : L2.St} {Q : VK} (hσ : σ[0]? = some (some (.ref x))) (q : Q (.ref ro) H) : tFld K (tVar 0) "rows" σ H Q := by
  obtain ⟨dx, fs, a, _, _, l, _⟩ := h.hob
  exact ⟨.ref x, hσ, x, C, dx, fs, .ref ro, rfl, a, cl, na, l, q⟩
theorem NSt.fScopes (h : NSt K C Hb H x sc ro ma sp sas cs rws ms fl stp cap) (cl : Cls K C) (na : NoAttr K C "scopes") {σ : L2.St} {Q : VK} (hσ : σ[0]? = some (some (.ref x))) (q : Q (.ref sc) H) : tFld K (tVar 0) "scopes" σ H Q := by
  obtain ⟨dx, fs, a, _, l, _⟩ := h.hob
  exact ⟨.ref x, hσ, x, C, dx, fs, .ref sc, rfl, a, cl, na, l, q⟩
theorem NSt.fSteps (h : NSt K C Hb H x sc ro ma sp sas cs rws ms fl stp cap) (cl : Cls K C) (na : NoAttr K C "steps") {σ : L2.St} {Q : VK} (hσ : σ[0]? = some (some (.ref x))) (q : Q (.ref sp) H) : tFld K (tVar 0) "steps" σ H Q := by
  obtain ⟨dx, fs, a, _, _, _, _, l, _⟩ := h.hob
  exact ⟨.ref x, hσ, x, C, dx, fs, .ref sp, rfl, a, cl, na, l, q⟩
theorem NSt.fFailed (h : NSt K C Hb H x sc ro ma sp sas cs rws ms fl stp cap) (cl : Cls K C) (na : NoAttr K C "failed") {σ : L2.St} {Q : VK} (hσ : σ[0]? = some (some (.ref x))) (q : Q (.bl fl) H) : tFld K (tVar 0) "failed" σ H Q := by
  obtain ⟨dx, fs, a, _, _, _, _, _, l, _⟩ := h.hob
  exact ⟨.ref x, hσ, x, C, dx, fs, .bl fl, rfl, a, cl, na, l, q⟩
/-- self.masks[slot] -/
theorem NSt.ixMask (h : NSt K C Hb H x sc ro ma sp sas cs rws ms fl stp cap) (cl : Cls K C) (na : NoAttr K C "masks") {σ : L2.St} {Q : VK} {j i : Nat} (hσ : σ[0]? = some (some (.ref x))) (hj : σ[j]? = some (some (.int (i : Int)))) (hi : i < ms.length) (q : Q (.int ((ms.getD i 0 : Nat) : Int)) H) : tOp (rIxL K) (tFld K (tVar 0) "masks") (tVar j) σ H Q :=
  h.fMasks cl na hσ ⟨.int (i : Int), hj, ma, _, (i : Int), _, rfl, rfl, .inl (.inl h.hma), nat_at hi, q⟩
/-- self.masks[slot] = a mask -/
theorem NSt.putMask (h : NSt K C Hb H x sc ro ma sp sas cs rws ms fl stp cap) (cl : Cls K C) (na : NoAttr K C "masks") {σ : L2.St} {R : L2.St → Hp → Prop} {j i m : Nat} {v : V} (hσ : σ[0]? = some (some (.ref x))) (hj : σ[j]? = some (some (.int (i : Int)))) (hi : i < ms.length) (hv : v = .int ((m : Nat) : Int)) (q : R σ (upd H ma (.lst ((natL (ms.set i m)).map V.int)))) : gSub (tFld K (tVar 0) "masks") (tVar j) rSetL v σ H R := by
  subst hv
  obtain ⟨dx, fs, a, _, _, _, l, _⟩ := h.hob
  refine ⟨.ref x, hσ, x, C, dx, fs, .ref ma, rfl, a, cl, na, l, .int (i : Int), hj, ma, _, (i : Int), i, rfl, rfl, h.hma, ixN_nat (by rw [List.length_map, List.length_map]; exact hi), ?_⟩
  have e : ((natL ms).map V.int).set i (V.int ((m : Nat) : Int)) = (natL (ms.set i m)).map V.int := by
    show (List.map V.int (List.map (fun (p : Nat) => (p : Int)) ms)).set _ _ = List.map V.int (List.map (fun (p : Nat) => (p : Int)) (ms.set i m))
    rw [List.map_set, List.map_set]
  rw [e]
  exact q
/-- one list or the object itself is written: the others stand -/
theorem NSt.wr1 (h : NSt K C Hb H x sc ro ma sp sas cs rws ms fl stp cap) {p : Addr} {o : HO} (hp : p ∈ [x, ro, ma, sp]) : Gx [x, ro, ma, sp] H (upd H p o) ∧ Gr Hb (upd H p o) ∧ (∀ a xs, H a = some (.tup xs) → (upd H p o) a = some (.tup xs)) ∧ (∀ a o' u, H a = some (.frz o' u) → (upd H p o) a = some (.frz o' u)) := by
  have g : Gx [x, ro, ma, sp] H (upd H p o) := Gx.refl.wrS hp
  refine ⟨g, h.gb.wr (h.fr p hp), fun a xs e => ?_, fun a o' u e => ?_⟩
  · exact g.at (h.off e (fun _ _ _ z => by cases z) fun _ z => by cases z) e fun _ z => by cases z
  · exact g.at (h.off e (fun _ _ _ z => by cases z) fun _ z => by cases z) e fun _ z => by cases z
theorem NSt.setMask (h : NSt K C Hb H x sc ro ma sp sas cs rws ms fl stp cap) {ms' : List Nat} {cap' : Nat} (hc : cntF (famM ms') + cap ≤ cntF (famM ms) + cap') : NSt K C Hb (upd H ma (.lst ((natL ms').map V.int))) x sc ro ma sp sas cs rws ms' fl stp cap' ∧ Gx [x, ro, ma, sp] H (upd H ma (.lst ((natL ms').map V.int))) := by
  obtain ⟨g, gb, kt, kf⟩ := h.wr1 (o := .lst ((natL ms').map V.int)) (p := ma) (by simp)
  obtain ⟨n1, n2, n3, n4, n5, n6⟩ := h.nd
  refine ⟨{ h with hob := ?_, gb := gb, hsc := by rw [upd_ne n2]; exact h.hsc, hro := ?_, hma := upd_same, hsp := ?_ }, g⟩
  · obtain ⟨dx, fs, a, r⟩ := h.hob
    exact ⟨dx, fs, by rw [upd_ne fun z => by rw [z, h.hma] at a; cases a]; exact a, r⟩
  · obtain ⟨vs, a, b, q⟩ := h.hro
    refine ⟨vs, by rw [upd_ne n4]; exact a, b, fun i v e => ?_⟩
    obtain ⟨k1, k2⟩ := q i v e
    exact ⟨k1.keep kt (fun a xs ea e => by rw [upd_ne fun z => k2 a ea (by simp [z])]; exact e) (fun a o u _ e => kf a o u e), k2⟩
  · obtain ⟨ss, a, b, d⟩ := h.hsp
    exact ⟨ss, by rw [upd_ne n6.symm]; exact a, by omega, DTs.keep kt d⟩
theorem NSt.addStep (h : NSt K C Hb H x sc ro ma sp sas cs rws ms fl stp cap) {v : V} {s : Stp} (hv : DT K H v (rowD (stR s))) : ∃ ss, H sp = some (.lst ss) ∧ ss.length ≤ cap ∧ NSt K C Hb (upd H sp (.lst (ss ++ [v]))) x sc ro ma sp sas cs rws ms fl (stp ++ [s]) (cap + 1) ∧ Gx [x, ro, ma, sp] H (upd H sp (.lst (ss ++ [v]))) := by
  obtain ⟨ss, hs, hb, hd⟩ := h.hsp
  obtain ⟨g, gb, kt, kf⟩ := h.wr1 (o := .lst (ss ++ [v])) (p := sp) (by simp)
  obtain ⟨n1, n2, n3, n4, n5, n6⟩ := h.nd
  refine ⟨ss, hs, by omega, { h with hob := ?_, gb := gb, hsc := by rw [upd_ne n3]; exact h.hsc, hro := ?_, hma := by rw [upd_ne n6]; exact h.hma, hsp := ⟨_, upd_same, by rw [List.length_append]; show ss.length + 1 + _ ≤ _; omega, ?_⟩ }, g⟩
  · obtain ⟨dx, fs, a, r⟩ := h.hob
    exact ⟨dx, fs, by rw [upd_ne fun z => by rw [z, hs] at a; cases a]; exact a, r⟩
  · obtain ⟨vs, a, b, q⟩ := h.hro
    refine ⟨vs, by rw [upd_ne n5]; exact a, b, fun i v e => ?_⟩
    obtain ⟨k1, k2⟩ := q i v e
    exact ⟨k1.keep kt (fun a xs ea e => by rw [upd_ne fun z => k2 a ea (by simp [z])]; exact e) (fun a o u _ e => kf a o u e), k2⟩
  · have e : stepsD (stp ++ [s]) = stepsD stp ++ [rowD (stR s)] := by unfold stepsD; rw [List.map_append]; rfl
    rw [e]
    have d1 := DTs.keep kt hd
    have d2 : DTs K (upd H sp (.lst (ss ++ [v]))) [v] [rowD (stR s)] := DTs.keep kt (DTs.one hv)
    exact DTs.app d1 d2
theorem NSt.setFail (h : NSt K C Hb H x sc ro ma sp sas cs rws ms fl stp cap) (fl' : Bool) : ∃ dx fs, H x = some (.ins C dx fs) ∧ fs.length < 1000 ∧ NSt K C Hb (upd H x (.ins C dx (putF "failed" (.bl fl') fs))) x sc ro ma sp sas cs rws ms fl' stp cap ∧ Gx [x, ro, ma, sp] H (upd H x (.ins C dx (putF "failed" (.bl fl') fs))) := by
  obtain ⟨dx, fs, a, h5, l1, l2, l3, l4, l5, l6, l7⟩ := h.hob
  obtain ⟨g, gb, kt, kf⟩ := h.wr1 (o := .ins C dx (putF "failed" (.bl fl') fs)) (p := x) (by simp)
  have nl : ∀ b ws, H b = some (.lst ws) → b ≠ x := fun b ws e z => by rw [z, a] at e; cases e
  refine ⟨dx, fs, a, by omega, { h with hob := ⟨dx, _, upd_same, by rw [putF_len l5]; exact h5, ?_, ?_, ?_, ?_, by rw [lookup_putF, if_pos rfl], ?_, ?_⟩, gb := gb, hsc := by rw [upd_ne (nl _ _ h.hsc)]; exact h.hsc, hro := ?_, hma := by rw [upd_ne (nl _ _ h.hma)]; exact h.hma, hsp := ?_ }, g⟩
  · rw [lookup_putF, if_neg (by decide +kernel)]; exact l1
  · rw [lookup_putF, if_neg (by decide +kernel)]; exact l2
  · rw [lookup_putF, if_neg (by decide +kernel)]; exact l3
  · rw [lookup_putF, if_neg (by decide +kernel)]; exact l4
  · rw [lookup_putF, if_neg (by decide +kernel)]; exact l6
  · rw [lookup_putF, if_neg (by decide +kernel)]; exact l7
  · obtain ⟨vs, a, b, q⟩ := h.hro
    refine ⟨vs, by rw [upd_ne (nl _ _ a)]; exact a, b, fun i v e => ?_⟩
    obtain ⟨k1, k2⟩ := q i v e
    exact ⟨k1.keep kt (fun a xs ea e => by rw [upd_ne fun z => k2 a ea (by simp [z])]; exact e) (fun a o u _ e => kf a o u e), k2⟩
  · obtain ⟨ss, e, b, d⟩ := h.hsp
    exact ⟨ss, by rw [upd_ne (nl _ _ e)]; exact e, b, DTs.keep kt d⟩
theorem NSt.setRow (h : NSt K C Hb H x sc ro ma sp sas cs rws ms fl stp cap) {vs : List V} (hvs : H ro = some (.lst vs)) {idx : Nat} {p : Addr} {rows : List (List Int)} (hp : LR K H p rows) (np : p ∉ [x, ro, ma, sp]) : NSt K C Hb (upd H ro (.lst (vs.set idx (.ref p)))) x sc ro ma sp sas cs (rws.set idx rows) ms fl stp cap ∧ Gx [x, ro, ma, sp] H (upd H ro (.lst (vs.set idx (.ref p)))) := by
  obtain ⟨g, gb, kt, kf⟩ := h.wr1 (o := .lst (vs.set idx (.ref p))) (p := ro) (by simp)
  obtain ⟨n1, n2, n3, n4, n5, n6⟩ := h.nd
  refine ⟨{ h with hob := ?_, gb := gb, hsc := by rw [upd_ne n1]; exact h.hsc, hro := ?_, hma := by rw [upd_ne n4.symm]; exact h.hma, hsp := ?_ }, g⟩
  · obtain ⟨dx, fs, a, r⟩ := h.hob
    exact ⟨dx, fs, by rw [upd_ne fun z => by rw [z, hvs] at a; cases a]; exact a, r⟩
  · obtain ⟨vs', a, b, q⟩ := h.hro
    rw [hvs] at a
    cases a
    refine ⟨_, upd_same, by rw [List.length_set, List.length_set]; exact b, fun i v e => ?_⟩
    by_cases hi : idx = i
    · subst hi
      have hl0 : idx < vs.length := by
        have := (List.getElem?_eq_some_iff.mp e).1
        rwa [List.length_set] at this
      rw [List.getElem?_set_self hl0] at e
      cases e
      have hlt : idx < rws.length := by rw [← b]; exact hl0
      rw [setD_at hlt, if_pos rfl]
      obtain ⟨ws, w1, w2⟩ := hp
      refine ⟨⟨p, false, ws, rfl, SqK.dtL (by rw [upd_ne fun z => np (by simp [z])]; exact w1), DTs.keep kt w2⟩, fun a ea => ?_⟩
      cases ea
      exact np
    · rw [List.getElem?_set_ne hi] at e
      obtain ⟨k1, k2⟩ := q i v e
      have er : (rws.set idx rows).getD i [] = rws.getD i [] := by rw [List.getD_eq_getElem?_getD, List.getElem?_set_ne hi, List.getD_eq_getElem?_getD]
      rw [er]
      exact ⟨k1.keep kt (fun a xs ea e => by rw [upd_ne fun z => k2 a ea (by simp [z])]; exact e) (fun a o u _ e => kf a o u e), k2⟩
  · obtain ⟨ss, e, b, d⟩ := h.hsp
    exact ⟨ss, by rw [upd_ne n5.symm]; exact e, b, DTs.keep kt d⟩
end
end K15

set_option Elab.async false
set_option linter.all false
set_option maxRecDepth 100000
set_option maxHeartbeats 4000000
namespace K15
open PySem PySem.Spec PyProof.Rows L2 TK MR ZB
variable {P : Program} {w : World} {K : PySem.W.Frag} {mg : Str → Option Value} {base : Heap}
/-! Narrowing._follow -/
structure Fol (rels : Rels) (cs : List Con) (sz n idx : Nat) (ms : List Nat) (chs : List Int) (rws' : List (List (List Int))) (ms' : List Nat) (fl' : Bool) (chs' : List Int) : Prop where
  nv : Nv rels cs sz n rws' ms' fl'
  fo : Fo n ms chs ms' chs'
  cons : ∀ c, cs[idx]? = some c → fl' = true ∨ (∃ p ∈ c.2, (p : Int) ∈ chs') ∨ consC rels ms' c
def sp_follow (K : PySem.W.Frag) (C : Addr) : Sp := fun vs H Q _ => ∃ (Hb : Hp) (x sc ro ma sp ch : Addr) (sas : List Addr) (rels : Rels) (cs : List Con) (rws : List (List (List Int))) (ms : List Nat) (fl : Bool) (stp : List Stp) (cap sz n idx : Nat) (chs : List Int), vs = [.ref x, .int idx, .ref ch] ∧ NSt K C Hb H x sc ro ma sp sas cs rws ms fl stp cap ∧ Goes rels cs sz n stp ms ∧ Nv rels cs sz n rws ms fl ∧ InsOk rels n cs ∧ RelsOk sz rels ∧ sz ≤ 4 ∧ cap ≤ 900 ∧ idx < cs.length ∧ (∀ i, (rws.getD i []).length ≤ 300) ∧ H ch = some (.dK (kI chs)) ∧ Hb ch = none ∧ chs.Nodup ∧ (∀ p ∈ chs, 0 ≤ p ∧ p < (n : Int)) ∧
  ∀ H' rws' ms' fl' chs' stp', Gx [x, ro, ma, sp, ch] H H' → NSt K C Hb H' x sc ro ma sp sas cs rws' ms' fl' stp' cap → Goes rels cs sz n stp' ms' → (∀ i, (rws'.getD i []).length ≤ 300) → H' ch = some (.dK (kI chs')) → Fol rels cs sz n idx ms chs rws' ms' fl' chs' → Q .non H'
theorem ok_follow (T : Txt K mg base) : FnOk P w K mg base CX0 2 T.Narrowing.f_follow T.Narrowing.fd_follow p_Narrowing_follow (sp_follow K T.Narrowing.C) := by
  refine T.Narrowing.F_follow.ok sc_Narrowing_follow (fun vs H Q E h => ?_) (fun cdv A outer sh H vs Q E hr h => ?_)
  · obtain ⟨_, _, _, _, _, _, _, _, _, _, _, _, _, _, _, _, _, _, _, rfl, _⟩ := h
    rfl
  · have hu1 : (A.deeper (envOfC "Narrowing._follow" (defScope s_Narrowing_follow) sh.heap.objs.size T.Narrowing.f_follow cdv)).units + 1 < cLine := by have := hr.un; omega
    obtain ⟨Hb, x, sc, ro, ma, sp, ch, sas, rels, cs, rws, ms, fl, stp, cap, sz, n, idx, chs, rfl, B, G, N, O, R, s4, cap9, hidx, few, hch, fch, cnd, cok, q⟩ := h
    refine ⟨_, (pss_cons (ps_set (i := 3) sc_Narrowing_follow.nd rfl (by first | exact .inl rfl | exact .inr rfl) (pe_ix (ix_listK K) (pe_fldK K (pv 0) rfl) (pv 1) (fun _ _ => rfl))) (pss_cons (ps_asg (pe_call (ok_rows_left T) (hr.mono (by decide)) (by rfl) T.rows_left.g T.rows_left.F.kp T.rows_left.b .nil pass0 (pa_cons (pe_ix (ix_listK K) (pe_fldK K (pv 0) rfl) (pv 1) (fun _ _ => rfl)) (pa_cons (pv 3) (pa_cons (pe_fldK K (pv 0) rfl) pa_nil)))) (pg_sub (pe_fldK K (pv 0) rfl) (pv 1) set_list)) (pss_one (ps_for PassesOwn.never rfl (EN.pi_enumT K (by rfl) T.b_enumerate (pa_cons (pv 3) pa_nil)) (pg_tup (by rfl) (pgs_cons (pg_name (i := 4) sc_Narrowing_follow.nd rfl (by first | exact .inl rfl | exact .inr rfl)) (pgs_cons (pg_name (i := 5) sc_Narrowing_follow.nd rfl (by first | exact .inl rfl | exact .inr rfl)) pgs_nil)))
        (pss_cons (SD.ps_setDg (i := 6) (own := [("row", 7)]) (g := gName 7) (tt := tYes) SD.dstoreK rfl sc_Narrowing_follow.nd rfl rfl (SD.sw_trueD rfl rfl rfl (by decide +kernel)) (pi_seqK K (pe_ix (ix_listK K) (pe_fldK K (pv 0) rfl) (pv 1) (fun _ _ => rfl))) (blkOk_by (N := n_Narrowing_follow) (sc := defScope s_Narrowing_follow) (by decide +kernel))
            (fun _ _ _ _ => pg_name (i := 7) sc_Narrowing_follow.nd rfl (Or.inl rfl)) (fun _ _ _ _ => pts_nil) (fun _ _ _ _ => pe_ix (ix_tupK K) (pv 7) (pv 4) (fun _ _ => rfl)) (fun _ _ _ _ => pe_bl)) (pss_one (ps_for PassesOwn.never rfl (pi_range1 (by rfl) T.b_range (pa_cons (pe_bits (pe_ix (ix_listK K) (pe_fldK K (pv 0) rfl) (pv 5) (fun _ _ => rfl))) pa_nil)) (pg_name (i := 8) sc_Narrowing_follow.nd rfl (by first | exact .inl rfl | exact .inr rfl))
            (pss_one (ps_if (PW.pt (pw_and (pt_not (pt_val (pe_fldK K (pv 0) rfl))) (pw_and (pt_truthK K (pe_op op_and (pe_op op_shr (pe_ix (ix_listK K) (pe_fldK K (pv 0) rfl) (pv 5) (fun _ _ => rfl)) (pv 8)) pe_int) (fun _ => rfl)) (pw_and1 (pt_cmp (pc_dnotin hu1 (pv 8) (pv 6)))))))
              (pss_cons (ps_asg (pe_op op_and (pe_ix (ix_listK K) (pe_fldK K (pv 0) rfl) (pv 5) (fun _ _ => rfl)) (pe_un un_inv (pe_op op_shl pe_int (pv 8)))) (pg_sub (pe_fldK K (pv 0) rfl) (pv 5) set_list)) (pss_cons (ps_expr (pe_bm PySem.F.plainAttrs_list PySem.F.slot_list_append PySem.F.type_list_append mt_append (pe_fldK K (pv 0) rfl) (pa_cons (pe_tup (pa_cons (pv 5) (pa_cons (pv 8) (pa_cons (pv 1) (pa_cons (pv 4) pa_nil))))) pa_nil))) (pss_cons (ps_dput hu1 (pv 2) (pv 5) pe_bl rfl) (pss_one (ps_fld (pv 0) (pe_cmpR op_eq (pe_ix (ix_listK K) (pe_fldK K (pv 0) rfl) (pv 5) (fun _ _ => rfl)) pe_int (nomark _)) rfl))))) pss_nil))))))))), ?_⟩
    have cl := T.Narrowing.cl
    have m5 : ∀ b ∈ [x, ro, ma, sp], b ∈ [x, ro, ma, sp, ch] := fun b hb => List.mem_append_left [ch] hb
    have ec : cs[idx]? = some cs[idx] := List.getElem?_eq_getElem hidx
    generalize cs[idx] = c at ec
    have oc := O.ok c (List.mem_of_getElem? ec)
    have oR := (R.ok _ (List.mem_of_getElem? (rels_get oc.ix)))
    have c4 : c.2.length ≤ 4 := by
      have := oc.len
      have := oR.1.ar4
      omega
    have hscl : idx < sas.length := by rw [B.scl]; exact hidx
    have es : sas[idx]? = some sas[idx] := List.getElem?_eq_getElem hscl
    generalize sas[idx] = sa at es
    have esv : (sas.map V.ref)[idx]? = some (.ref sa) := by rw [List.getElem?_map, es]; rfl
    have hsa := B.hsa idx sa c es ec
    have hsaH : ∀ {H'}, Gr Hb H' → H' sa = some (.tup ((natL c.2).map V.int)) := fun g => Gx.tupS g .nil hsa
    have n16 := O.n16
    have chn : ch ∉ [x, ro, ma, sp] := B.off hch (fun _ _ _ z => by cases z) fun _ z => by cases z
    obtain ⟨dx, fs, hx, h5, l1, l2, l3, l4, l5, l6, l7⟩ := id B.hob
    -- scope
    refine ⟨.ref x, rfl, x, _, dx, fs, .ref sc, rfl, hx, cl, T.Narrowing.n_scopes, l1, .int idx, rfl, sc, _, (idx : Int), .ref sa, rfl, rfl, .inl (.inl B.hsc), atI_nat esv, ?_⟩
    -- rows_left
    obtain ⟨vs, hvs, vl, hvq⟩ := id B.hro
    have hiv : idx < vs.length := by rw [vl, N.rl]; exact hidx
    have ev : vs[idx]? = some vs[idx] := List.getElem?_eq_getElem hiv
    generalize vs[idx] = v0 at ev
    obtain ⟨sr, sn⟩ := hvq idx v0 ev
    obtain ⟨rin1, rin2⟩ := N.rin idx c ec
    have l16 : allLt ms 16 := fun j => mask16 (N.lt j) s4
    have good : ∀ r ∈ rws.getD idx [], r.length = c.2.length ∧ ∀ y ∈ r, 0 ≤ y ∧ y < 4 := fun r hr => by
      have hm := rin1 r hr
      have h1 := oR.1.len r hm
      have h2 := oc.len
      exact ⟨by omega, fun y hy => by have := oR.1.val r hm y hy; omega⟩
    refine ⟨.ref x, rfl, x, _, dx, fs, .ref ro, rfl, hx, cl, T.Narrowing.n_rows, l2, .int idx, rfl, ro, vs, (idx : Int), v0, rfl, rfl, .inl (.inl hvs), atI_nat ev, .ref sa, rfl, .ref x, rfl, x, _, dx, fs, .ref ma, rfl, hx, cl, T.Narrowing.n_masks, l3, ?_⟩
    refine ⟨v0, sa, ma, rws.getD idx [], c.2, ms, rfl, sr, hsaH B.gb, B.hma, l16, fun p hp => by rw [N.ml]; exact oc.sc p hp, c4, few idx, good, fun p H1 g1 np hp => ?_⟩
    have B1 := B.gr g1
    have hvs1 := g1.lst hvs
    have pn : p ∉ [x, ro, ma, sp] := fun hm => by
      simp only [List.mem_cons, List.not_mem_nil, or_false] at hm
      rcases hm with rfl | rfl | rfl | rfl
      · rw [hx] at np; cases np
      · rw [hvs] at np; cases np
      · rw [B.hma] at np; cases np
      · obtain ⟨ss, a, _⟩ := B.hsp
        rw [a] at np; cases np
    obtain ⟨B2, g2⟩ := B1.setRow (idx := idx) hvs1 hp pn
    have N2 := N.rows ec
    obtain ⟨dx1, fs1, hx1, _, k1, k2, k3, k4, k5, k6, k7⟩ := id B1.hob
    refine ⟨.ref x, rfl, x, _, dx1, fs1, .ref ro, rfl, hx1, cl, T.Narrowing.n_rows, k2, .int idx, rfl, ro, vs, (idx : Int), idx, rfl, rfl, hvs1, ixN_nat hiv, ?_⟩
    have hch2 : (upd H1 ro (.lst (vs.set idx (.ref p)))) ch = some (.dK (kI chs)) := g2.at chn (Gx.at g1 (by simp) hch fun _ z => by cases z) fun _ z => by cases z
    have g02 : Gx [x, ro, ma, sp, ch] H (upd H1 ro (.lst (vs.set idx (.ref p)))) := g1.thn (g2.mono m5)
    have hR : ∀ r ∈ (rws.getD idx []).filter (fitB (famM ms) c.2), r ∈ (rels.getD c.1 (0, [])).2 ∧ fitB (famM ms) c.2 r = true := fun r hr => ⟨rin1 r (List.mem_filter.mp hr).1, (List.mem_filter.mp hr).2⟩
    have eR : ((rws.set idx ((rws.getD idx []).filter (fitB (famM ms) c.2))).getD idx []) = (rws.getD idx []).filter (fitB (famM ms) c.2) := by rw [setD_at (by rw [N.rl]; exact hidx), if_pos rfl]
    have goodR : ∀ r ∈ (rws.getD idx []).filter (fitB (famM ms) c.2), r.length = c.2.length ∧ ∀ y ∈ r, 0 ≤ y ∧ y < 4 := fun r hr => good r (List.mem_filter.mp hr).1
    have fewR : ((rws.getD idx []).filter (fitB (famM ms) c.2)).length ≤ 300 := Nat.le_trans (List.length_filter_le ..) (few idx)
    have fewA : ∀ i, ((rws.set idx ((rws.getD idx []).filter (fitB (famM ms) c.2))).getD i []).length ≤ 300 := fun i => by
      rw [setD_at (by rw [N.rl]; exact hidx)]
      split
      · exact fewR
      · exact few i
    generalize (rws.getD idx []).filter (fitB (famM ms) c.2) = R at *
    generalize rws.set idx R = rws1 at *
    generalize upd H1 ro (.lst (vs.set idx (.ref p))) = H2 at *
    have clen : ((natL c.2).map V.int).length = c.2.length := by rw [List.length_map, List.length_map]
    -- the places
    refine ⟨.ref sa, rfl, sa, _, rfl, .inl (.inl (hsaH B2.gb)), ?_⟩
    refine for_it EN.walk_enumT (fun j σ H' => ∃ y4 y5 y6 y8 ms' fl' chs' stp', σ = [some (.ref x), some (.int idx), some (.ref ch), some (.ref sa), y4, y5, y6, none, y8] ∧ Gx [x, ro, ma, sp, ch] H H' ∧ NSt K T.Narrowing.C Hb H' x sc ro ma sp sas cs rws1 ms' fl' stp' cap ∧ Goes rels cs sz n stp' ms' ∧ Nv rels cs sz n rws1 ms' fl' ∧ H' ch = some (.dK (kI chs')) ∧ Fo n ms chs ms' chs' ∧ HeldUp c R ms' fl' j)
      ⟨_, _, _, _, ms, fl, chs, stp, rfl, g02, B2, G, N2, hch2, .refl cnd cok, .inr fun q hq => absurd hq (Nat.not_lt_zero _)⟩ (fun j σ H' _ hp => by
        obtain ⟨_, _, _, _, _, _, _, _, _, _, B', _⟩ := hp
        exact .inl (.inl (hsaH B'.gb))) (fun j xj σ Hx H' hj hp hy => ?_) (fun σ H' hp => ?_)
    · obtain ⟨t, y, rfl, nt, rfl, ey⟩ := hy
      obtain ⟨y4, y5, y6, y8, ms1, fl1, chs1, st1, rfl, g1', B1', G1, N1', hch1, F1, U1⟩ := hp
      rw [clen] at hj
      have gt : Gr Hx (upd Hx t (.tup [.int (j : Nat), y])) := Gx.new nt
      have ht : (upd Hx t (.tup [.int (j : Nat), y])) t = some (.tup [.int (j : Nat), y]) := upd_same
      generalize upd Hx t (.tup [.int (j : Nat), y]) = H3 at *
      rw [List.getElem?_map, List.getElem?_map] at ey
      obtain ⟨z, ez, rfl⟩ := Option.map_eq_some_iff.mp ey
      obtain ⟨pp, ep, rfl⟩ := Option.map_eq_some_iff.mp ez
      have hpp : c.2.getD j 0 = pp := by rw [List.getD_eq_getElem?_getD, ep]; rfl
      have hpn : pp < n := oc.sc pp (List.mem_of_getElem? ep)
      refine ⟨t, _, rfl, .inl (.inl ht), rfl, .int j, [.int pp], rfl, .int pp, [], rfl, rfl, ?_⟩
      -- held
      have B3 := B1'.gr gt
      have hch3 := Gx.at gt (by simp) hch1 fun _ z => by cases z
      have g03 := g1'.thn gt
      obtain ⟨dx3, fs3, hx3, _, a1, a2, a3, a4, a5, a6, a7⟩ := id B3.hob
      obtain ⟨vs3, hvs3, vl3, hvq3⟩ := id B3.hro
      have hi3 : idx < vs3.length := by rw [vl3, N1'.rl]; exact hidx
      have ev3 : vs3[idx]? = some vs3[idx] := List.getElem?_eq_getElem hi3
      generalize vs3[idx] = v3 at ev3
      obtain ⟨⟨sa3, b3, xs3, rfl, hq3, hd3⟩, sn3⟩ := hvq3 idx v3 ev3
      rw [eR] at hd3
      have xl3 : xs3.length = R.length := by rw [hd3.1, List.length_map]
      refine ⟨.ref x, rfl, x, _, dx3, fs3, .ref ro, rfl, hx3, cl, T.Narrowing.n_rows, a2, .int idx, rfl, ro, vs3, (idx : Int), .ref sa3, rfl, rfl, .inl (.inl hvs3), atI_nat ev3, sa3, b3, rfl, ⟨xs3, hq3⟩, fun D nD => ?_⟩
      refine lc_seqB (K := K) (a := sa3) (xs := xs3) (fun i H' => Gr H3 H' ∧ H' D = some (.dK (kI ((R.take i).foldl (fun ks r => addI ks (r.getD j 0)) [])))) ⟨Gx.new nD, upd_same⟩ (fun i H' _ h => SqK.gr h.1 hq3) (fun i x' H' ex h => ?_) (fun H4 h => ?_)
      · obtain ⟨g, hD⟩ := h
        obtain ⟨d, ed, dx'⟩ := hd3.at' ex
        rw [List.getElem?_map] at ed
        obtain ⟨r, er, rfl⟩ := Option.map_eq_some_iff.mp ed
        obtain ⟨rl, rv⟩ := goodR r (List.mem_of_getElem? er)
        obtain ⟨t2, rfl, ht2⟩ := (dx'.gr g).row_invS
        refine ⟨rfl, yesT ⟨.ref t2, rfl, .int j, rfl, t2, _, (j : Int), _, rfl, rfl, .inl (.inl ht2), row_at (by omega), _, Sum.inl (r.getD j 0), rfl, hD, ?_, g.wr nD, ?_⟩⟩
        · rw [kI_len]
          have h1 := held_len (j := j) (R.take i) []
          rw [List.length_take] at h1
          exact small1000 (by simp only [List.length_nil] at h1; omega)
        · rw [upd_same, kI_put, List.take_add_one, er, Option.toList_some, List.foldl_append]
          rfl
      obtain ⟨g34, hD⟩ := h
      rw [xl3, List.take_length] at hD
      have hD : H4 D = some (.dK (kI (heldL j R))) := hD
      have hDf : Hb D = none := Gr.free B3.gb nD
      have B4 := B3.gr g34
      have hch4 := Gx.at g34 (by simp) hch3 fun _ z => by cases z
      have g04 := g03.thn g34
      have hDch : D ≠ ch := fun z => by
        rw [z, hch3] at nD
        cases nD
      have hDn : D ∉ [x, ro, ma, sp, ch] := fun hm => by
        rcases List.mem_append.mp (show D ∈ [x, ro, ma, sp] ++ [ch] from hm) with hm | hm
        · exact B4.off hD (fun _ _ _ z => by cases z) (fun _ z => by cases z) hm
        · exact hDch (List.mem_singleton.mp hm)
      -- the values
      have l1 : allLt ms1 16 := fun j => mask16 (N1'.lt j) s4
      have hm0 : ms1.getD pp 0 < 16 := l1 pp
      have b4 := bits_le hm0
      obtain ⟨dx4, fs4, hx4, _, c1, c2, c3, c4', c5, c6, c7⟩ := id B4.hob
      refine ⟨.ref x, rfl, x, _, dx4, fs4, .ref ma, rfl, hx4, cl, T.Narrowing.n_masks, c3, .int pp, rfl, ma, _, (pp : Int), _, rfl, rfl, .inl (.inl B4.hma), nat_at (by rw [N1'.ml]; exact hpn), _, rfl, _, rfl, by omega, by omega, ?_⟩
      refine for_range (n := ((Builtin.Int.intBits ((ms1.getD pp 0 : Nat) : Int) : Nat) : Int).toNat) (fun k σ H' => ∃ y8 ms2 fl2 chs2 st2, σ = [some (.ref x), some (.int idx), some (.ref ch), some (.ref sa), some (.int j), some (.int pp), some (.ref D), none, y8] ∧ Gx [x, ro, ma, sp, ch] H H' ∧ NSt K T.Narrowing.C Hb H' x sc ro ma sp sas cs rws1 ms2 fl2 st2 cap ∧ Goes rels cs sz n st2 ms2 ∧ Nv rels cs sz n rws1 ms2 fl2 ∧ H' ch = some (.dK (kI chs2)) ∧ H' D = some (.dK (kI (heldL j R))) ∧ Fo n ms chs ms2 chs2 ∧ HeldUp c R ms2 fl2 j ∧ HeldV c R ms2 fl2 j k ∧ ∀ v, (ms2.getD pp 0).testBit v = true → (ms1.getD pp 0).testBit v = true)
        ⟨_, ms1, fl1, chs1, st1, rfl, g04, B4, G1, N1', hch4, hD, F1, U1, ?_, fun v hv => hv⟩ (fun k σ H5 hk hp => ?_) (fun σ H5 hp => ?_)
      · cases fl1 with
        | true => exact .inl rfl
        | false =>
          refine .inr fun y hy hk => ?_
          obtain ⟨v, rfl, _⟩ := mem_vals.mp hy
          omega
      · obtain ⟨y8', ms2, fl2, chs2, st2, rfl, g5, B5, G5, N5, hch5, hD5, F5, U5, V5, S5⟩ := hp
        have hk4 : k < 4 := by omega
        rw [show (0 : Int) + (k : Int) = (k : Int) from Int.zero_add _]
        have l2 : allLt ms2 16 := fun j => mask16 (N5.lt j) s4
        have hm2 : ms2.getD pp 0 < 16 := l2 pp
        have hpl : pp < ms2.length := by rw [N5.ml]; exact hpn
        obtain ⟨dx5, fs5, hx5, _, d1, d2, d3, d4, d5, d6, d7⟩ := id B5.hob
        have next : (fl2 = false → (ms2.getD (c.2.getD j 0) 0).testBit k = true → ∃ r ∈ R, r.getD j 0 = (k : Int)) → ∃ y8 ms2' fl2' chs2' st2', ([some (.ref x), some (.int idx), some (.ref ch), some (.ref sa), some (.int j), some (.int pp), some (.ref D), none, some (.int (k : Int))] : L2.St) = [some (.ref x), some (.int idx), some (.ref ch), some (.ref sa), some (.int j), some (.int pp), some (.ref D), none, y8] ∧ Gx [x, ro, ma, sp, ch] H H5 ∧ NSt K T.Narrowing.C Hb H5 x sc ro ma sp sas cs rws1 ms2' fl2' st2' cap ∧ Goes rels cs sz n st2' ms2' ∧ Nv rels cs sz n rws1 ms2' fl2' ∧ H5 ch = some (.dK (kI chs2')) ∧ H5 D = some (.dK (kI (heldL j R))) ∧ Fo n ms chs ms2' chs2' ∧ HeldUp c R ms2' fl2' j ∧ HeldV c R ms2' fl2' j (k + 1) ∧ ∀ v, (ms2'.getD pp 0).testBit v = true → (ms1.getD pp 0).testBit v = true :=
          fun hs => ⟨_, ms2, fl2, chs2, st2, rfl, g5, B5, G5, N5, hch5, hD5, F5, U5, V5.skip hs, S5⟩
        refine ⟨.ref x, rfl, x, _, dx5, fs5, .bl fl2, rfl, hx5, cl, T.Narrowing.n_failed, d5, fl2, rfl, ?_⟩
        refine ite2 (fun hf => ?_) (fun hf => iteF (next fun e => by rw [e] at hf; exact absurd rfl hf))
        have hf : fl2 = false := by simpa using hf
        subst hf
        refine ⟨.ref x, rfl, x, _, dx5, fs5, .ref ma, rfl, hx5, cl, T.Narrowing.n_masks, d3, .int pp, rfl, ma, _, (pp : Int), _, rfl, rfl, .inl (.inl B5.hma), nat_at hpl, .int (k : Int), rfl, _, (k : Int), rfl, rfl, by omega, _, 1, rfl, rfl, _, rfl, ?_⟩
        have eb : ((Builtin.bitAnd (((ms2.getD pp 0 : Nat) : Int) / 2 ^ ((k : Int)).toNat) 1) != 0) = (ms2.getD pp 0).testBit k := by
          rw [Int.toNat_natCast, bit_and1 hm2 hk4]
          cases (ms2.getD pp 0).testBit k <;> rfl
        rw [eb]
        refine ite2 (fun hb => ?_) (fun hb => iteF (next fun _ e => by rw [hpp] at e; exact absurd e hb))
        refine ⟨.int (k : Int), rfl, .ref D, rfl, D, _, rfl, keys_g hD5, _, rfl, ?_⟩
        rw [kI_has]
        refine ite2 (fun hn => ?_) (fun hn => next fun _ _ => mem_held.mp (by simpa using hn))
        have hn : ∀ r ∈ R, r.getD j 0 ≠ (k : Int) := fun r hr e => by
          have : (k : Int) ∈ heldL j R := mem_held.mpr ⟨r, hr, e⟩
          rw [decide_eq_true this] at hn
          cases hn
        have hb' : (ms2.getD (c.2.getD j 0) 0).testBit k = true := by rw [hpp]; exact hb
        have ecl : Builtin.bitAnd ((ms2.getD pp 0 : Nat) : Int) (Builtin.bitNot (1 * 2 ^ ((k : Int)).toNat)) = ((clrM (ms2.getD pp 0) k : Nat) : Int) := by
          rw [Int.toNat_natCast]
          exact bit_clr hm2 hk4
        -- the mask
        refine ⟨.ref x, rfl, x, _, dx5, fs5, .ref ma, rfl, hx5, cl, T.Narrowing.n_masks, d3, .int pp, rfl, ma, _, (pp : Int), _, rfl, rfl, .inl (.inl B5.hma), nat_at hpl, .int (k : Int), rfl, 1, (k : Int), rfl, rfl, ⟨by omega, by omega, by decide⟩, _, rfl, _, _, rfl, rfl, ?_⟩
        refine B5.putMask cl T.Narrowing.n_masks rfl rfl hpl (m := clrM (ms2.getD pp 0) k) (congrArg V.int ecl) ?_
        have clt := clrF_cnt l2 hk4 hpl hb
        obtain ⟨B6, g6⟩ := B5.setMask (ms' := clrF ms2 pp k) (cap' := cap - 1) (by have := B5.hsp; obtain ⟨_, _, _, _⟩ := this; omega)
        have g56 := g5.trans (g6.mono m5)
        have hch6 := g6.at (B5.off hch5 (fun _ _ _ z => by cases z) fun _ z => by cases z) hch5 fun _ z => by cases z
        have hD6 := g6.at (B5.off hD5 (fun _ _ _ z => by cases z) fun _ z => by cases z) hD5 fun _ z => by cases z
        change tSeq _ _ _ _ (upd H5 ma (.lst ((natL (clrF ms2 pp k)).map V.int)))
        generalize upd H5 ma (.lst ((natL (clrF ms2 pp k)).map V.int)) = H6 at *
        -- the step
        obtain ⟨dx6, fs6, hx6, _, e1, e2, e3, e4, e5, e6, e7⟩ := id B6.hob
        obtain ⟨ss0, hs0, _⟩ := id B6.hsp
        refine ⟨.ref x, rfl, x, _, dx6, fs6, .ref sp, rfl, hx6, cl, T.Narrowing.n_steps, e4, .inl ⟨rfl, _, .inl (.inl hs0)⟩, .int pp, rfl, .int (k : Int), rfl, .int idx, rfl, .int j, rfl, by show 4 ≤ sizeLine; decide, fun t nt => ?_⟩
        have gt7 : Gr H6 (upd H6 t (.tup [.int pp, .int (k : Int), .int idx, .int j])) := Gx.new nt
        have B7 := B6.gr gt7
        have ht7 : (upd H6 t (.tup [.int pp, .int (k : Int), .int idx, .int j])) t = some (.tup ((stR ⟨pp, k, idx, j⟩).map V.int)) := upd_same
        have hch7 := Gx.at gt7 (by simp) hch6 fun _ z => by cases z
        have hD7 := Gx.at gt7 (by simp) hD6 fun _ z => by cases z
        have g57 := g56.thn gt7
        generalize upd H6 t (.tup [.int pp, .int (k : Int), .int idx, .int j]) = H7 at *
        obtain ⟨ss, hss, ssl, B8, g8⟩ := B7.addStep (v := .ref t) (s := ⟨pp, k, idx, j⟩) (.row ht7)
        refine ⟨sp, ss, .ref t, rfl, rfl, hss, small1000 (by omega), ?_⟩
        have hch8 := g8.at (B7.off hch7 (fun _ _ _ z => by cases z) fun _ z => by cases z) hch7 fun _ z => by cases z
        have hD8 := g8.at (B7.off hD7 (fun _ _ _ z => by cases z) fun _ z => by cases z) hD7 fun _ z => by cases z
        have g58 := g57.trans (g8.mono m5)
        generalize upd H7 sp (.lst (ss ++ [.ref t])) = H8 at *
        -- changed
        have clen2 : chs2.length ≤ n := nd_len F5.nd F5.ok
        refine ⟨.ref ch, rfl, .int pp, rfl, ch, _, rfl, keys_p hch8 (by omega), ?_⟩
        have g9 : Gx [ch] H8 (upd H8 ch (.dK (kI (addI chs2 pp)))) := Gx.refl.wrS (List.mem_singleton.mpr rfl)
        have B9 := B8.gx g9 (fun b hb => by
          rw [List.mem_singleton.mp hb]
          refine ⟨fch, fun hm => ?_, fun o e => ?_⟩
          · rcases List.mem_cons.mp hm with hm | hm
            · rw [hm, B8.hsc] at hch8
              cases hch8
            · exact B8.off hch8 (fun _ _ _ z => by cases z) (fun _ z => by cases z) hm
          · rw [hch8] at e
            cases e
            exact ⟨fun _ z => (nomatch z), fun _ z => (nomatch z), fun _ _ _ z => (nomatch z)⟩)
        have hch9 : (upd H8 ch (.dK (kI (addI chs2 pp)))) ch = some (.dK (kI (addI chs2 pp))) := upd_same
        have hD9 : (upd H8 ch (.dK (kI (addI chs2 pp)))) D = some (.dK (kI (heldL j R))) := by rw [upd_ne hDch]; exact hD8
        have g59 := g58.trans (g9.mono fun b hb => by rw [List.mem_singleton.mp hb]; simp)
        generalize upd H8 ch (.dK (kI (addI chs2 pp))) = H9 at *
        -- failed
        have N9 := N5.clear s4 ec hj hk4 (by rw [hpp]; exact hpn) (by rw [eR]; exact hn)
        rw [hpp] at N9
        obtain ⟨dx9, fs9, hx9, f9, B10, g10⟩ := B9.setFail (decide ((clrF ms2 pp k).getD pp 0 = 0))
        obtain ⟨dx9', fs9', hx9', _, o1, o2, o3, o4, o5, o6, o7⟩ := id B9.hob
        refine ⟨.ref x, rfl, x, _, dx9', fs9', .ref ma, rfl, hx9', cl, T.Narrowing.n_masks, o3, .int pp, rfl, ma, _, (pp : Int), _, rfl, rfl, .inl (.inl B9.hma), nat_at (by rw [clrF_len]; exact hpl), rfl, .ref x, rfl, x, _, dx9, fs9, rfl, hx9, cl, T.Narrowing.n_failed, f9, ?_⟩
        have capE : cap - 1 + 1 = cap := by
          obtain ⟨_, _, h9, _⟩ := B5.hsp
          omega
        rw [capE] at B10
        have ed : decide (V.int (((clrF ms2 pp k).getD pp 0 : Nat) : Int) = V.int 0) = decide ((clrF ms2 pp k).getD pp 0 = 0) := decide_eq_decide.mpr ⟨fun h => by injection h with h; omega, fun h => by rw [h]; rfl⟩
        rw [ed]
        have F9 := F5.clear l2 hk4 N5.ml hpn hb
        refine ⟨_, clrF ms2 pp k, _, addI chs2 pp, _, rfl, g59.trans (g10.mono m5), B10, G5.step N5 s4 ec hj hpp hpn hk4 hb (by rw [eR]; exact hn), N9, ?_, ?_, F9, U5.clear l2 hk4 hpl, ?_, fun v hv => ?_⟩
        · exact g10.at (B9.off hch9 (fun _ _ _ z => by cases z) fun _ z => by cases z) hch9 fun _ z => by cases z
        · exact g10.at (B9.off hD9 (fun _ _ _ z => by cases z) fun _ z => by cases z) hD9 fun _ z => by cases z
        · have := V5.clear (fl := decide ((clrF ms2 pp k).getD pp 0 = 0)) l2 hk4 (by rw [hpp]; exact hpl)
          rw [hpp] at this
          exact this
        · rw [clrF_at hpl, if_pos rfl] at hv
          refine S5 v ?_
          by_cases v4 : v < 4
          · rw [clr_bit hm2 hk4 v4, Bool.and_eq_true] at hv
            exact hv.1
          · have := Nat.testBit_lt_two_pow (x := clrM (ms2.getD pp 0) k) (i := v) (Nat.lt_of_lt_of_le (clr_lt hm2) (show 2 ^ 4 ≤ 2 ^ v from Nat.pow_le_pow_right (by decide) (by omega)))
            rw [this] at hv
            cases hv
      · obtain ⟨y8', ms2, fl2, chs2, st2, rfl, g5, B5, G5, N5, hch5, hD5, F5, U5, V5, S5⟩ := hp
        rw [Int.toNat_natCast] at V5
        refine ⟨_, _, _, _, ms2, fl2, chs2, st2, rfl, g5, B5, G5, N5, hch5, F5, U5.next V5 fun v h4 hb => ?_⟩
        rw [hpp] at hb
        have := S5 v hb
        exact Nat.lt_of_not_le fun le => by rw [bits_hi hm0 le h4] at this; cases this
    · obtain ⟨_, _, _, _, ms', fl', chs', stp', rfl, g', B', G', N', hch', F', U'⟩ := hp
      rw [clen] at U'
      refine q H' rws1 ms' fl' chs' stp' g' B' G' fewA hch' ⟨N', F', fun d ed => ?_⟩
      rw [ec] at ed
      cases ed
      exact follow_cons F' hR U'
end K15

set_option Elab.async false
set_option linter.all false
/-! narrowing: which constraints touch a variable -/
namespace MR
open PySem PySem.W PyProof.Rows ZB
/-- the constraints ahead of i, and the first j places of i, are noted -/
structure TInv (cs : List ConL) (n i j : Nat) (fam : List (List Int)) : Prop where
  len : fam.length = n
  mem : ∀ v, v < n → ∀ y, y ∈ fam.getD v [] ↔ ∃ (i' : Nat) (c : ConL) (q : Nat), y = (i' : Int) ∧ cs[i']? = some c ∧ c.2[q]? = some v ∧ (i' < i ∨ (i' = i ∧ q < j))
  most : ∀ v, v < n → (fam.getD v []).length ≤ i * 4 + j
theorem TInv.start {cs : List ConL} {n : Nat} : TInv cs n 0 0 (List.replicate n []) where
  len := List.length_replicate
  mem v hv y := by
    have e : (List.replicate n ([] : List Int)).getD v [] = [] := by
      rw [List.getD_eq_getElem?_getD, List.getElem?_replicate]
      split <;> rfl
    rw [e]
    constructor
    · intro h
      simp at h
    · rintro ⟨i', c, q, _, _, _, h | ⟨_, h⟩⟩
      · exact absurd h (Nat.not_lt_zero _)
      · exact absurd h (Nat.not_lt_zero _)
  most v hv := by
    have e : (List.replicate n ([] : List Int)).getD v [] = [] := by
      rw [List.getD_eq_getElem?_getD, List.getElem?_replicate]
      split <;> rfl
    rw [e]
    exact Nat.zero_le _
theorem TInv.put {cs : List ConL} {n i j v : Nat} {fam : List (List Int)} {c : ConL} (h : TInv cs n i j fam) (ec : cs[i]? = some c) (ev : c.2[j]? = some v) (hv : v < n) : TInv cs n i (j + 1) (fam.set v (fam.getD v [] ++ [(i : Int)])) where
  len := by rw [List.length_set]; exact h.len
  mem u hu y := by
    rw [setD_at (by rw [h.len]; exact hv)]
    split
    · rename_i e
      subst e
      rw [List.mem_append, List.mem_singleton, h.mem v hv]
      constructor
      · rintro (⟨i', c', q, a, b, d, e⟩ | rfl)
        · exact ⟨i', c', q, a, b, d, by omega⟩
        · exact ⟨i, c, j, rfl, ec, ev, .inr ⟨rfl, Nat.lt_succ_self _⟩⟩
      · rintro ⟨i', c', q, a, b, d, e⟩
        by_cases z : i' = i ∧ q = j
        · exact .inr (by rw [a, z.1])
        · exact .inl ⟨i', c', q, a, b, d, by omega⟩
    · rename_i ne
      rw [h.mem u hu]
      constructor
      · rintro ⟨i', c', q, a, b, d, e⟩
        exact ⟨i', c', q, a, b, d, by omega⟩
      · rintro ⟨i', c', q, a, b, d, e⟩
        refine ⟨i', c', q, a, b, d, ?_⟩
        by_cases z : i' = i ∧ q = j
        · obtain ⟨rfl, rfl⟩ := z
          rw [ec] at b
          cases b
          rw [ev] at d
          cases d
          exact absurd rfl ne
        · omega
  most u hu := by
    rw [setD_at (by rw [h.len]; exact hv)]
    split
    · rw [List.length_append]
      have := h.most v hv
      show _ + 1 ≤ _
      omega
    · have := h.most u hu
      omega
theorem TInv.next {cs : List ConL} {n i : Nat} {fam : List (List Int)} {c : ConL} (h : TInv cs n i c.2.length fam) (ec : cs[i]? = some c) (h4 : c.2.length ≤ 4) : TInv cs n (i + 1) 0 fam where
  len := h.len
  mem v hv y := by
    rw [h.mem v hv]
    constructor
    · rintro ⟨i', c', q, a, b, d, e⟩
      exact ⟨i', c', q, a, b, d, by omega⟩
    · rintro ⟨i', c', q, a, b, d, e⟩
      refine ⟨i', c', q, a, b, d, ?_⟩
      by_cases z : i' = i
      · subst z
        rw [ec] at b
        cases b
        exact .inr ⟨rfl, (List.getElem?_eq_some_iff.mp d).1⟩
      · omega
  most v hv := by
    have := h.most v hv
    omega
theorem TInv.all {cs : List ConL} {n : Nat} {fam : List (List Int)} (h : TInv cs n cs.length 0 fam) {v : Nat} (hv : v < n) {y : Int} : y ∈ fam.getD v [] ↔ ∃ (i' : Nat) (c : ConL), y = (i' : Int) ∧ cs[i']? = some c ∧ v ∈ c.2 := by
  rw [h.mem v hv]
  constructor
  · rintro ⟨i', c, q, a, b, d, _⟩
    exact ⟨i', c, a, b, List.mem_of_getElem? d⟩
  · rintro ⟨i', c, a, b, d⟩
    obtain ⟨q, hq, e⟩ := List.mem_iff_getElem.mp d
    exact ⟨i', c, q, a, b, by rw [List.getElem?_eq_getElem hq, e], .inl (List.getElem?_eq_some_iff.mp b).1⟩
/-- several whole numbers become keys -/
def addAll (ks ns : List Int) : List Int := ns.foldl addI ks
theorem mem_addAll : ∀ {ns ks : List Int} {y : Int}, y ∈ addAll ks ns ↔ y ∈ ks ∨ y ∈ ns
  | [], ks, y => by simp [addAll]
  | n :: ns, ks, y => by
    show y ∈ addAll (addI ks n) ns ↔ _
    rw [mem_addAll, mem_addI, List.mem_cons]
    constructor
    · rintro ((h | h) | h)
      · exact .inl h
      · exact .inr (.inl h)
      · exact .inr (.inr h)
    · rintro (h | h | h)
      · exact .inl (.inl h)
      · exact .inl (.inr h)
      · exact .inr h
theorem nd_addAll : ∀ {ns ks : List Int}, ks.Nodup → (addAll ks ns).Nodup
  | [], ks, h => h
  | n :: ns, ks, h => nd_addAll (ns := ns) (nd_addI h)
theorem addAll_snoc (ks ns : List Int) (n : Int) : addAll ks (ns ++ [n]) = addI (addAll ks ns) n := by
  unfold addAll
  rw [List.foldl_append]
  rfl
/-- the keys of the next round -/
def nextW (fam : List (List Int)) (chs : List Int) : List Int := chs.foldl (fun ks p => addAll ks (fam.getD p.toNat [])) []
theorem nextW_snoc (fam : List (List Int)) (chs : List Int) (p : Int) : nextW fam (chs ++ [p]) = addAll (nextW fam chs) (fam.getD p.toNat []) := by
  unfold nextW
  rw [List.foldl_append]
  rfl
theorem mem_nextW {fam : List (List Int)} {y : Int} : ∀ {chs : List Int}, y ∈ nextW fam chs ↔ ∃ p ∈ chs, y ∈ fam.getD p.toNat [] := by
  have h : ∀ (chs ks : List Int), y ∈ chs.foldl (fun ks p => addAll ks (fam.getD p.toNat [])) ks ↔ y ∈ ks ∨ ∃ p ∈ chs, y ∈ fam.getD p.toNat [] := fun chs => by
    induction chs with
    | nil => intro ks; simp
    | cons p chs ih =>
      intro ks
      show y ∈ chs.foldl (fun ks p => addAll ks (fam.getD p.toNat [])) (addAll ks (fam.getD p.toNat [])) ↔ _
      rw [ih, mem_addAll]
      constructor
      · rintro ((h | h) | ⟨q, hq, h⟩)
        · exact .inl h
        · exact .inr ⟨p, List.mem_cons_self, h⟩
        · exact .inr ⟨q, List.mem_cons_of_mem _ hq, h⟩
      · rintro (h | ⟨q, hq, h⟩)
        · exact .inl (.inl h)
        · rcases List.mem_cons.mp hq with rfl | hq
          · exact .inl (.inr h)
          · exact .inr ⟨q, hq, h⟩
  intro chs
  unfold nextW
  rw [h]
  simp
theorem nd_nextW {fam : List (List Int)} (chs : List Int) : (nextW fam chs).Nodup := by
  have h : ∀ (chs ks : List Int), ks.Nodup → (chs.foldl (fun ks p => addAll ks (fam.getD p.toNat [])) ks).Nodup := fun chs => by
    induction chs with
    | nil => exact fun ks h => h
    | cons p chs ih => exact fun ks h => ih _ (nd_addAll h)
  exact h chs [] List.nodup_nil
/-- what holds ahead of each item of a round: it waits still, a variable of its own has changed, or it is consistent -/
def RInv (rels : RelL) (cs : List ConL) (ws : List Int) (ms : List Nat) (fl : Bool) (chs : List Int) : Prop := fl = true ∨ ∀ (idx : Nat) (c : ConL), cs[idx]? = some c → (idx : Int) ∈ ws ∨ (∃ p ∈ c.2, (p : Int) ∈ chs) ∨ consC rels ms c
theorem RInv.step {rels : RelL} {cs : List ConL} {n : Nat} {i0 : Int} {ws : List Int} {ms ms' : List Nat} {fl fl' : Bool} {chs chs' : List Int} (h : RInv rels cs (i0 :: ws) ms fl chs) (f : Fo n ms chs ms' chs') (mono : fl = true → fl' = true)
    (hc : ∀ (idx : Nat) c, i0 = (idx : Int) → cs[idx]? = some c → fl' = true ∨ (∃ p ∈ c.2, (p : Int) ∈ chs') ∨ consC rels ms' c) : RInv rels cs ws ms' fl' chs' := by
  rcases h with h | h
  · exact .inl (mono h)
  by_cases e : fl' = true
  · exact .inl e
  refine .inr fun idx c ec => ?_
  rcases h idx c ec with k | k
  · rcases List.mem_cons.mp k with k | k
    · rcases hc idx c k.symm ec with z | z
      · exact absurd z e
      · exact .inr z
    · exact .inl k
  · exact .inr (round_step f k)
theorem RInv.next {rels : RelL} {cs : List ConL} {n : Nat} {ms : List Nat} {fl : Bool} {chs : List Int} {fam : List (List Int)} (h : RInv rels cs [] ms fl chs) (t : TInv cs n cs.length 0 fam) (sc : ∀ c ∈ cs, ∀ p ∈ c.2, p < n) : RInv rels cs (nextW fam chs) ms fl [] := by
  rcases h with h | h
  · exact .inl h
  refine .inr fun idx c ec => ?_
  rcases h idx c ec with k | ⟨p, hp, k⟩ | k
  · simp at k
  · refine .inl (mem_nextW.mpr ⟨(p : Int), k, ?_⟩)
    rw [Int.toNat_natCast]
    exact (t.all (sc c (List.mem_of_getElem? ec) p hp)).mpr ⟨idx, c, rfl, ec, hp⟩
  · exact .inr (.inr k)
end MR

set_option Elab.async false
set_option linter.all false
set_option maxRecDepth 100000
set_option maxHeartbeats 4000000
namespace K15
open PySem PySem.Spec PyProof.Rows L2 TK MR ZB
variable {P : Program} {w : World} {K : PySem.W.Frag} {mg : Str → Option Value} {base : Heap}
/-- a list of lists of their own -/
structure Tch (H : Hp) (p : Addr) (qs : List Addr) (fam : List (List Int)) : Prop where
  hp : H p = some (.lst (qs.map V.ref))
  nd : qs.Nodup
  np : p ∉ qs
  len : qs.length = fam.length
  hq : ∀ (i : Nat) q, qs[i]? = some q → H q = some (.lst ((fam.getD i []).map V.int))
theorem Tch.gx {S : List Addr} {H H' : Hp} {p : Addr} {qs : List Addr} {fam : List (List Int)} (h : Tch H p qs fam) (g : Gx S H H') (hS : ∀ b ∈ S, b ∉ p :: qs) : Tch H' p qs fam :=
  { h with
    hp := g.at (fun z => hS p z List.mem_cons_self) h.hp fun _ z => by cases z
    hq := fun i q e => g.at (fun z => hS q z (List.mem_cons_of_mem _ (List.mem_of_getElem? e))) (h.hq i q e) fun _ z => by cases z }
theorem Tch.gr {H H' : Hp} {p : Addr} {qs : List Addr} {fam : List (List Int)} (h : Tch H p qs fam) (g : Gr H H') : Tch H' p qs fam := h.gx g fun _ z => by simp at z
theorem Tch.put {H : Hp} {p q : Addr} {qs : List Addr} {fam : List (List Int)} {v : Nat} {l : List Int} (h : Tch H p qs fam) (e : qs[v]? = some q) : Tch (upd H q (.lst (l.map V.int))) p qs (fam.set v l) := by
  have hq := List.mem_of_getElem? e
  have ne : p ≠ q := fun z => h.np (z ▸ hq)
  have hv : v < fam.length := by rw [← h.len]; exact (List.getElem?_eq_some_iff.mp e).1
  refine ⟨by rw [upd_ne ne]; exact h.hp, h.nd, h.np, by rw [List.length_set]; exact h.len, fun i q' e' => ?_⟩
  rw [setD_at hv]
  split
  · rename_i iv
    subst iv
    rw [e] at e'
    cases e'
    rw [upd_same]
  · rename_i iv
    have nq : q' ≠ q := fun z => by
      subst z
      obtain ⟨i1, i2⟩ := List.getElem?_eq_some_iff.mp e
      obtain ⟨j1, j2⟩ := List.getElem?_eq_some_iff.mp e'
      exact iv ((List.getElem_inj h.nd).mp (i2.trans j2.symm))
    rw [upd_ne nq]
    exact h.hq i q' e'
theorem range_add {k : Nat} : addI ((List.range k).map fun (i : Nat) => (i : Int)) (k : Int) = (List.range (k + 1)).map fun (i : Nat) => (i : Int) := by
  unfold addI
  rw [if_neg, List.range_succ, List.map_append]
  · rfl
  · intro h
    obtain ⟨i, hi, e⟩ := List.mem_map.mp h
    have := List.mem_range.mp hi
    omega
theorem kI_at {ws : List Int} {i : Nat} {k : L2.Key} {v : V} (h : (kI ws)[i]? = some (k, v)) : ∃ w, ws[i]? = some w ∧ k = Sum.inl w := by
  unfold kI at h
  rw [List.getElem?_map] at h
  obtain ⟨w, e, h⟩ := Option.map_eq_some_iff.mp h
  cases h
  exact ⟨w, e, rfl⟩
/-- a dict is written -/
theorem NSt.dct {C : Addr} {Hb H : Hp} {x sc ro ma sp d : Addr} {sas : List Addr} {cs : List Con} {rws : List (List (List Int))} {ms : List Nat} {fl : Bool} {stp : List Stp} {cap : Nat} {o : HO} (h : NSt K C Hb H x sc ro ma sp sas cs rws ms fl stp cap) (hd : H d = some o) (ho : (∃ kvs, o = .dK kvs) ∨ ∃ od kvs, o = .frz od (.dK kvs)) (fd : Hb d = none) (o' : HO) : NSt K C Hb (upd H d o') x sc ro ma sp sas cs rws ms fl stp cap :=
  h.gx (S := [d]) (Gx.refl.wrS (List.mem_singleton.mpr rfl)) (fun b hb => by
    rw [List.mem_singleton.mp hb]
    have k : (∀ xs, o ≠ .tup xs) ∧ (∀ xs, o ≠ .lst xs) ∧ (∀ C dx fs, o ≠ .ins C dx fs) ∧ ∀ o' u, (∃ xs, u = .tup xs ∨ u = .lst xs) → o ≠ .frz o' u := by
      rcases ho with ⟨kvs, rfl⟩ | ⟨od, kvs, rfl⟩
      · exact ⟨fun _ z => (nomatch z), fun _ z => (nomatch z), fun _ _ _ z => (nomatch z), fun _ _ _ z => (nomatch z)⟩
      · refine ⟨fun _ z => (nomatch z), fun _ z => (nomatch z), fun _ _ _ z => (nomatch z), fun _ u hu z => ?_⟩
        cases z
        obtain ⟨xs, e | e⟩ := hu <;> cases e
    refine ⟨fd, fun hm => ?_, fun o2 e => ?_⟩
    · rcases List.mem_cons.mp hm with hm | hm
      · rw [hm, h.hsc] at hd
        exact k.2.1 _ (Option.some.inj hd).symm
      · exact h.off hd k.2.2.1 k.2.1 hm
    · rw [hd] at e
      cases e
      exact ⟨k.1, k.2.1, k.2.2.2⟩)
/-! Narrowing.run -/
def sp_run (K : PySem.W.Frag) (C : Addr) : Sp := fun vs H Q _ => ∃ (Hb : Hp) (x sc ro ma sp : Addr) (sas : List Addr) (rels : Rels) (cs : List Con) (rws : List (List (List Int))) (ms : List Nat) (stp : List Stp) (cap sz n : Nat), vs = [.ref x] ∧ NSt K C Hb H x sc ro ma sp sas cs rws ms false stp cap ∧ Goes rels cs sz n stp ms ∧ Nv rels cs sz n rws ms false ∧ InsOk rels n cs ∧ RelsOk sz rels ∧ sz ≤ 4 ∧ cap ≤ 900 ∧ (∀ i, (rws.getD i []).length ≤ 300) ∧
  ∀ H' rws' ms' fl' stp', NSt K C Hb H' x sc ro ma sp sas cs rws' ms' fl' stp' cap → Goes rels cs sz n stp' ms' → Nv rels cs sz n rws' ms' fl' → (fl' = true ∨ ∀ c ∈ cs, consC rels ms' c) → Q (.bl (!fl')) H'
theorem ok_run (T : Txt K mg base) : FnOk P w K mg base CX0 3 T.Narrowing.f_run T.Narrowing.fd_run p_Narrowing_run (sp_run K T.Narrowing.C) := by
  refine T.Narrowing.F_run.ok sc_Narrowing_run (fun vs H Q E h => ?_) (fun cdv A outer sh H vs Q E hr h => ?_)
  · obtain ⟨_, _, _, _, _, _, _, _, _, _, _, _, _, _, _, rfl, _⟩ := h
    rfl
  · obtain ⟨Hb, x, sc, ro, ma, sp, sas, rels, cs, rws, ms, stp, cap, sz, n, rfl, B, G, N, O, R, s4, cap9, few, q⟩ := h
    refine ⟨_, (pss_cons (ps_set (i := 1) sc_Narrowing_run.nd rfl (by first | exact .inl rfl | exact .inr rfl) (pe_lc (own := [("_", 2)]) (g := gName 2) (tt := tYes) rfl sc_Narrowing_run.nd (pi_listK K (pe_fldK K (pv 0) rfl)) (blkOk_by (N := n_Narrowing_run) (sc := defScope s_Narrowing_run) (by decide +kernel)) (fun _ _ _ _ _ => pg_name (i := 2) sc_Narrowing_run.nd rfl (Or.inl rfl)) (fun _ _ _ _ _ => pts_nil) (fun _ _ _ _ _ => pe_lst pa_nil))) (pss_cons (ps_for PassesOwn.never rfl (pi_enum (by rfl) T.b_enumerate (pa_cons (pe_fldK K (pv 0) rfl) pa_nil)) (pg_tup (by rfl) (pgs_cons (pg_name (i := 3) sc_Narrowing_run.nd rfl (by first | exact .inl rfl | exact .inr rfl)) (pgs_cons (pg_name (i := 4) sc_Narrowing_run.nd rfl (by first | exact .inl rfl | exact .inr rfl)) pgs_nil)))
        (pss_one (ps_for PassesOwn.never rfl (pi_tupK K (pv 4)) (pg_name (i := 5) sc_Narrowing_run.nd rfl (by first | exact .inl rfl | exact .inr rfl))
          (pss_one (ps_expr (pe_bm PySem.F.plainAttrs_list PySem.F.slot_list_append PySem.F.type_list_append mt_append (pe_ix (ix_listK K) (pv 1) (pv 5) (fun _ _ => rfl)) (pa_cons (pv 3) pa_nil))))))) (pss_cons (SD.ps_setDg (i := 6) (own := [("index", 3)]) (g := gName 3) (tt := tYes) SD.dstoreK rfl sc_Narrowing_run.nd rfl rfl (SD.sw_trueD rfl rfl rfl (by decide +kernel)) (pi_range1 (by rfl) T.b_range (pa_cons (pe_callB (call_len_seqK K) (by rfl) T.b_len PySem.boot_len (pa_cons (pe_fldK K (pv 0) rfl) pa_nil)) pa_nil)) (blkOk_by (N := n_Narrowing_run) (sc := defScope s_Narrowing_run) (by decide +kernel))
            (fun _ _ _ _ => pg_name (i := 3) sc_Narrowing_run.nd rfl (Or.inl rfl)) (fun _ _ _ _ => pts_nil) (fun _ _ _ _ => pv 3) (fun _ _ _ _ => pe_bl)) (pss_cons (ps_while PassesOwn.never (PW.pt (pw_and (pt_truthK K (pv 6) (fun _ => rfl)) (pw_and1 (pt_not (pt_val (pe_fldK K (pv 0) rfl))))))
        (pss_cons (ps_set (i := 7) sc_Narrowing_run.nd rfl (by first | exact .inl rfl | exact .inr rfl) pe_dnewK) (pss_cons (ps_lock (ps_for PassesOwn.never rfl (pi_keys (pv 6)) (pg_name (i := 3) sc_Narrowing_run.nd rfl (by first | exact .inl rfl | exact .inr rfl)) (pss_one (ps_expr (pe_meth (pv 0) T.Narrowing.cl T.Narrowing.h_follow (ok_follow T) hr T.Narrowing.b_follow .nil pass0 (pa_cons (pv 3) (pa_cons (pv 7) pa_nil))))))) (pss_one (ps_lock (SD.ps_setDg2 (i := 6) (own := [("variable", 5), ("index", 3)]) (vs1 := [3]) (g := gName 5) (g1 := gName 3) (tt := tYes) (tt1 := tYes) SD.dstoreK rfl sc_Narrowing_run.nd rfl rfl (SD.sw_trueD rfl rfl rfl (by decide +kernel)) (pi_keys (pv 7)) (blkOk_by (N := n_Narrowing_run) (sc := defScope s_Narrowing_run) (by decide +kernel)) (by simp)
            (fun _ _ _ _ _ => pg_name (i := 5) sc_Narrowing_run.nd rfl (Or.inl rfl)) (fun _ _ _ _ _ => pts_nil) (fun _ _ _ _ _ => pi_listK K (pe_ix (ix_listK K) (pv 1) (pv 5) (fun _ _ => rfl))) (fun _ _ _ _ _ => pg_name (i := 3) sc_Narrowing_run.nd rfl (Or.inl rfl)) (fun _ _ _ _ _ => pts_nil) (fun _ _ _ _ _ => pv 3) (fun _ _ _ _ _ => pe_bl))))))) (pss_one (ps_ret (pe_not (pe_fldK K (pv 0) rfl)))))))), ?_⟩
    have cl := T.Narrowing.cl
    have n16 := O.n16
    have csl := O.few
    obtain ⟨dx, fs, hx, h5, l1, l2, l3, l4, l5, l6, l7⟩ := id B.hob
    -- touching
    refine ⟨.ref x, rfl, x, _, dx, fs, .ref ma, rfl, hx, cl, T.Narrowing.n_masks, l3, ma, rfl, ⟨_, .inl (.inl B.hma)⟩, fun D nD => ?_⟩
    refine lc_list (K := K) (a := ma) (xs := (natL ms).map V.int) (fun i H' => Gr H H' ∧ ∃ qs : List Addr, H' D = some (.lst (qs.map V.ref)) ∧ qs.length = i ∧ qs.Nodup ∧ ∀ q ∈ qs, H' q = some (.lst []) ∧ H q = none ∧ q ≠ D) ⟨Gx.new nD, [], upd_same, rfl, List.nodup_nil, fun q hq => by simp at hq⟩
      (fun i H' _ h => .inl (.inl (h.1.lst B.hma))) (fun i xv H' ex h => ?_) (fun H1 h => ?_)
    · obtain ⟨g, qs, hD, ql, qn, qq⟩ := h
      have hi : i < n := by
        have := (List.getElem?_eq_some_iff.mp ex).1
        rw [List.length_map, List.length_map, N.ml] at this
        exact this
      refine ⟨rfl, yesT ⟨Nat.zero_le _, fun e ne => ?_⟩⟩
      have ge : Gr H' (upd H' e (.lst [])) := Gx.new ne
      have eD : e ≠ D := fun z => by rw [z, hD] at ne; cases ne
      have eqs : e ∉ qs := fun hm => by rw [(qq e hm).1] at ne; cases ne
      refine ⟨_, ge.lst hD, ?_, (g.trans ge).wr nD, qs ++ [e], by rw [upd_same, List.map_append]; rfl, by rw [List.length_append, ql]; rfl, ?_, fun q hq => ?_⟩
      · rw [List.length_map]
        exact small1000 (by omega)
      · rw [List.nodup_append]
        exact ⟨qn, by simp, fun a ha b hb => by
          rw [List.mem_singleton.mp hb]
          rintro rfl
          exact eqs ha⟩
      · rcases List.mem_append.mp hq with hq | hq
        · obtain ⟨q1, q2, q3⟩ := qq q hq
          have : q ≠ e := fun z => eqs (z ▸ hq)
          rw [upd_ne q3, upd_ne this]
          exact ⟨q1, q2, q3⟩
        · rw [List.mem_singleton.mp hq, upd_ne eD, upd_same]
          exact ⟨rfl, Gr.free g ne, eD⟩
    obtain ⟨g1, qs, hD, ql, qn, qq⟩ := h
    rw [List.length_map, List.length_map, N.ml] at ql
    have T1 : Tch H1 D qs (List.replicate n []) := ⟨hD, qn, fun hm => (qq D hm).2.2 rfl, by rw [ql, List.length_replicate], fun i q e => by
      have : (List.replicate n ([] : List Int)).getD i [] = [] := by
        rw [List.getD_eq_getElem?_getD, List.getElem?_replicate]
        split <;> rfl
      rw [this]
      exact (qq q (List.mem_of_getElem? e)).1⟩
    have fresh : ∀ b ∈ D :: qs, H b = none := fun b hb => by
      rcases List.mem_cons.mp hb with rfl | hb
      · exact nD
      · exact (qq b hb).2.1
    have B1 := B.gr g1
    obtain ⟨dx1, fs1, hx1, _, a1, a2, a3, a4, a5, a6, a7⟩ := id B1.hob
    -- who touches whom
    refine ⟨.ref x, rfl, x, _, dx1, fs1, .ref sc, rfl, hx1, cl, T.Narrowing.n_scopes, a1, sc, _, rfl, .inl (.inl B1.hsc), ?_⟩
    refine for_it walk_enum (fun i σ H' => ∃ y3 y4 y5 fam, σ = [some (.ref x), some (.ref D), none, y3, y4, y5, none, none] ∧ Gr H H' ∧ Tch H' D qs fam ∧ TInv cs n i 0 fam) ⟨_, _, _, _, rfl, g1, T1, .start⟩
      (fun i σ H' _ hp => by
        obtain ⟨_, _, _, _, _, g, _⟩ := hp
        exact .inl (.inl (B.gr g).hsc)) (fun i xi σ Hx H' hi hp hy => ?_) (fun σ H2 hp => ?_)
    · obtain ⟨t, y1, y2, rfl, nt, rfl, ey1, ey2⟩ := hy
      cases ey1
      obtain ⟨y3, y4, y5, fam, rfl, g2, T2, I2⟩ := hp
      rw [List.length_map, B.scl] at hi
      have ey2 : (sas.map V.ref)[i]? = some y2 := ey2
      rw [List.getElem?_map] at ey2
      obtain ⟨sa, esa, rfl⟩ := Option.map_eq_some_iff.mp ey2
      have ec : cs[i]? = some cs[i] := List.getElem?_eq_getElem hi
      generalize cs[i] = c at ec
      have oc := O.ok c (List.mem_of_getElem? ec)
      have c4 : c.2.length ≤ 4 := by
        have := oc.len
        have := (R.ok _ (List.mem_of_getElem? (rels_get oc.ix))).1.ar4
        omega
      have hsa := B.hsa i sa c esa ec
      have gt : Gr Hx (upd Hx t (.tup [.int (i : Nat), .ref sa])) := Gx.new nt
      have ht : (upd Hx t (.tup [.int (i : Nat), .ref sa])) t = some (.tup [.int (i : Nat), .ref sa]) := upd_same
      have T3 := T2.gr gt
      have g3 := g2.trans gt
      generalize upd Hx t (.tup [.int (i : Nat), .ref sa]) = H3 at *
      refine ⟨t, _, rfl, .inl (.inl ht), rfl, .int i, [.ref sa], rfl, .ref sa, [], rfl, rfl, ?_⟩
      refine ⟨.ref sa, rfl, sa, rfl, ⟨_, .inl (.inl (Gx.tupS (B.gr g3).gb .nil hsa))⟩, ?_⟩
      refine for_tup (K := K) (a := sa) (xs := (natL c.2).map V.int) (fun j σ H' => ∃ y5 fam, σ = [some (.ref x), some (.ref D), none, some (.int i), some (.ref sa), y5, none, none] ∧ Gr H H' ∧ Tch H' D qs fam ∧ TInv cs n i j fam) ⟨_, _, rfl, g3, T3, I2⟩
        (fun j σ H' _ hp => by
          obtain ⟨_, _, _, g, _⟩ := hp
          exact .inl (.inl (Gx.tupS (B.gr g).gb .nil hsa))) (fun j xj σ H4 ex hp => ?_) (fun σ H4 hp => ?_)
      · obtain ⟨y5, fam, rfl, g4, T4, I4⟩ := hp
        rw [List.getElem?_map, List.getElem?_map] at ex
        obtain ⟨z, ez, rfl⟩ := Option.map_eq_some_iff.mp ex
        obtain ⟨v, ev, rfl⟩ := Option.map_eq_some_iff.mp ez
        have hv := oc.sc v (List.mem_of_getElem? ev)
        have hq : qs[v]? = some qs[v] := List.getElem?_eq_getElem (by omega)
        generalize qs[v] = qv at hq
        have hqv := T4.hq v qv hq
        have most := I4.most v hv
        have hj : j < c.2.length := (List.getElem?_eq_some_iff.mp ev).1
        refine ⟨.ref D, rfl, .int v, rfl, D, _, (v : Int), .ref qv, rfl, rfl, .inl (.inl T4.hp), atI_nat (by rw [List.getElem?_map, hq]; rfl), .inl ⟨rfl, _, .inl (.inl hqv)⟩, .int i, rfl, qv, _, .int i, rfl, rfl, hqv, ?_, ?_⟩
        · rw [List.length_map]
          exact small1000 (by omega)
        · have e : (fam.getD v []).map V.int ++ [V.int (i : Int)] = (fam.getD v [] ++ [(i : Int)]).map V.int := by rw [List.map_append]; rfl
          rw [e]
          exact ⟨_, _, rfl, g4.wr (fresh qv (List.mem_cons_of_mem _ (List.mem_of_getElem? hq))), T4.put hq, I4.put ec ev hv⟩
      · obtain ⟨y5, fam, rfl, g4, T4, I4⟩ := hp
        rw [List.length_map, List.length_map] at I4
        exact ⟨_, _, _, fam, rfl, g4, T4, I4.next ec c4⟩
    obtain ⟨y3, y4, y5, fam, rfl, g2, T2, I2⟩ := hp
    rw [List.length_map, B.scl] at I2
    have B2 := B.gr g2
    obtain ⟨dx2, fs2, hx2, _, b1, b2, b3, b4, b5, b6, b7⟩ := id B2.hob
    have scl : (sas.map V.ref).length = cs.length := by rw [List.length_map, B.scl]
    -- waiting
    refine ⟨.ref x, rfl, x, _, dx2, fs2, .ref sc, rfl, hx2, cl, T.Narrowing.n_scopes, b1, sc, _, rfl, .inl (.inl (.inl B2.hsc)), _, rfl, by omega, by rw [scl]; omega, fun W0 nW0 => ?_⟩
    rw [scl]
    refine lc_rangeB (lo := 0) (n := ((cs.length : Nat) : Int).toNat) (fun k H' => Gr H2 H' ∧ H' W0 = some (.dK (kI ((List.range k).map fun (i : Nat) => (i : Int))))) ⟨Gx.new nW0, upd_same⟩ (fun k H' hk h => ?_) (fun H3 h => ?_)
    · obtain ⟨g, hW⟩ := h
      rw [show (0 : Int) + (k : Int) = (k : Int) from Int.zero_add _]
      refine ⟨rfl, yesT ⟨.int k, rfl, _, Sum.inl (k : Int), rfl, hW, ?_, g.wr nW0, ?_⟩⟩
      · rw [kI_len, List.length_map, List.length_range]
        exact small1000 (by omega)
      · rw [upd_same, kI_put, range_add]
    obtain ⟨g23, hW⟩ := h
    rw [Int.toNat_natCast] at hW
    have g3 := g2.trans g23
    have offD : ∀ b ∈ D :: qs, b ∉ sc :: [x, ro, ma, sp] := fun b hb hm => by
      have hn := fresh b hb
      rcases List.mem_cons.mp hm with rfl | hm
      · rw [B.hsc] at hn
        cases hn
      · simp only [List.mem_cons, List.not_mem_nil, or_false] at hm
        rcases hm with rfl | rfl | rfl | rfl
        · rw [hx] at hn; cases hn
        · obtain ⟨_, a, _⟩ := B.hro
          rw [a] at hn; cases hn
        · rw [B.hma] at hn; cases hn
        · obtain ⟨_, a, _⟩ := B.hsp
          rw [a] at hn; cases hn
    have freeb : ∀ b ∈ D :: qs, Hb b = none := fun b hb => Gr.free B.gb (fresh b hb)
    -- a dict of its own, elsewhere
    let W : Nat → L2.St → Hp → Prop := fun m σ H' => ∃ (rws' : List (List (List Int))) (ms' : List Nat) (fl' : Bool) (stp' : List Stp) (ws : List Int) (wd : Addr) (y3 y4 y5 y7 : Option V), σ = [some (.ref x), some (.ref D), none, y3, y4, y5, some (.ref wd), y7] ∧ m = cntF (famM ms') + (if ws = [] then 0 else 1) ∧ NSt K T.Narrowing.C Hb H' x sc ro ma sp sas cs rws' ms' fl' stp' cap ∧ Goes rels cs sz n stp' ms' ∧ Nv rels cs sz n rws' ms' fl' ∧ (∀ i, (rws'.getD i []).length ≤ 300) ∧ Tch H' D qs fam ∧ H' wd = some (.dK (kI ws)) ∧ ws.Nodup ∧ (∀ v ∈ ws, ∃ idx : Nat, v = (idx : Int) ∧ idx < cs.length) ∧ RInv rels cs ws ms' fl' [] ∧ Hb wd = none
    refine ⟨W, ⟨_, rws, ms, false, stp, (List.range cs.length).map (fun (i : Nat) => (i : Int)), W0, _, _, _, _, rfl, rfl, B.gr g3, G, N, few, T2.gr g23, hW, ?_, fun v hv => ?_, .inr fun idx c ec => .inl ?_, Gr.free B2.gb nW0⟩, fun m σ H4 hw => ?_⟩
    · exact List.Pairwise.map _ (fun a b h z => h (by omega)) List.nodup_range
    · obtain ⟨i, hi, rfl⟩ := List.mem_map.mp hv
      exact ⟨i, rfl, List.mem_range.mp hi⟩
    · exact List.mem_map.mpr ⟨idx, List.mem_range.mpr (List.getElem?_eq_some_iff.mp ec).1, rfl⟩
    obtain ⟨rws1, ms1, fl1, st1, ws, wd, y3', y4', y5', y7', rfl, rfl, B4, G4, N4, few4, T4, hwd, wnd, wok, RI, fwd⟩ := hw
    obtain ⟨dx4, fs4, hx4, _, e1, e2, e3, e4, e5, e6, e7⟩ := id B4.hob
    refine ⟨.ref wd, rfl, _, .inr (.inr ⟨_, hwd, rfl⟩), ?_⟩
    have emp : (!(kI ws).isEmpty) = decide (ws ≠ []) := by cases ws <;> rfl
    rw [emp]
    refine ite2 (fun hne => ?_) (fun hne => iteF ?_)
    · have hne : ws ≠ [] := of_decide_eq_true hne
      refine ⟨.ref x, rfl, x, _, dx4, fs4, .bl fl1, rfl, hx4, cl, T.Narrowing.n_failed, e5, fl1, rfl, ?_⟩
      refine ite2 (fun hf => ?_) (fun hf => ?_)
      · have hf : fl1 = false := by simpa using hf
        subst hf
        refine ⟨fun σ' H' => ∃ m', m' < cntF (famM ms1) + (if ws = [] then 0 else 1) ∧ W m' σ' H', fun _ _ h => h, ?_⟩
        rw [if_neg hne]
        -- changed = {}
        refine fun ch nch => ?_
        have gch : Gr H4 (upd H4 ch (.dK [])) := Gx.new nch
        have hch5 : (upd H4 ch (.dK [])) ch = some (.dK (kI [])) := upd_same
        have B5 := B4.gr gch
        have T5 := T4.gr gch
        have hwd5 := Gx.at gch (by simp) hwd fun _ z => by cases z
        have cwd : ch ≠ wd := fun z => by rw [z, hwd] at nch; cases nch
        have fch : Hb ch = none := Gr.free B4.gb nch
        have offc : ch ∉ D :: qs := fun hm => by
          rcases List.mem_cons.mp hm with rfl | hm
          · rw [T4.hp] at nch; cases nch
          · obtain ⟨i, hi, e⟩ := List.mem_iff_getElem.mp hm
            rw [T4.hq i ch (by rw [List.getElem?_eq_getElem hi, e])] at nch
            cases nch
        have offw : wd ∉ D :: qs := fun hm => by
          rcases List.mem_cons.mp hm with rfl | hm
          · rw [T4.hp] at hwd; cases hwd
          · obtain ⟨i, hi, e⟩ := List.mem_iff_getElem.mp hm
            rw [T4.hq i wd (by rw [List.getElem?_eq_getElem hi, e])] at hwd
            cases hwd
        generalize upd H4 ch (.dK []) = H5 at *
        -- the round
        refine ⟨wd, _, hwd5, trivial, fun od => ?_⟩
        have offx : ∀ b ∈ [x, ro, ma, sp, ch], b ∉ D :: qs := fun b hb hm => by
          rcases List.mem_append.mp (show b ∈ [x, ro, ma, sp] ++ [ch] from hb) with hb | hb
          · exact offD b hm (List.mem_cons_of_mem _ hb)
          · rw [List.mem_singleton.mp hb] at hm
            exact offc hm
        have up1 : ∀ {H' : Hp} {d : Addr} {o : HO}, d ∉ D :: qs → Tch H' D qs fam → Tch (upd H' d o) D qs fam := fun {H' d o} hd t => t.gx (S := [d]) (Gx.refl.wrS (List.mem_singleton.mpr rfl)) fun b hb => by rw [List.mem_singleton.mp hb]; exact hd
        refine ⟨.ref wd, rfl, wd, od, rfl, .inl ⟨_, upd_same, ?_⟩⟩
        refine for_keysB (fun i σ H' => ∃ y3 rws2 ms2 fl2 chs2 st2, σ = [some (.ref x), some (.ref D), none, y3, y4', y5', some (.ref wd), some (.ref ch)] ∧ NSt K T.Narrowing.C Hb H' x sc ro ma sp sas cs rws2 ms2 fl2 st2 cap ∧ Goes rels cs sz n st2 ms2 ∧ Nv rels cs sz n rws2 ms2 fl2 ∧ (∀ i, (rws2.getD i []).length ≤ 300) ∧ Tch H' D qs fam ∧ H' wd = some (.frz od (.dK (kI ws))) ∧ H' ch = some (.dK (kI chs2)) ∧ Fo n ms1 [] ms2 chs2 ∧ RInv rels cs (ws.drop i) ms2 fl2 chs2)
          ⟨_, rws1, ms1, false, [], st1, rfl, B5.dct hwd5 (.inl ⟨_, rfl⟩) fwd _, G4, N4, few4, up1 offw T5, upd_same, by rw [upd_ne cwd]; exact hch5, .refl List.nodup_nil (fun p hp => by simp at hp), RI⟩
          (fun i σ H' _ hp => by
            obtain ⟨_, _, _, _, _, _, _, _, _, _, _, _, h, _⟩ := hp
            exact h) (fun i k v σ H6 ek hp => ?_) (fun σ H6 hp => ?_)
        · obtain ⟨w, ew, rfl⟩ := kI_at ek
          obtain ⟨y3, rws2, ms2, fl2, chs2, st2, rfl, B6, G6, N6, few6, T6, hwd6, hch6, F6, R6⟩ := hp
          obtain ⟨idx, rfl, hidx⟩ := wok w (List.mem_of_getElem? ew)
          obtain ⟨dx6, fs6, hx6, _, f1, f2, f3, f4, f5, f6, f7⟩ := id B6.hob
          have ed : ws.drop i = (idx : Int) :: ws.drop (i + 1) := by
            obtain ⟨h1, h2⟩ := List.getElem?_eq_some_iff.mp ew
            rw [List.drop_eq_getElem_cons h1, h2]
          rw [ed] at R6
          refine ⟨.ref x, rfl, x, dx6, fs6, rfl, hx6, f7, .int idx, rfl, .ref ch, rfl, Hb, x, sc, ro, ma, sp, ch, sas, rels, cs, rws2, ms2, fl2, st2, cap, sz, n, idx, chs2, rfl, B6, G6, N6, O, R, s4, cap9, hidx, few6, hch6, fch, F6.nd, F6.ok, fun H7 rws3 ms3 fl3 chs3 st3 g7 B7 G7 few7 hch7 FL => ?_⟩
          refine ⟨_, rws3, ms3, fl3, chs3, st3, rfl, B7, G7, FL.nv, few7, T6.gx g7 offx, g7.at (fun hm => ?_) hwd6 (fun _ z => by cases z), hch7, F6.trans FL.fo, R6.step FL.fo (fun e => ?_) fun idx' c e ec => ?_⟩
          · rcases List.mem_append.mp (show wd ∈ [x, ro, ma, sp] ++ [ch] from hm) with hm | hm
            · exact B6.off hwd6 (fun _ _ _ z => by cases z) (fun _ z => by cases z) hm
            · exact cwd (List.mem_singleton.mp hm).symm
          · subst e
            exact FL.fo.fails N6 FL.nv
          · have : idx = idx' := by omega
            subst this
            exact FL.cons c ec
        · obtain ⟨y3, rws2, ms2, fl2, chs2, st2, rfl, B6, G6, N6, few6, T6, hwd6, hch6, F6, R6⟩ := hp
          rw [kI_len, List.drop_length] at R6
          refine ⟨hwd6, ?_⟩
          have B7 := B6.dct hwd6 (.inr ⟨_, _, rfl⟩) fwd (.dK (kI ws))
          have T7 := up1 (o := .dK (kI ws)) offw T6
          have hch7 : (upd H6 wd (.dK (kI ws))) ch = some (.dK (kI chs2)) := by rw [upd_ne cwd]; exact hch6
          generalize upd H6 wd (.dK (kI ws)) = H7 at *
          -- who waits next
          refine ⟨ch, _, hch7, trivial, fun od2 => ?_⟩
          have B8 := B7.dct hch7 (.inl ⟨_, rfl⟩) fch (.frz od2 (.dK (kI chs2)))
          have T8 := up1 (o := .frz od2 (.dK (kI chs2))) offc T7
          have hch8 : (upd H7 ch (.frz od2 (.dK (kI chs2)))) ch = some (.frz od2 (.dK (kI chs2))) := upd_same
          generalize upd H7 ch (.frz od2 (.dK (kI chs2))) = H8 at *
          refine ⟨.ref ch, rfl, ch, od2, rfl, .inl ⟨_, hch8, fun D2 nD2 => ?_⟩⟩
          have inr : ∀ (chs' : List Int) y, y ∈ nextW fam chs' → (∀ p ∈ chs', 0 ≤ p ∧ p < (n : Int)) → ∃ idx : Nat, y = (idx : Int) ∧ idx < cs.length := fun chs' y hy hok => by
            obtain ⟨p, hp, h⟩ := mem_nextW.mp hy
            have := hok p hp
            obtain ⟨i', c, e1, e2, _⟩ := (I2.all (v := p.toNat) (by omega)).mp h
            exact ⟨i', e1, (List.getElem?_eq_some_iff.mp e2).1⟩
          refine lc_keysB (fun i H' => Gr H8 H' ∧ H' D2 = some (.dK (kI (nextW fam (chs2.take i))))) ⟨Gx.new nD2, upd_same⟩ (fun i H' _ h => Gx.at h.1 (by simp) hch8 fun _ z => by cases z) (fun i k v H' ek h => ?_) (fun H9 h => ?_)
          · obtain ⟨p, ep, rfl⟩ := kI_at ek
            obtain ⟨g9, hD2⟩ := h
            have hp := F6.ok p (List.mem_of_getElem? ep)
            obtain ⟨v', rfl⟩ := Int.eq_ofNat_of_zero_le hp.1
            have T9 := T8.gr g9
            have hq : qs[v']? = some qs[v'] := List.getElem?_eq_getElem (by omega)
            generalize qs[v'] = qv at hq
            have hqv := T9.hq v' qv hq
            have okt : ∀ q ∈ chs2.take (i + 1), 0 ≤ q ∧ q < (n : Int) := fun q hq => F6.ok q (List.mem_of_mem_take hq)
            have et : nextW fam (chs2.take (i + 1)) = addAll (nextW fam (chs2.take i)) (fam.getD v' []) := by
              rw [List.take_add_one, ep, Option.toList_some, nextW_snoc, Int.toNat_natCast]
            refine ⟨rfl, yesT ⟨.ref D, rfl, .int (v' : Int), rfl, D, _, (v' : Int), .ref qv, rfl, rfl, .inl (.inl T9.hp), atI_nat (by rw [List.getElem?_map, hq]; rfl), qv, rfl, ⟨_, .inl (.inl hqv)⟩, ?_⟩⟩
            refine lc_listB (K := K) (a := qv) (xs := (fam.getD v' []).map V.int) (fun j H'' => Gr H8 H'' ∧ H'' D2 = some (.dK (kI (addAll (nextW fam (chs2.take i)) ((fam.getD v' []).take j))))) ⟨g9, hD2⟩ (fun j H'' _ h => .inl (.inl ((T8.gr h.1).hq v' qv hq))) (fun j xj H'' ex h => ?_) (fun H'' h => ?_)
            · obtain ⟨g10, hD3⟩ := h
              rw [List.getElem?_map] at ex
              obtain ⟨y, ey, rfl⟩ := Option.map_eq_some_iff.mp ex
              refine ⟨rfl, yesT ⟨.int y, rfl, _, Sum.inl y, rfl, hD3, ?_, g10.wr nD2, ?_⟩⟩
              · rw [kI_len]
                have := nd_len (m := cs.length) (nd_addAll (ns := (fam.getD v' []).take j) (nd_nextW (fam := fam) (chs2.take i))) fun y hy => by
                  obtain ⟨idx, rfl, hi⟩ : ∃ idx : Nat, y = (idx : Int) ∧ idx < cs.length := by
                    rcases mem_addAll.mp hy with hy | hy
                    · exact inr _ _ hy fun q hq => F6.ok q (List.mem_of_mem_take hq)
                    · refine inr _ _ ?_ okt
                      rw [et]
                      exact mem_addAll.mpr (.inr (List.mem_of_mem_take hy))
                  omega
                exact small1000 (by omega)
              · rw [upd_same, kI_put, List.take_add_one, ey, Option.toList_some, addAll_snoc]
            · obtain ⟨g10, hD3⟩ := h
              rw [List.length_map, List.take_length] at hD3
              exact ⟨g10, by rw [et]; exact hD3⟩
          · obtain ⟨g9, hD2⟩ := h
            rw [kI_len, List.take_length] at hD2
            have hch9 := Gx.at g9 (by simp) hch8 fun _ z => by cases z
            have chD2 : D2 ≠ ch := fun z => by rw [z, hch8] at nD2; cases nD2
            have B9 := B8.gr g9
            refine ⟨hch9, ?_⟩
            refine ⟨cntF (famM ms2) + (if nextW fam chs2 = [] then 0 else 1), ?_, rws2, ms2, fl2, st2, nextW fam chs2, D2, _, _, _, _, rfl, rfl, B9.dct hch9 (.inr ⟨_, _, rfl⟩) fch _, G6, N6, few6, up1 offc (T8.gr g9), by rw [upd_ne chD2]; exact hD2, nd_nextW _, fun y hy => inr _ _ hy F6.ok, R6.next I2 (fun c hc => (O.ok c hc).sc), Gr.free B8.gb nD2⟩
            rcases F6.cnt with ⟨rfl, rfl⟩ | h
            · rw [if_pos (show nextW fam [] = [] from rfl)]
              omega
            · split <;> omega
      · have hf : fl1 = true := by simpa using hf
        subst hf
        exact ⟨.ref x, rfl, x, _, dx4, fs4, .bl true, rfl, hx4, cl, T.Narrowing.n_failed, e5, true, rfl, q H4 rws1 ms1 true st1 B4 G4 N4 (.inl rfl)⟩
    · have hne : ws = [] := by simpa using hne
      subst hne
      refine ⟨.ref x, rfl, x, _, dx4, fs4, .bl fl1, rfl, hx4, cl, T.Narrowing.n_failed, e5, fl1, rfl, q H4 rws1 ms1 fl1 st1 B4 G4 N4 ?_⟩
      rcases RI with h | h
      · exact .inl h
      · refine .inr fun c hc => ?_
        obtain ⟨idx, hi, e⟩ := List.mem_iff_getElem.mp hc
        rcases h idx c (by rw [List.getElem?_eq_getElem hi, e]) with k | ⟨_, _, k⟩ | k
        · simp at k
        · simp at k
        · exact k
end K15

set_option Elab.async false
set_option linter.all false
set_option maxRecDepth 100000
set_option maxHeartbeats 4000000
namespace K15
open PySem PySem.Spec PyProof.Rows L2 TK MR ZB
variable {P : Program} {w : World} {K : PySem.W.Frag} {mg : Str → Option Value} {base : Heap}
/-! Narrowing.__init__ -/
def relRows (rels : Rels) (cs : List Con) : List (List (List Int)) := cs.map fun c => (rels.getD c.1 (0, [])).2
theorem putF_le (f : Str) (v : V) : ∀ fs : List (Str × V), (putF f v fs).length ≤ fs.length + 1
  | [] => Nat.le_refl _
  | (g, u) :: fs => by
    show (if g = f then (g, v) :: fs else (g, u) :: putF f v fs).length ≤ _
    by_cases h : g = f
    · rw [if_pos h]
      exact Nat.le_succ _
    · rw [if_neg h, List.length_cons, List.length_cons]
      exact Nat.succ_le_succ (putF_le f v fs)
abbrev nF (sc ro ma sp : Addr) : List (Str × V) := putF "failed" (.bl false) (putF "steps" (.ref sp) (putF "masks" (.ref ma) (putF "rows" (.ref ro) (putF "scopes" (.ref sc) []))))
theorem nF_scopes (sc ro ma sp : Addr) : (nF sc ro ma sp).lookup ("scopes" : Str) = some (.ref sc) := by
  rw [lookup_putF, if_neg (by decide +kernel), lookup_putF, if_neg (by decide +kernel), lookup_putF, if_neg (by decide +kernel), lookup_putF, if_neg (by decide +kernel), lookup_putF, if_pos rfl]
theorem nF_rows (sc ro ma sp : Addr) : (nF sc ro ma sp).lookup ("rows" : Str) = some (.ref ro) := by
  rw [lookup_putF, if_neg (by decide +kernel), lookup_putF, if_neg (by decide +kernel), lookup_putF, if_neg (by decide +kernel), lookup_putF, if_pos rfl]
theorem nF_masks (sc ro ma sp : Addr) : (nF sc ro ma sp).lookup ("masks" : Str) = some (.ref ma) := by
  rw [lookup_putF, if_neg (by decide +kernel), lookup_putF, if_neg (by decide +kernel), lookup_putF, if_pos rfl]
theorem nF_steps (sc ro ma sp : Addr) : (nF sc ro ma sp).lookup ("steps" : Str) = some (.ref sp) := by
  rw [lookup_putF, if_neg (by decide +kernel), lookup_putF, if_pos rfl]
theorem nF_failed (sc ro ma sp : Addr) : (nF sc ro ma sp).lookup ("failed" : Str) = some (.bl false) := by
  rw [lookup_putF, if_pos rfl]
theorem nF_no (sc ro ma sp : Addr) {m : Str} (h1 : ¬ m = "failed") (h2 : ¬ m = "steps") (h3 : ¬ m = "masks") (h4 : ¬ m = "rows") (h5 : ¬ m = "scopes") : (nF sc ro ma sp).lookup m = none := by
  rw [lookup_putF, if_neg h1, lookup_putF, if_neg h2, lookup_putF, if_neg h3, lookup_putF, if_neg h4, lookup_putF, if_neg h5]
  rfl
theorem rep_ints (n : Nat) (m : Nat) : (List.replicate ((n : Nat) : Int).toNat [V.int ((m : Nat) : Int)]).flatten = (natL (List.replicate n m)).map V.int := by
  rw [Int.toNat_natCast]
  show _ = ((List.replicate n m).map _).map V.int
  induction n with
  | zero => rfl
  | succ n ih => rw [List.replicate_succ, List.replicate_succ, List.flatten_cons, ih]; rfl
def sp_init (K : PySem.W.Frag) (C : Addr) : Sp := fun vs H Q _ => ∃ (Hb : Hp) (x dx sz n : Nat) (v u : V) (rels : Rels) (cs : List Con), vs = [.ref x, v, u] ∧ H x = some (.ins C dx []) ∧ Hb x = none ∧ Gr Hb H ∧ (1 ≤ sz ∧ sz ≤ 4) ∧ DT K Hb v (tplD sz rels) ∧ DT K Hb u (insD n cs) ∧ InsOk rels n cs ∧ RelsOk sz rels ∧
  ∀ sc ro ma sp sas H', NSt K C Hb H' x sc ro ma sp sas cs (relRows rels cs) (List.replicate n (2 ^ sz - 1)) false [] (n * 4) → Q .non H'
theorem ok_init (T : Txt K mg base) : FnOk P w K mg base CX0 1 T.Narrowing.f_init T.Narrowing.fd_init p_Narrowing_init (sp_init K T.Narrowing.C) := by
  refine T.Narrowing.F_init.ok sc_Narrowing_init (fun vs H Q E h => ?_) (fun cdv A outer sh H vs Q E hr h => ?_)
  · obtain ⟨_, _, _, _, _, _, _, _, _, rfl, _⟩ := h
    rfl
  · obtain ⟨Hb, x, dx, sz, n, v, u, rels, cs, rfl, hx, fx, gb, hs, hv, hu, O, R, q⟩ := h
    refine ⟨_, (pss_cons (ps_fld (pv 0) (pe_lc (own := [("_", 3), ("scope", 4)]) (g := gTup K 2 (gCons (gName 3) (gCons (gName 4) gNil))) (tt := tYes) rfl sc_Narrowing_init.nd (pi_tupK K (pe_ix (ix_tupK K) (pv 2) pe_int (fun _ _ => rfl))) (blkOk_by (N := n_Narrowing_init) (sc := defScope s_Narrowing_init) (by decide +kernel)) (fun _ _ _ _ _ => pg_tup (by rfl) (pgs_cons (pg_name (i := 3) sc_Narrowing_init.nd rfl (Or.inl rfl)) (pgs_cons (pg_name (i := 4) sc_Narrowing_init.nd rfl (Or.inl rfl)) pgs_nil))) (fun _ _ _ _ _ => pts_nil) (fun _ _ _ _ _ => pv 4)) rfl) (pss_cons (ps_fld (pv 0) (pe_lc (own := [("index", 5), ("_", 3)]) (g := gTup K 2 (gCons (gName 5) (gCons (gName 3) gNil))) (tt := tYes) rfl sc_Narrowing_init.nd (pi_tupK K (pe_ix (ix_tupK K) (pv 2) pe_int (fun _ _ => rfl))) (blkOk_by (N := n_Narrowing_init) (sc := defScope s_Narrowing_init) (by decide +kernel)) (fun _ _ _ _ _ => pg_tup (by rfl) (pgs_cons (pg_name (i := 5) sc_Narrowing_init.nd rfl (Or.inl rfl)) (pgs_cons (pg_name (i := 3) sc_Narrowing_init.nd rfl (Or.inl rfl)) pgs_nil))) (fun _ _ _ _ _ => pts_nil) (fun _ _ _ _ _ => pe_ix (ix_tupK K) (pe_ix (ix_tupK K) (pe_ix (ix_tupK K) (pv 1) pe_int (fun _ _ => rfl)) (pv 5) (fun _ _ => rfl)) pe_int (fun _ _ => rfl))) rfl) (pss_cons (ps_fld (pv 0) (pe_op op_rep (pe_lst (pa_cons (pe_op op_sub (pe_op op_shl pe_int (pe_ix (ix_tupK K) (pv 1) pe_int (fun _ _ => rfl))) pe_int) pa_nil)) (pe_ix (ix_tupK K) (pv 2) pe_int (fun _ _ => rfl))) rfl) (pss_cons (ps_fld (pv 0) (pe_lst pa_nil) rfl) (pss_one (ps_fld (pv 0) pe_bl rfl)))))), ?_⟩
    have cl := T.Narrowing.cl
    have n16 := O.n16
    have csl := O.few
    obtain ⟨pu, bu, xs, rfl, hpu, hbu, hxs⟩ := pair_inv hu
    obtain ⟨pt, bt, ys, rfl, hpt, hbt, hys⟩ := tpl_inv hv
    have xl : xs.length = cs.length := by rw [hxs.1, List.length_map]
    have tb : ∀ {H' : Hp} {a : Addr} {zs : List V}, Gr Hb H' → Hb a = some (.tup zs) → SqT K H' a zs := fun g e => .inl (.inl (Gx.tupS g .nil e))
    have xm : x ∈ [x] := List.mem_singleton.mpr rfl
    -- scopes
    refine ⟨.ref pu, rfl, pu, _, 1, .ref bu, rfl, rfl, tb gb hpu, atI_nat (j := 1) rfl, bu, rfl, ⟨xs, tb gb hbu⟩, fun sc nsc => ?_⟩
    refine lc_tup (K := K) (a := bu) (xs := xs) (fun i H' => Gr H H' ∧ ∃ sas : List Addr, H' sc = some (.lst (sas.map V.ref)) ∧ sas.length = i ∧ ∀ (j : Nat) a c, sas[j]? = some a → cs[j]? = some c → Hb a = some (.tup ((natL c.2).map V.int))) ⟨Gx.new nsc, [], upd_same, rfl, fun j a c e => by simp at e⟩ (fun i H' _ h => tb (gb.trans h.1) hbu) (fun i y H' ex h => ?_) (fun H1 h => ?_)
    · obtain ⟨g, sas, hD, sl, sq⟩ := h
      obtain ⟨d, ed, dy⟩ := hxs.at' ex
      rw [List.getElem?_map] at ed
      obtain ⟨c, ec, rfl⟩ := Option.map_eq_some_iff.mp ed
      obtain ⟨pc, bc, rfl, hpc, hbc⟩ := con_inv dy
      have hi : i < cs.length := (List.getElem?_eq_some_iff.mp ec).1
      refine ⟨pc, _, rfl, tb (gb.trans g) hpc, rfl, .int c.1, [.ref bc], rfl, .ref bc, [], rfl, rfl, rfl, yesT ⟨.ref bc, rfl, _, hD, ?_, g.wr nsc, sas ++ [bc], by rw [upd_same, List.map_append]; rfl, by rw [List.length_append, sl]; rfl, fun j a c' ea ec' => ?_⟩⟩
      · rw [List.length_map]
        exact small1000 (by omega)
      · by_cases hj : j < sas.length
        · rw [List.getElem?_append_left hj] at ea
          exact sq j a c' ea ec'
        · have hj2 : j < sas.length + 1 := by
            have := (List.getElem?_eq_some_iff.mp ea).1
            rwa [List.length_append] at this
          have e : j = i := by omega
          subst e
          rw [List.getElem?_append_right (by omega), show j - sas.length = 0 by omega] at ea
          cases ea
          rw [ec] at ec'
          cases ec'
          exact hbc
    obtain ⟨g1, sas, hsc, sl, sq⟩ := h
    rw [xl] at sl
    have hx1 := Gx.at g1 (by simp) hx fun _ z => by cases z
    refine ⟨.ref x, rfl, x, _, dx, [], rfl, hx1, cl, T.Narrowing.n_scopes, by show 0 < 1000; decide, ?_⟩
    have scx : sc ≠ x := fun z => by rw [z, hx] at nsc; cases nsc
    have gx2 : Gx [x] H (upd H1 x (.ins T.Narrowing.C dx (putF "scopes" (.ref sc) []))) := g1.x.wrS xm
    have gb2 : Gr Hb (upd H1 x (.ins T.Narrowing.C dx (putF "scopes" (.ref sc) []))) := (gb.trans g1).wr fx
    have hx2 : (upd H1 x (.ins T.Narrowing.C dx (putF "scopes" (.ref sc) []))) x = some (.ins T.Narrowing.C dx (putF "scopes" (.ref sc) [])) := upd_same
    have hsc2 : (upd H1 x (.ins T.Narrowing.C dx (putF "scopes" (.ref sc) []))) sc = some (.lst (sas.map V.ref)) := by rw [upd_ne scx]; exact hsc
    generalize upd H1 x (.ins T.Narrowing.C dx (putF "scopes" (.ref sc) [])) = H2 at *
    -- rows
    refine ⟨.ref pu, rfl, pu, _, 1, .ref bu, rfl, rfl, tb gb2 hpu, atI_nat (j := 1) rfl, bu, rfl, ⟨xs, tb gb2 hbu⟩, fun ro nro => ?_⟩
    refine lc_tup (K := K) (a := bu) (xs := xs) (fun i H' => Gr H2 H' ∧ ∃ vs : List V, H' ro = some (.lst vs) ∧ vs.length = i ∧ ∀ (j : Nat) v c, vs[j]? = some v → cs[j]? = some c → ∃ ob zs, v = .ref ob ∧ Hb ob = some (.tup zs) ∧ DTs K Hb zs ((rels.getD c.1 (0, [])).2.map rowD)) ⟨Gx.new nro, [], upd_same, rfl, fun j a c e => by simp at e⟩ (fun i H' _ h => tb (gb2.trans h.1) hbu) (fun i y H' ex h => ?_) (fun H3 h => ?_)
    · obtain ⟨g, vs, hD, vl, vq⟩ := h
      obtain ⟨d, ed, dy⟩ := hxs.at' ex
      rw [List.getElem?_map] at ed
      obtain ⟨c, ec, rfl⟩ := Option.map_eq_some_iff.mp ed
      obtain ⟨pc, bc, rfl, hpc, hbc⟩ := con_inv dy
      have oc := O.ok c (List.mem_of_getElem? ec)
      obtain ⟨z, ez, dz⟩ := rel_at hys oc.ix
      obtain ⟨oa, ob, zs, rfl, ho1, ho2, ho3⟩ := pair_inv dz
      have hi : i < cs.length := (List.getElem?_eq_some_iff.mp ec).1
      have g' := gb2.trans g
      refine ⟨pc, _, rfl, tb g' hpc, rfl, .int c.1, [.ref bc], rfl, .ref bc, [], rfl, rfl, rfl, yesT ⟨.ref pt, rfl, pt, _, 1, .ref bt, rfl, rfl, tb g' hpt, atI_nat (j := 1) rfl, .int c.1, rfl, bt, ys, (c.1 : Int), .ref oa, rfl, rfl, tb g' hbt, atI_nat ez, oa, _, 1, _, rfl, rfl, tb g' ho1, atI_nat (j := 1) rfl, _, hD, ?_, g.wr nro, vs ++ [.ref ob], by rw [upd_same], by rw [List.length_append, vl]; rfl, fun j a c' ea ec' => ?_⟩⟩
      · exact small1000 (by omega)
      · by_cases hj : j < vs.length
        · rw [List.getElem?_append_left hj] at ea
          exact vq j a c' ea ec'
        · have hj2 : j < vs.length + 1 := by
            have := (List.getElem?_eq_some_iff.mp ea).1
            rwa [List.length_append] at this
          have e : j = i := by omega
          subst e
          rw [List.getElem?_append_right (by omega), show j - vs.length = 0 by omega] at ea
          cases ea
          rw [ec] at ec'
          cases ec'
          exact ⟨ob, zs, rfl, ho2, ho3⟩
    obtain ⟨g3, vs, hro, vl, vq⟩ := h
    rw [xl] at vl
    have hx3 := Gx.at g3 (by simp) hx2 fun _ z => by cases z
    have hsc3 := g3.lst hsc2
    have rox : ro ≠ x := fun z => by rw [z, hx2] at nro; cases nro
    have rosc : sc ≠ ro := fun z => by rw [← z, hsc2] at nro; cases nro
    have gb3 := gb2.trans g3
    have roH : Hb ro = none := Gr.free gb2 nro
    let f2 : List (Str × V) := putF "rows" (.ref ro) (putF "scopes" (.ref sc) [])
    have fl2 : f2.length ≤ 2 := Nat.le_trans (putF_le _ _ _) (Nat.succ_le_succ (putF_le _ _ _))
    refine ⟨.ref x, rfl, x, _, dx, _, rfl, hx3, cl, T.Narrowing.n_rows, Nat.lt_of_le_of_lt (putF_le _ _ _) (by show 0 + 1 < 1000; decide), ?_⟩
    have gb4 : Gr Hb (upd H3 x (.ins T.Narrowing.C dx f2)) := gb3.wr fx
    have hx4 : (upd H3 x (.ins T.Narrowing.C dx f2)) x = some (.ins T.Narrowing.C dx f2) := upd_same
    have hsc4 : (upd H3 x (.ins T.Narrowing.C dx f2)) sc = some (.lst (sas.map V.ref)) := by rw [upd_ne scx]; exact hsc3
    have hro4 : (upd H3 x (.ins T.Narrowing.C dx f2)) ro = some (.lst vs) := by rw [upd_ne rox]; exact hro
    have e2 : (putF "rows" (V.ref ro) (putF "scopes" (V.ref sc) []) : List (Str × V)) = f2 := rfl
    rw [e2]
    generalize upd H3 x (.ins T.Narrowing.C dx f2) = H4 at *
    -- masks
    have ev : (1 : Int) * 2 ^ ((sz : Nat) : Int).toNat - 1 = ((2 ^ sz - 1 : Nat) : Int) := by
      have h : ∀ sz, sz ≤ 4 → (1 : Int) * 2 ^ ((sz : Nat) : Int).toNat - 1 = ((2 ^ sz - 1 : Nat) : Int) := by decide +kernel
      exact h sz hs.2
    have em : (List.replicate ((n : Nat) : Int).toNat [V.int ((1 : Int) * 2 ^ ((sz : Nat) : Int).toNat - 1)]).flatten = (natL (List.replicate n (2 ^ sz - 1))).map V.int := by rw [ev, rep_ints]
    refine ⟨.ref pt, rfl, pt, _, 0, .int sz, rfl, rfl, tb gb4 hpt, atI_nat (j := 0) rfl, 1, (sz : Int), rfl, rfl, ⟨by omega, by omega, by decide⟩, _, _, rfl, rfl, by show 1 ≤ sizeLine; decide, fun l nl => ⟨.ref pu, rfl, pu, _, 0, .int n, rfl, rfl, tb (gb4.trans (Gx.new nl)) hpu, atI_nat (j := 0) rfl, l, (n : Int), _, rfl, rfl, upd_same, by omega, by omega, by show 1 * ((n : Nat) : Int).toNat ≤ sizeLine; rw [sizeLine_eq]; omega, fun ma nma => ?_⟩⟩
    have g45 : Gr H4 (upd (upd H4 l (.lst [V.int ((1 : Int) * 2 ^ ((sz : Nat) : Int).toNat - 1)])) ma (.lst (List.replicate ((n : Nat) : Int).toNat [V.int ((1 : Int) * 2 ^ ((sz : Nat) : Int).toNat - 1)]).flatten)) := (Gx.new nl).trans (Gx.new nma)
    have hma5 : (upd (upd H4 l (.lst [V.int ((1 : Int) * 2 ^ ((sz : Nat) : Int).toNat - 1)])) ma (.lst (List.replicate ((n : Nat) : Int).toNat [V.int ((1 : Int) * 2 ^ ((sz : Nat) : Int).toNat - 1)]).flatten)) ma = some (.lst ((natL (List.replicate n (2 ^ sz - 1))).map V.int)) := by rw [upd_same, em]
    have nma4 : H4 ma = none := Gr.free (Gx.new nl) nma
    generalize upd (upd H4 l (.lst [V.int ((1 : Int) * 2 ^ ((sz : Nat) : Int).toNat - 1)])) ma (.lst (List.replicate ((n : Nat) : Int).toNat [V.int ((1 : Int) * 2 ^ ((sz : Nat) : Int).toNat - 1)]).flatten) = H5 at *
    have hx5 := Gx.at g45 (by simp) hx4 fun _ z => by cases z
    have hsc5 := g45.lst hsc4
    have hro5 := g45.lst hro4
    have gb5 := gb4.trans g45
    have max : ma ≠ x := fun z => by rw [z, hx4] at nma4; cases nma4
    have masc : sc ≠ ma := fun z => by rw [← z, hsc4] at nma4; cases nma4
    have maro : ro ≠ ma := fun z => by rw [← z, hro4] at nma4; cases nma4
    have maH : Hb ma = none := Gr.free gb4 nma4
    let f3 : List (Str × V) := putF "masks" (.ref ma) f2
    have fl3 : f3.length ≤ 3 := Nat.le_trans (putF_le _ _ _) (Nat.succ_le_succ fl2)
    refine ⟨.ref x, rfl, x, _, dx, f2, rfl, hx5, cl, T.Narrowing.n_masks, by omega, ?_⟩
    have gb6 : Gr Hb (upd H5 x (.ins T.Narrowing.C dx f3)) := gb5.wr fx
    have hx6 : (upd H5 x (.ins T.Narrowing.C dx f3)) x = some (.ins T.Narrowing.C dx f3) := upd_same
    have hsc6 : (upd H5 x (.ins T.Narrowing.C dx f3)) sc = some (.lst (sas.map V.ref)) := by rw [upd_ne scx]; exact hsc5
    have hro6 : (upd H5 x (.ins T.Narrowing.C dx f3)) ro = some (.lst vs) := by rw [upd_ne rox]; exact hro5
    have hma6 : (upd H5 x (.ins T.Narrowing.C dx f3)) ma = some (.lst ((natL (List.replicate n (2 ^ sz - 1))).map V.int)) := by rw [upd_ne max]; exact hma5
    have e3 : (putF "masks" (V.ref ma) f2 : List (Str × V)) = f3 := rfl
    rw [e3]
    generalize upd H5 x (.ins T.Narrowing.C dx f3) = H6 at *
    -- steps
    refine ⟨Nat.zero_le _, fun sp nsp => ?_⟩
    have g67 : Gr H6 (upd H6 sp (.lst [])) := Gx.new nsp
    have hsp7 : (upd H6 sp (.lst [])) sp = some (.lst []) := upd_same
    have spx : sp ≠ x := fun z => by rw [z, hx6] at nsp; cases nsp
    have spsc : sc ≠ sp := fun z => by rw [← z, hsc6] at nsp; cases nsp
    have spro : ro ≠ sp := fun z => by rw [← z, hro6] at nsp; cases nsp
    have spma : ma ≠ sp := fun z => by rw [← z, hma6] at nsp; cases nsp
    have spH : Hb sp = none := Gr.free gb6 nsp
    have hx7 := Gx.at g67 (by simp) hx6 fun _ z => by cases z
    have hsc7 := g67.lst hsc6
    have hro7 := g67.lst hro6
    have hma7 := g67.lst hma6
    have gb7 := gb6.trans g67
    generalize upd H6 sp (.lst []) = H7 at *
    let f4 : List (Str × V) := putF "steps" (.ref sp) f3
    have fl4 : f4.length ≤ 4 := Nat.le_trans (putF_le _ _ _) (Nat.succ_le_succ fl3)
    refine ⟨.ref x, rfl, x, _, dx, f3, rfl, hx7, cl, T.Narrowing.n_steps, by omega, ?_⟩
    have hx8 : (upd H7 x (.ins T.Narrowing.C dx f4)) x = some (.ins T.Narrowing.C dx f4) := upd_same
    have e4 : (putF "steps" (V.ref sp) f3 : List (Str × V)) = f4 := rfl
    rw [e4]
    refine ⟨.ref x, rfl, x, _, dx, f4, rfl, hx8, cl, T.Narrowing.n_failed, by omega, ?_⟩
    have fl5 : (nF sc ro ma sp).length ≤ 5 := Nat.le_trans (putF_le _ _ _) (Nat.succ_le_succ fl4)
    have up2 : ∀ {b : Addr} {o : HO}, b ≠ x → H7 b = some o → (upd (upd H7 x (.ins T.Narrowing.C dx f4)) x (.ins T.Narrowing.C dx (putF "failed" (.bl false) f4))) b = some o := fun hb e => by rw [upd_ne hb, upd_ne hb]; exact e
    refine q sc ro ma sp sas _ ⟨⟨dx, _, upd_same, fl5, nF_scopes sc ro ma sp, nF_rows sc ro ma sp, nF_masks sc ro ma sp, nF_steps sc ro ma sp, nF_failed sc ro ma sp, nF_no sc ro ma sp (by decide +kernel) (by decide +kernel) (by decide +kernel) (by decide +kernel) (by decide +kernel), nF_no sc ro ma sp (by decide +kernel) (by decide +kernel) (by decide +kernel) (by decide +kernel) (by decide +kernel)⟩, (gb7.wr fx).wr fx, fun b hb => ?_, ⟨rosc, masc, spsc, maro, spro, spma⟩, up2 scx hsc7, sl, sq, ⟨vs, up2 rox hro7, by unfold relRows; rw [vl, List.length_map], fun i v e => ?_⟩, up2 max hma7, ⟨[], up2 spx hsp7, ?_, .nil⟩⟩
    · simp only [List.mem_cons, List.not_mem_nil, or_false] at hb
      rcases hb with rfl | rfl | rfl | rfl
      · exact fx
      · exact roH
      · exact maH
      · exact spH
    · have hi : i < cs.length := by
        have := (List.getElem?_eq_some_iff.mp e).1
        omega
      have ec : cs[i]? = some cs[i] := List.getElem?_eq_getElem hi
      obtain ⟨ob, zs, rfl, h1, h2⟩ := vq i v _ e ec
      have er : (relRows rels cs).getD i [] = (rels.getD (cs[i]).1 (0, [])).2 := by
        unfold relRows
        rw [List.getD_eq_getElem?_getD, List.getElem?_map, ec]
        rfl
      rw [er]
      have g9 : Gr Hb (upd (upd H7 x (.ins T.Narrowing.C dx f4)) x (.ins T.Narrowing.C dx (putF "failed" (.bl false) f4))) := (gb7.wr fx).wr fx
      refine ⟨⟨ob, true, zs, rfl, tb g9 h1, DTs.gr g9 h2⟩, fun a ea hm => ?_⟩
      cases ea
      simp only [List.mem_cons, List.not_mem_nil, or_false] at hm
      rcases hm with rfl | rfl | rfl | rfl
      · rw [fx] at h1; cases h1
      · rw [roH] at h1; cases h1
      · rw [maH] at h1; cases h1
      · rw [spH] at h1; cases h1
    · have := cnt_famM (ms := List.replicate n (2 ^ sz - 1))
      rw [List.length_replicate] at this
      simpa using this
/-! arc_domains -/
def famD (f : List (List Int)) : PyData := .tuple (f.map rowD)
theorem start_few {rels : Rels} {cs : List Con} {sz n : Nat} (O : InsOk rels n cs) (R : RelsOk sz rels) (i : Nat) : ((relRows rels cs).getD i []).length ≤ 300 := by
  unfold relRows
  rw [List.getD_eq_getElem?_getD, List.getElem?_map]
  cases e : cs[i]? with
  | none => exact Nat.zero_le _
  | some c =>
    have := (R.ok _ (List.mem_of_getElem? (rels_get (O.ok c (List.mem_of_getElem? e)).ix))).2
    show (rels.getD c.1 (0, [])).2.length ≤ 300
    omega
def sp_arc_domains (T : Txt K mg base) : Sp := fun vs H Q _ => ∃ (sz n : Nat) (v u : V) (rels : Rels) (cs : List Con), vs = [v, u] ∧ (1 ≤ sz ∧ sz ≤ 4) ∧ DT K H v (tplD sz rels) ∧ DT K H u (insD n cs) ∧ InsOk rels n cs ∧ RelsOk sz rels ∧ TT T.tabs H ∧
  ∀ z H', Gr H H' → (∀ t f, FamSt rels cs sz n t f → ConsF rels cs f → ([] ∈ f ∧ z = .non) ∨ ([] ∉ f ∧ DT K H' z (famD f))) → Q z H'
theorem ok_arc_domains (T : Txt K mg base) : FnOk P w K mg base CX0 9 T.arc_domains.f T.arc_domains.fd p_arc_domains (sp_arc_domains T) := by
  refine T.arc_domains.F.ok sc_arc_domains (fun vs H Q E h => ?_) (fun A outer s H vs Q E hr h => ?_)
  · obtain ⟨_, _, _, _, _, _, rfl, _⟩ := h
    rfl
  · obtain ⟨sz, n, v, u, rels, cs, rfl, hs, hv, hu, O, R, hT, q⟩ := h
    refine ⟨_, (pss_cons (ps_expr (pe_call (ok_check_template T) hr (by rfl) T.check_template.g T.check_template.F.kp T.check_template.b .nil pass0 (pa_cons (pv 0) pa_nil))) (pss_cons (ps_expr (pe_call (ok_check_instance T) (hr.mono (by decide)) (by rfl) T.check_instance.g T.check_instance.F.kp T.check_instance.b .nil pass0 (pa_cons (pv 0) (pa_cons (pv 1) pa_nil)))) (pss_cons (ps_set (i := 2) sc_arc_domains.nd rfl (by first | exact .inl rfl | exact .inr rfl) (pe_make T.Narrowing.make (ok_init T) (hr.mono (by decide)) (by rfl) T.Narrowing.g T.Narrowing.b_init .nil pass0 (pa_cons (pv 0) (pa_cons (pv 1) pa_nil)))) (pss_cons (ps_if (pt_not (pt_val (pe_meth0 (pv 2) T.Narrowing.cl T.Narrowing.h_run (ok_run T) (hr.mono (by decide)) T.Narrowing.b_run .nil pass0))) (pss_one (ps_ret pe_non)) pss_nil) (pss_one (ps_ret (pe_callTy (call_tuple_ofK K) (by rfl) T.b_tuple boot_tuple (pa_cons (pe_lc (own := [("mask", 3)]) (g := gName 3) (tt := tYes) rfl sc_arc_domains.nd (pi_listK K (pe_fldK K (pv 2) rfl)) (blkOk_by (N := n_arc_domains) (sc := defScope s_arc_domains) (by decide +kernel)) (fun _ _ _ _ _ => pg_name (i := 3) sc_arc_domains.nd rfl (Or.inl rfl)) (fun _ _ _ _ _ => pts_nil) (fun _ _ _ _ _ => (pe_callTy (call_tuple_ofK K) (by rfl) T.b_tuple boot_tuple (pa_cons ((pe_call (ok_values_of T) (hr.mono (by decide)) (by rfl) T.values_of.g T.values_of.F.kp T.values_of.b .nil pass0 (pa_cons (pv 3) pa_nil))) pa_nil)))) pa_nil)))))))), ?_⟩
    have cl := T.Narrowing.cl
    refine ⟨v, rfl, sz, v, rels, rfl, hs, hv, R, hT, fun H1 g1 => ?_⟩
    refine ⟨v, rfl, u, rfl, sz, n, v, u, rels, cs, rfl, hv.gr g1, hu.gr g1, O, R, g1.tt hT, fun H2 g2 => ?_⟩
    have g02 := g1.trans g2
    refine ⟨v, rfl, u, rfl, fun x dx nx ndx nex => ?_⟩
    have g3 : Gr H2 (upd (upd H2 dx (.own x)) x (.ins T.Narrowing.C dx [])) := (Gx.new ndx).trans (Gx.new (by rw [upd_ne nex.symm]; exact nx))
    have hx3 : (upd (upd H2 dx (.own x)) x (.ins T.Narrowing.C dx [])) x = some (.ins T.Narrowing.C dx []) := upd_same
    generalize upd (upd H2 dx (.own x)) x (.ins T.Narrowing.C dx []) = H3 at *
    refine ⟨H2, x, dx, sz, n, v, u, rels, cs, rfl, hx3, nx, g3, hs, hv.gr g02, hu.gr g02, O, R, fun sc ro ma sp sas H4 B4 => ⟨rfl, ?_⟩⟩
    obtain ⟨dx4, fs4, hx4, _, c1, c2, c3, c4, c5, c6, c7⟩ := id B4.hob
    have n16 := O.n16
    refine ⟨.ref x, rfl, x, dx4, fs4, rfl, hx4, c6, H2, x, sc, ro, ma, sp, sas, rels, cs, _, _, _, n * 4, sz, n, rfl, B4, .start hs.1 hs.2, .start hs.1 hs.2, O, R, hs.2, by omega, start_few O R, fun H5 rws ms fl stp B5 G5 N5 hc => ⟨!fl, rfl, ?_⟩⟩
    have g05 := g02.trans B5.gb
    refine ite2 (fun hf => ?_) (fun hf => ?_)
    · have hf : fl = true := by simpa using hf
      subst hf
      exact q .non H5 g05 fun t f hF cF => .inl ⟨N5.fail hF cF, rfl⟩
    · have hf : fl = false := by simpa using hf
      subst hf
      have hc : ∀ c ∈ cs, consC rels ms c := hc.resolve_left (by simp)
      obtain ⟨dx5, fs5, hx5, _, d1, d2, d3, d4, d5, d6, d7⟩ := id B5.hob
      have l16 : allLt ms 16 := fun j => mask16 (N5.lt j) hs.2
      refine ⟨.ref x, rfl, x, _, dx5, fs5, .ref ma, rfl, hx5, cl, T.Narrowing.n_masks, d3, ma, rfl, ⟨_, .inl (.inl B5.hma)⟩, fun L nL => ?_⟩
      refine lc_list (K := K) (a := ma) (xs := (natL ms).map V.int) (fun i H' => Gr H5 H' ∧ LR K H' L ((famM ms).take i)) ⟨Gx.new nL, [], upd_same, .nil⟩ (fun i H' _ h => .inl (.inl (h.1.lst B5.hma))) (fun i xv H' ex h => ?_) (fun H6 h => ?_)
      · obtain ⟨g6, ws, hL, hws⟩ := h
        rw [List.getElem?_map, List.getElem?_map] at ex
        obtain ⟨z, ez, rfl⟩ := Option.map_eq_some_iff.mp ex
        obtain ⟨m, em, rfl⟩ := Option.map_eq_some_iff.mp ez
        have hi : i < ms.length := (List.getElem?_eq_some_iff.mp em).1
        have hm : m < 16 := by
          have := l16 i
          rw [List.getD_eq_getElem?_getD, em] at this
          exact this
        refine ⟨rfl, yesT ⟨.int m, rfl, m, rfl, hm, fun p H7 g7 np hp => ⟨p, _, rfl, .inl ⟨.inl (.inl hp), fun l nl => ?_⟩⟩⟩⟩
        have g8 : Gr H7 (upd H7 l (.tup ((valsM m).map V.int))) := Gx.new nl
        have hL8 := (g7.trans g8).lst hL
        have hl8 : (upd H7 l (.tup ((valsM m).map V.int))) l = some (.tup ((valsM m).map V.int)) := upd_same
        generalize upd H7 l (.tup ((valsM m).map V.int)) = H8 at *
        have g68 := g6.trans (g7.trans g8)
        refine ⟨ws, hL8, ?_, g68.wr nL, ws ++ [.ref l], upd_same, ?_⟩
        · rw [hws.1, List.length_map, List.length_take]
          have := N5.ml
          exact small1000 (by omega)
        · have ef : (famM ms)[i]? = some (valsM m) := by unfold famM; rw [List.getElem?_map, em]; rfl
          rw [List.take_add_one, ef, Option.toList_some]
          exact LR.app ((hws.gr (g7.trans g8)).wr hL8) (DT.wr hL8 (.row hl8))
      · obtain ⟨g6, ws, hL, hws⟩ := h
        rw [List.length_map, List.length_map, ← famM_len (ms := ms), List.take_length] at hws
        refine ⟨L, ws, rfl, .inl ⟨.inl (.inl hL), fun t nt => ?_⟩⟩
        have gt : Gr H6 (upd H6 t (.tup ws)) := Gx.new nt
        refine q (.ref t) _ (g05.trans (g6.trans gt)) fun t' f hF cF => ?_
        obtain ⟨e1, e2⟩ := N5.done hs.2 hc hF cF
        refine .inr ⟨e2, ?_⟩
        rw [e1]
        exact .mk upd_same (hws.gr gt)
end K15

set_option Elab.async false
set_option linter.all false
set_option maxRecDepth 100000
set_option maxHeartbeats 4000000
namespace K15
open PySem PySem.Spec PyProof.Rows L2 TK MR ZB
variable {P : Program} {w : World} {K : PySem.W.Frag} {mg : Str → Option Value} {base : Heap}
/-! refusals by arcs: arc_refusal, _is_arc_step, _takes_value -/
/-- is no integer from 0 to sz - 1 -/
def NoInt (K : PySem.W.Frag) (H : Hp) (sz : Int) (x : V) : Prop := (∃ i : Int, x = .int i ∧ ¬ (0 ≤ i ∧ i ≤ sz - 1)) ∨ ∃ (ty : String) (b : Bool), (∀ H', Gr H H' → TyX K H' x (.type ty)) ∧ kitB ty "int" = some b ∧ (b = true → kitB ty "bool" = some true)
theorem NoInt.gr {H H' : Hp} {sz : Int} {x : V} (g : Gr H H') (h : NoInt K H sz x) : NoInt K H' sz x := h.imp_right fun ⟨ty, b, h1, h2⟩ => ⟨ty, b, fun H2 g2 => h1 H2 (g.trans g2), h2⟩
def sp_is_integer_no (K : PySem.W.Frag) : Sp := fun vs H Q _ => ∃ (x : V) (sz : Int), vs = [x, .int 0, .int (sz - 1)] ∧ NoInt K H sz x ∧ Q (.bl false) H
theorem ok_is_integer_no (T : Txt K mg base) : FnOk P w K mg base CX0 1 T.is_integer.f T.is_integer.fd p_is_integer (sp_is_integer_no K) := by
  refine T.is_integer.F.ok sc_is_integer (fun vs H Q E h => ?_) (fun A outer s H vs Q E hr h => ?_)
  · obtain ⟨_, _, rfl, _⟩ := h
    rfl
  · obtain ⟨x, sz, rfl, hx, q⟩ := h
    refine ⟨_, (pss_one (ps_ret (pe_and (pe_callB call_isi (by rfl) T.b_isinstance boot_isinstance (pa_cons (pv 0) (pa_cons (pe_bltn (v := .ty "int") (by rfl) T.b_int boot_int rfl) pa_nil)))
      (pe_and (pe_not (pe_callB call_isi (by rfl) T.b_isinstance boot_isinstance (pa_cons (pv 0) (pa_cons (pe_bltn (v := .ty "bool") (by rfl) T.b_bool boot_bool rfl) pa_nil))))
        (pe_one (pe_chain op_le op_le (pv 1) (pv 0) (pv 2))))))), ?_⟩
    rcases hx with ⟨v, rfl, hv⟩ | ⟨ty, b, ht, hb, hbb⟩
    · refine ⟨.int v, rfl, .int v, .ty "int", _, _, true, rfl, .ty _, .base (.int v), kit_ty (by decide +kernel), true, rfl, iteT ?_⟩
      refine ⟨.int v, rfl, .int v, .ty "bool", _, _, false, rfl, .ty _, .base (.int v), kit_ty (by decide +kernel), false, rfl, true, rfl, iteT ?_⟩
      refine ⟨.int 0, rfl, .int v, rfl, 0, v, rfl, rfl, _, rfl, ?_⟩
      by_cases h1 : 0 ≤ v
      · rw [if_pos (decide_eq_true h1)]
        refine ⟨.int (sz - 1), rfl, v, sz - 1, rfl, rfl, ?_⟩
        show Q (.bl (decide (v ≤ sz - 1))) H
        rw [decide_eq_false fun z => hv ⟨h1, z⟩]
        exact q
      · rw [if_neg (by simp [h1])]
        exact q
    · have hx := ht H Gx.refl
      refine ⟨x, rfl, x, .ty "int", _, _, b, rfl, .ty _, hx, kit_ty hb, b, rfl, ?_⟩
      cases b with
      | false => exact iteF q
      | true => exact iteT ⟨x, rfl, x, .ty "bool", _, _, true, rfl, .ty _, hx, kit_ty (hbb rfl), true, rfl, false, rfl, iteF q⟩
theorem ok_is_integer2 (T : Txt K mg base) : FnOk P w K mg base CX0 1 T.is_integer.f T.is_integer.fd p_is_integer (fun vs H Q E => sp_is_integer vs H Q E ∨ sp_is_integer_no K vs H Q E) := fn_or (ok_is_integer T) (ok_is_integer_no T)
theorem isI {v lo hi : Int} {H : Hp} {Q : VK} {E : XK} (h : lo ≤ v ∧ v ≤ hi) (q : Q (.bl true) H) : sp_is_integer [.int v, .int lo, .int hi] H Q E := ⟨v, lo, hi, rfl, by rw [decide_eq_true h]; exact q⟩
/-- is no tuple -/
def NoTup (K : PySem.W.Frag) (H : Hp) (x : V) : Prop := ∃ ty : String, (∀ H', Gr H H' → TyX K H' x (.type ty)) ∧ kitB ty "tuple" = some false
theorem NoTup.gr {H H' : Hp} {x : V} (g : Gr H H') (h : NoTup K H x) : NoTup K H' x := let ⟨ty, h1, h2⟩ := h; ⟨ty, fun H2 g2 => h1 H2 (g.trans g2), h2⟩
def sp_is_tupleX (K : PySem.W.Frag) : Sp := fun vs H Q _ => ∃ (v : V) (lo hi : Int) (b : Bool), vs = [v, .int lo, .int hi] ∧ ((NoTup K H v ∧ b = false) ∨ ∃ a xs, v = .ref a ∧ SqT K H a xs ∧ b = decide (lo ≤ (xs.length : Int) ∧ (xs.length : Int) ≤ hi)) ∧ Q (.bl b) H
theorem ok_is_tupleX (T : Txt K mg base) : FnOk P w K mg base CX0 1 T.is_tuple.f T.is_tuple.fd p_is_tuple (sp_is_tupleX K) := by
  refine T.is_tuple.F.ok sc_is_tuple (fun vs H Q E h => ?_) (fun A outer s H vs Q E hr h => ?_)
  · obtain ⟨_, _, _, _, rfl, _⟩ := h
    rfl
  · obtain ⟨v, lo, hi, b, rfl, hv, q⟩ := h
    refine ⟨_, (pss_one (ps_ret (pe_and (pe_callB call_isi (by rfl) T.b_isinstance boot_isinstance (pa_cons (pv 0) (pa_cons (pe_bltn (v := .ty "tuple") (by rfl) T.b_tuple boot_tuple rfl) pa_nil)))
        (pe_one (pe_chain op_le op_le (pv 1) (pe_callB call_len_seq (by rfl) T.b_len PySem.boot_len (pa_cons (pv 0) pa_nil)) (pv 2)))))), ?_⟩
    rcases hv with ⟨⟨ty, ht, hk⟩, rfl⟩ | ⟨a, xs, rfl, hS, rfl⟩
    · exact ⟨v, rfl, v, .ty "tuple", _, _, false, rfl, .ty _, ht H Gx.refl, kit_ty hk, false, rfl, iteF q⟩
    · refine ⟨.ref a, rfl, .ref a, .ty "tuple", _, _, true, rfl, .ty _, tyT hS, kit_ty (by decide +kernel), true, rfl, iteT ?_⟩
      refine ⟨.int lo, rfl, .ref a, rfl, a, xs, rfl, .inr hS, lo, _, rfl, rfl, _, rfl, ?_⟩
      by_cases h1 : lo ≤ (xs.length : Int)
      · rw [if_pos (decide_eq_true h1)]
        refine ⟨.int hi, rfl, _, hi, rfl, rfl, ?_⟩
        have e : decide (lo ≤ (xs.length : Int) ∧ (xs.length : Int) ≤ hi) = decide ((xs.length : Int) ≤ hi) := by simp [h1]
        rw [e] at q
        exact q
      · rw [if_neg (by simp [h1])]
        have e : decide (lo ≤ (xs.length : Int) ∧ (xs.length : Int) ≤ hi) = false := by simp [h1]
        rw [e] at q
        exact q
theorem four {a : Addr} {v1 v2 v3 v4 : V} {H : Hp} {Q : VK} {E : XK} (ha : H a = some (.tup [v1, v2, v3, v4])) (q : Q (.bl true) H) : sp_is_tupleX K [.ref a, .int 4, .int 4] H Q E := ⟨.ref a, 4, 4, true, rfl, .inr ⟨a, _, rfl, .inl (.inl ha), rfl⟩, q⟩
theorem ins_at {H : Hp} {u : V} {n : Nat} {cs : List Con} {i : Nat} {c : Con} (hu : DT K H u (insD n cs)) (e : cs[i]? = some c) : ∃ pu bu xs pc bc, u = .ref pu ∧ H pu = some (.tup [.int n, .ref bu]) ∧ H bu = some (.tup xs) ∧ xs.length = cs.length ∧ xs[i]? = some (.ref pc) ∧ H pc = some (.tup [.int c.1, .ref bc]) ∧ H bc = some (.tup ((natL c.2).map V.int)) := by
  obtain ⟨pu, bu, xs, rfl, hpu, hbu, hxs⟩ := pair_inv hu
  obtain ⟨v, ev, dv⟩ := hxs.at (i := i) (d := conD c) (by rw [List.getElem?_map, e]; rfl)
  obtain ⟨pc, bc, rfl, h1, h2⟩ := con_inv dv
  exact ⟨pu, bu, xs, pc, bc, rfl, hpu, hbu, by rw [hxs.1, List.length_map], ev, h1, h2⟩
/-! _is_arc_step -/
inductive OddS (K : PySem.W.Frag) (H : Hp) (n sz : Nat) (cs : List Con) (x : V) : Prop
  | no (h : NoTup K H x)
  | len (a : Addr) (xs : List V) (e : x = .ref a) (h : H a = some (.tup xs)) (k : xs.length ≠ 4)
  | b1 (a : Addr) (v1 v2 v3 v4 : V) (e : x = .ref a) (h : H a = some (.tup [v1, v2, v3, v4])) (k : NoInt K H n v1)
  | b2 (a : Addr) (i : Nat) (v2 v3 v4 : V) (e : x = .ref a) (h : H a = some (.tup [.int i, v2, v3, v4])) (hi : i < n) (k : NoInt K H sz v2)
  | b3 (a : Addr) (i j : Nat) (v3 v4 : V) (e : x = .ref a) (h : H a = some (.tup [.int i, .int j, v3, v4])) (hi : i < n) (hj : j < sz) (k : NoInt K H cs.length v3)
  | b4 (a : Addr) (i j l : Nat) (v4 : V) (c : Con) (e : x = .ref a) (h : H a = some (.tup [.int i, .int j, .int l, v4])) (hi : i < n) (hj : j < sz) (hc : cs[l]? = some c) (k : NoInt K H c.2.length v4)
theorem OddS.gr {H H' : Hp} {n sz : Nat} {cs : List Con} {x : V} (g : Gr H H') (h : OddS K H n sz cs x) : OddS K H' n sz cs x := by
  cases h with
  | no h => exact .no (h.gr g)
  | len a xs e h k => exact .len a xs e (Gx.tupS g .nil h) k
  | b1 a v1 v2 v3 v4 e h k => exact .b1 a v1 v2 v3 v4 e (Gx.tupS g .nil h) (k.gr g)
  | b2 a i v2 v3 v4 e h hi k => exact .b2 a i v2 v3 v4 e (Gx.tupS g .nil h) hi (k.gr g)
  | b3 a i j v3 v4 e h hi hj k => exact .b3 a i j v3 v4 e (Gx.tupS g .nil h) hi hj (k.gr g)
  | b4 a i j l v4 c e h hi hj hc k => exact .b4 a i j l v4 c e (Gx.tupS g .nil h) hi hj hc (k.gr g)
def StepIn (cs : List Con) (sz n : Nat) (s : Stp) : Prop := InS cs sz n s ∧ s.p < (cs.getD s.i (0, [])).2.length
def sp_is_arc_step (K : PySem.W.Frag) : Sp := fun vs H Q _ => ∃ (sz n : Nat) (v u x : V) (rels : Rels) (cs : List Con) (b : Bool), vs = [v, u, x] ∧ DT K H v (tplD sz rels) ∧ DT K H u (insD n cs) ∧ ((b = true ∧ ∃ s, DT K H x (rowD (stR s)) ∧ StepIn cs sz n s) ∨ (b = false ∧ OddS K H n sz cs x)) ∧ Q (.bl b) H
theorem ok_is_arc_step (T : Txt K mg base) : FnOk P w K mg base CX0 2 T.is_arc_step.f T.is_arc_step.fd p_is_arc_step (sp_is_arc_step K) := by
  refine T.is_arc_step.F.ok sc_is_arc_step (fun vs H Q E h => ?_) (fun A outer s H vs Q E hr h => ?_)
  · obtain ⟨_, _, _, _, _, _, _, _, rfl, _⟩ := h
    rfl
  · obtain ⟨sz, n, v, u, x, rels, cs, b, rfl, hv, hu, hx, q⟩ := h
    refine ⟨_, (pss_cons (ps_if (pt_not (pt_val (pe_call (ok_is_tupleX T) (hr.mono (by decide)) (by rfl) T.is_tuple.g T.is_tuple.F.kp T.is_tuple.b .nil pass0 (pa_cons (pv 2) (pa_cons (pe_int) (pa_cons (pe_int) pa_nil)))))) (pss_one (ps_ret pe_bl)) pss_nil) (pss_cons (ps_asg (pv 2) (pg_tup (by rfl) (pgs_cons (pg_name (i := 3) sc_is_arc_step.nd rfl (by first | exact .inl rfl | exact .inr rfl)) (pgs_cons (pg_name (i := 4) sc_is_arc_step.nd rfl (by first | exact .inl rfl | exact .inr rfl)) (pgs_cons (pg_name (i := 5) sc_is_arc_step.nd rfl (by first | exact .inl rfl | exact .inr rfl)) (pgs_cons (pg_name (i := 6) sc_is_arc_step.nd rfl (by first | exact .inl rfl | exact .inr rfl)) pgs_nil)))))) (pss_cons (ps_if (PW.pt (pw_or (pt_not (pt_val (pe_call (ok_is_integer2 T) (hr.mono (by decide)) (by rfl) T.is_integer.g T.is_integer.F.kp T.is_integer.b .nil pass0 (pa_cons (pv 3) (pa_cons (pe_int) (pa_cons (pe_op op_sub (pe_ix (ix_tupK K) (pv 1) pe_int (fun _ _ => rfl)) pe_int) pa_nil)))))) (pw_or1 (pt_not (pt_val (pe_call (ok_is_integer2 T) (hr.mono (by decide)) (by rfl) T.is_integer.g T.is_integer.F.kp T.is_integer.b .nil pass0 (pa_cons (pv 4) (pa_cons (pe_int) (pa_cons (pe_op op_sub (pe_ix (ix_tupK K) (pv 0) pe_int (fun _ _ => rfl)) pe_int) pa_nil))))))))) (pss_one (ps_ret pe_bl)) pss_nil) (pss_cons (ps_if (pt_not (pt_val (pe_call (ok_is_integer2 T) (hr.mono (by decide)) (by rfl) T.is_integer.g T.is_integer.F.kp T.is_integer.b .nil pass0 (pa_cons (pv 5) (pa_cons (pe_int) (pa_cons (pe_op op_sub (pe_callB (call_len_seqK K) (by rfl) T.b_len PySem.boot_len (pa_cons (pe_ix (ix_tupK K) (pv 1) pe_int (fun _ _ => rfl)) pa_nil)) pe_int) pa_nil)))))) (pss_one (ps_ret pe_bl)) pss_nil) (pss_one (ps_ret (pe_call (ok_is_integer2 T) (hr.mono (by decide)) (by rfl) T.is_integer.g T.is_integer.F.kp T.is_integer.b .nil pass0 (pa_cons (pv 6) (pa_cons (pe_int) (pa_cons (pe_op op_sub (pe_callB (call_len_seqK K) (by rfl) T.b_len PySem.boot_len (pa_cons (pe_ix (ix_tupK K) (pe_ix (ix_tupK K) (pe_ix (ix_tupK K) (pv 1) pe_int (fun _ _ => rfl)) (pv 5) (fun _ _ => rfl)) pe_int (fun _ _ => rfl)) pa_nil)) pe_int) pa_nil)))))))))), ?_⟩
    obtain ⟨pu, bu, xs, rfl, hpu, hbu, hxs⟩ := pair_inv hu
    obtain ⟨pt, bt, ys, rfl, hpt, hbt, hys⟩ := tpl_inv hv
    have xl : xs.length = cs.length := by rw [hxs.1, List.length_map]
    have tb : ∀ {a : Addr} {zs : List V}, H a = some (.tup zs) → SqT K H a zs := fun e => .inl (.inl e)
    rcases hx with ⟨rfl, s, dx, I, hp⟩ | ⟨rfl, hx⟩
    · obtain ⟨a, rfl, ha⟩ := dx.row_invS
      have ha : H a = some (.tup [.int s.v, .int s.x, .int s.i, .int s.p]) := ha
      have I1 := I.v
      have I2 := I.x
      have I3 := I.i
      have ec : cs[s.i]? = some (cs.getD s.i (0, [])) := by rw [List.getD_eq_getElem?_getD, List.getElem?_eq_getElem I3]; rfl
      generalize cs.getD s.i (0, []) = c at *
      obtain ⟨y, ey, dy⟩ := hxs.at (i := s.i) (d := conD c) (by rw [List.getElem?_map, ec]; rfl)
      obtain ⟨pc, bc, rfl, hpc, hbc⟩ := con_inv dy
      have hl : ((natL c.2).map V.int).length = c.2.length := by rw [List.length_map, List.length_map]
      refine ⟨.ref a, rfl, .ref a, 4, 4, _, rfl, .inr ⟨a, _, rfl, tb ha, rfl⟩, true, rfl, iteF ?_⟩
      refine ⟨.ref a, rfl, a, _, rfl, tb ha, rfl, _, _, rfl, _, _, rfl, _, _, rfl, _, _, rfl, rfl, ?_⟩
      refine ⟨.int s.v, rfl, .ref pu, rfl, pu, _, 0, .int n, rfl, rfl, tb hpu, atI_nat (j := 0) rfl, _, _, rfl, rfl, .inl (isI ⟨by omega, by omega⟩ ⟨true, rfl, iteF ?_⟩)⟩
      refine ⟨.int s.x, rfl, .ref pt, rfl, pt, _, 0, .int sz, rfl, rfl, tb hpt, atI_nat (j := 0) rfl, _, _, rfl, rfl, .inl (isI ⟨by omega, by omega⟩ ⟨true, rfl, iteF ?_⟩)⟩
      refine ⟨.int s.i, rfl, .ref pu, rfl, pu, _, 1, .ref bu, rfl, rfl, tb hpu, atI_nat (j := 1) rfl, bu, xs, rfl, .inr (tb hbu), (xs.length : Int), 1, rfl, rfl, .inl (isI ⟨by omega, by omega⟩ ⟨true, rfl, iteF ?_⟩)⟩
      exact ⟨.int s.p, rfl, .ref pu, rfl, pu, _, 1, .ref bu, rfl, rfl, tb hpu, atI_nat (j := 1) rfl, .int s.i, rfl, bu, _, (s.i : Int), .ref pc, rfl, rfl, tb hbu, atI_nat ey, pc, _, 1, .ref bc, rfl, rfl, tb hpc, atI_nat (j := 1) rfl, bc, (natL c.2).map V.int, rfl, .inr (tb hbc), (((natL c.2).map V.int).length : Int), 1, rfl, rfl, .inl (isI ⟨by omega, by omega⟩ q)⟩
    · cases hx with
      | no h => exact ⟨x, rfl, x, 4, 4, false, rfl, .inl ⟨h, rfl⟩, false, rfl, iteT q⟩
      | len a xs e h k =>
        subst e
        refine ⟨.ref a, rfl, .ref a, 4, 4, _, rfl, .inr ⟨a, _, rfl, tb h, rfl⟩, false, ?_, iteT q⟩
        rw [decide_eq_false (by omega)]
      | b1 a v1 v2 v3 v4 e ha k =>
        subst e
        refine ⟨.ref a, rfl, .ref a, 4, 4, _, rfl, .inr ⟨a, _, rfl, tb ha, rfl⟩, true, rfl, iteF ?_⟩
        refine ⟨.ref a, rfl, a, _, rfl, tb ha, rfl, _, _, rfl, _, _, rfl, _, _, rfl, _, _, rfl, rfl, ?_⟩
        exact ⟨v1, rfl, .ref pu, rfl, pu, _, 0, .int n, rfl, rfl, tb hpu, atI_nat (j := 0) rfl, _, _, rfl, rfl, .inr ⟨v1, n, rfl, k, false, rfl, iteT q⟩⟩
      | b2 a i v2 v3 v4 e ha hi k =>
        subst e
        refine ⟨.ref a, rfl, .ref a, 4, 4, _, rfl, .inr ⟨a, _, rfl, tb ha, rfl⟩, true, rfl, iteF ?_⟩
        refine ⟨.ref a, rfl, a, _, rfl, tb ha, rfl, _, _, rfl, _, _, rfl, _, _, rfl, _, _, rfl, rfl, ?_⟩
        refine ⟨.int i, rfl, .ref pu, rfl, pu, _, 0, .int n, rfl, rfl, tb hpu, atI_nat (j := 0) rfl, _, _, rfl, rfl, .inl (isI ⟨by omega, by omega⟩ ⟨true, rfl, iteF ?_⟩)⟩
        exact ⟨v2, rfl, .ref pt, rfl, pt, _, 0, .int sz, rfl, rfl, tb hpt, atI_nat (j := 0) rfl, _, _, rfl, rfl, .inr ⟨v2, sz, rfl, k, false, rfl, iteT q⟩⟩
      | b3 a i j v3 v4 e ha hi hj k =>
        subst e
        refine ⟨.ref a, rfl, .ref a, 4, 4, _, rfl, .inr ⟨a, _, rfl, tb ha, rfl⟩, true, rfl, iteF ?_⟩
        refine ⟨.ref a, rfl, a, _, rfl, tb ha, rfl, _, _, rfl, _, _, rfl, _, _, rfl, _, _, rfl, rfl, ?_⟩
        refine ⟨.int i, rfl, .ref pu, rfl, pu, _, 0, .int n, rfl, rfl, tb hpu, atI_nat (j := 0) rfl, _, _, rfl, rfl, .inl (isI ⟨by omega, by omega⟩ ⟨true, rfl, iteF ?_⟩)⟩
        refine ⟨.int j, rfl, .ref pt, rfl, pt, _, 0, .int sz, rfl, rfl, tb hpt, atI_nat (j := 0) rfl, _, _, rfl, rfl, .inl (isI ⟨by omega, by omega⟩ ⟨true, rfl, iteF ?_⟩)⟩
        rw [← xl] at k
        exact ⟨v3, rfl, .ref pu, rfl, pu, _, 1, .ref bu, rfl, rfl, tb hpu, atI_nat (j := 1) rfl, bu, xs, rfl, .inr (tb hbu), (xs.length : Int), 1, rfl, rfl, .inr ⟨v3, _, rfl, k, false, rfl, iteT q⟩⟩
      | b4 a i j l v4 c e ha hi hj ec k =>
        subst e
        obtain ⟨y, ey, dy⟩ := hxs.at (i := l) (d := conD c) (by rw [List.getElem?_map, ec]; rfl)
        obtain ⟨pc, bc, rfl, hpc, hbc⟩ := con_inv dy
        have I3 := (List.getElem?_eq_some_iff.mp ec).1
        have hl : ((natL c.2).map V.int).length = c.2.length := by rw [List.length_map, List.length_map]
        refine ⟨.ref a, rfl, .ref a, 4, 4, _, rfl, .inr ⟨a, _, rfl, tb ha, rfl⟩, true, rfl, iteF ?_⟩
        refine ⟨.ref a, rfl, a, _, rfl, tb ha, rfl, _, _, rfl, _, _, rfl, _, _, rfl, _, _, rfl, rfl, ?_⟩
        refine ⟨.int i, rfl, .ref pu, rfl, pu, _, 0, .int n, rfl, rfl, tb hpu, atI_nat (j := 0) rfl, _, _, rfl, rfl, .inl (isI ⟨by omega, by omega⟩ ⟨true, rfl, iteF ?_⟩)⟩
        refine ⟨.int j, rfl, .ref pt, rfl, pt, _, 0, .int sz, rfl, rfl, tb hpt, atI_nat (j := 0) rfl, _, _, rfl, rfl, .inl (isI ⟨by omega, by omega⟩ ⟨true, rfl, iteF ?_⟩)⟩
        refine ⟨.int l, rfl, .ref pu, rfl, pu, _, 1, .ref bu, rfl, rfl, tb hpu, atI_nat (j := 1) rfl, bu, xs, rfl, .inr (tb hbu), (xs.length : Int), 1, rfl, rfl, .inl (isI ⟨by omega, by omega⟩ ⟨true, rfl, iteF ?_⟩)⟩
        rw [← hl] at k
        exact ⟨v4, rfl, .ref pu, rfl, pu, _, 1, .ref bu, rfl, rfl, tb hpu, atI_nat (j := 1) rfl, .int l, rfl, bu, _, (l : Int), .ref pc, rfl, rfl, tb hbu, atI_nat ey, pc, _, 1, .ref bc, rfl, rfl, tb hpc, atI_nat (j := 1) rfl, bc, (natL c.2).map V.int, rfl, .inr (tb hbc), (((natL c.2).map V.int).length : Int), 1, rfl, rfl, .inr ⟨v4, _, rfl, k, q⟩⟩
end K15

set_option Elab.async false
set_option linter.all false
set_option maxRecDepth 100000
set_option maxHeartbeats 4000000
namespace K15
open PySem PySem.Spec PyProof.Rows L2 TK MR ZB
variable {P : Program} {w : World} {K : PySem.W.Frag} {mg : Str → Option Value} {base : Heap}
/-! _takes_value -/
def sp_takes_value (K : PySem.W.Frag) : Sp := fun vs H Q _ => ∃ (sz n : Nat) (v u x : V) (ma : Addr) (rels : Rels) (cs : List Con) (ms : List Nat) (s : Stp), vs = [v, u, .ref ma, x] ∧ DT K H v (tplD sz rels) ∧ DT K H u (insD n cs) ∧ DT K H x (rowD (stR s)) ∧ H ma = some (.lst ((natL ms).map V.int)) ∧ StepIn cs sz n s ∧ InsOk rels n cs ∧ RelsOk sz rels ∧ sz ≤ 4 ∧ allLt ms 16 ∧ ms.length = n ∧
  ∀ H', Gr H H' → Q (.bl (goodS rels cs (famM ms) s)) H'
theorem ok_takes_value (T : Txt K mg base) : FnOk P w K mg base CX0 2 T.takes_value.f T.takes_value.fd p_takes_value (sp_takes_value K) := by
  refine T.takes_value.F.ok sc_takes_value (fun vs H Q E h => ?_) (fun A outer s H vs Q E hr h => ?_)
  · obtain ⟨_, _, _, _, _, _, _, _, _, _, rfl, _⟩ := h
    rfl
  · obtain ⟨sz, n, v, u, x, ma, rels, cs, ms, st, rfl, hv, hu, dx, hma, I, O, R, s4, l16, ml, q⟩ := h
    refine ⟨_, (pss_cons (ps_asg (pv 3) (pg_tup (by rfl) (pgs_cons (pg_name (i := 4) sc_takes_value.nd rfl (by first | exact .inl rfl | exact .inr rfl)) (pgs_cons (pg_name (i := 5) sc_takes_value.nd rfl (by first | exact .inl rfl | exact .inr rfl)) (pgs_cons (pg_name (i := 6) sc_takes_value.nd rfl (by first | exact .inl rfl | exact .inr rfl)) (pgs_cons (pg_name (i := 7) sc_takes_value.nd rfl (by first | exact .inl rfl | exact .inr rfl)) pgs_nil)))))) (pss_cons (ps_asg (pe_ix (ix_tupK K) (pe_ix (ix_tupK K) (pv 1) pe_int (fun _ _ => rfl)) (pv 6) (fun _ _ => rfl)) (pg_tup (by rfl) (pgs_cons (pg_name (i := 8) sc_takes_value.nd rfl (by first | exact .inl rfl | exact .inr rfl)) (pgs_cons (pg_name (i := 9) sc_takes_value.nd rfl (by first | exact .inl rfl | exact .inr rfl)) pgs_nil)))) (pss_cons (ps_if (PW.pt (pw_or (pt_cmpR op_ne (pe_ix (ix_tupK K) (pv 9) (pv 7) (fun _ _ => rfl)) (pv 4) (nomark _)) (pw_or1 (pt_not (pt_truthK K (pe_op op_and (pe_op op_shr (pe_ix (ix_listK K) (pv 2) (pv 4) (fun _ _ => rfl)) (pv 5)) pe_int) (fun _ => rfl)))))) (pss_one (ps_ret pe_bl)) pss_nil) (pss_one (ps_ret (pe_callB (cr_all rfl) (by rfl) T.b_all boot_all (pa_cons (pe_lc (own := [("row", 10)]) (g := gName 10) (tt := tYes) rfl sc_takes_value.nd (pi_listK K (pe_call (ok_rows_left T) (hr.mono (by decide)) (by rfl) T.rows_left.g T.rows_left.F.kp T.rows_left.b .nil pass0 (pa_cons (pe_ix (ix_tupK K) (pe_ix (ix_tupK K) (pe_ix (ix_tupK K) (pv 0) pe_int (fun _ _ => rfl)) (pv 8) (fun _ _ => rfl)) pe_int (fun _ _ => rfl)) (pa_cons (pv 9) (pa_cons (pv 2) pa_nil))))) (blkOk_by (N := n_takes_value) (sc := defScope s_takes_value) (by decide +kernel)) (fun _ _ _ _ _ => pg_name (i := 10) sc_takes_value.nd rfl (Or.inl rfl)) (fun _ _ _ _ _ => pts_nil)
        (fun _ _ _ _ _ => pe_cmpR op_ne (pe_ix (ix_tupK K) (pv 10) (pv 7) (fun _ _ => rfl)) (pv 5) (nomark _))) pa_nil))))))), ?_⟩
    obtain ⟨pu, bu, xs, rfl, hpu, hbu, hxs⟩ := pair_inv hu
    obtain ⟨pt, bt, ys, rfl, hpt, hbt, hys⟩ := tpl_inv hv
    have tb : ∀ {a : Addr} {zs : List V}, H a = some (.tup zs) → SqT K H a zs := fun e => .inl (.inl e)
    obtain ⟨a, rfl, ha⟩ := dx.row_invS
    have ha : H a = some (.tup [.int st.v, .int st.x, .int st.i, .int st.p]) := ha
    obtain ⟨I0, hp⟩ := I
    have I1 := I0.v
    have I2 := I0.x
    have I3 := I0.i
    have ec : cs[st.i]? = some (cs.getD st.i (0, [])) := by rw [List.getD_eq_getElem?_getD, List.getElem?_eq_getElem I3]; rfl
    unfold goodS at q
    generalize cs.getD st.i (0, []) = c at *
    have oc := O.ok c (List.mem_of_getElem? ec)
    have oR := R.ok _ (List.mem_of_getElem? (rels_get oc.ix))
    have c4 : c.2.length ≤ 4 := by
      have := oc.len
      have := oR.1.ar4
      omega
    obtain ⟨y, ey, dy⟩ := hxs.at (i := st.i) (d := conD c) (by rw [List.getElem?_map, ec]; rfl)
    obtain ⟨pc, bc, rfl, hpc, hbc⟩ := con_inv dy
    refine ⟨.ref a, rfl, a, _, rfl, tb ha, rfl, _, _, rfl, _, _, rfl, _, _, rfl, _, _, rfl, rfl, ?_⟩
    refine ⟨.ref pu, rfl, pu, _, 1, .ref bu, rfl, rfl, tb hpu, atI_nat (j := 1) rfl, .int st.i, rfl, bu, _, (st.i : Int), .ref pc, rfl, rfl, tb hbu, atI_nat ey, pc, _, rfl, tb hpc, rfl, _, _, rfl, _, _, rfl, rfl, ?_⟩
    refine ⟨.ref bc, rfl, .int st.p, rfl, bc, _, (st.p : Int), _, rfl, rfl, tb hbc, nat_at hp, .int st.v, rfl, rfl, _, rfl, ?_⟩
    have e0 : (!decide (V.int ((c.2.getD st.p 0 : Nat) : Int) = V.int (st.v : Int))) = !decide (c.2.getD st.p 0 = st.v) := by
      congr 1
      exact decide_eq_decide.mpr ⟨fun h => by injection h with h; omega, fun h => by rw [h]⟩
    have q1 := q
    rw [decide_eq_true hp, Bool.true_and] at q1
    refine ite2 (fun hne => ?_) (fun hne => ?_)
    · rw [e0] at hne
      have : decide (c.2.getD st.p 0 = st.v) = false := by simpa using hne
      rw [this, Bool.false_and, Bool.and_false] at q1
      exact q1 H .refl
    · rw [e0] at hne
      have hcv : c.2.getD st.p 0 = st.v := by simpa using hne
      rw [decide_eq_true hcv, Bool.true_and] at q1
      have m16 := l16 st.v
      have x4 : st.x < 4 := by omega
      refine ⟨.ref ma, rfl, .int st.v, rfl, ma, _, (st.v : Int), _, rfl, rfl, .inl (.inl hma), nat_at (by rw [ml]; exact I1), .int st.x, rfl, _, (st.x : Int), rfl, rfl, by omega, _, 1, rfl, rfl, _, rfl, ?_⟩
      have eb : ((Builtin.bitAnd (((ms.getD st.v 0 : Nat) : Int) / 2 ^ ((st.x : Int)).toNat) 1) != 0) = (ms.getD st.v 0).testBit st.x := by
        rw [Int.toNat_natCast, bit_and1 m16 x4]
        cases (ms.getD st.v 0).testBit st.x <;> rfl
      rw [eb]
      have ein : decide ((st.x : Int) ∈ (famM ms).getD st.v []) = (ms.getD st.v 0).testBit st.x := by
        rw [famM_at, Bool.eq_iff_iff, decide_eq_true_iff, mem_valsI]
        exact ⟨fun h => h.2, fun h => ⟨x4, h⟩⟩
      rw [ein] at q1
      cases hb : (ms.getD st.v 0).testBit st.x with
      | false =>
        rw [hb, Bool.false_and] at q1
        exact iteT (q1 H .refl)
      | true =>
        rw [hb, Bool.true_and] at q1
        refine iteF ?_
        obtain ⟨z, ez, dz⟩ := rel_at hys oc.ix
        obtain ⟨oa, ob, zs, rfl, ho1, ho2, ho3⟩ := pair_inv dz
        have good : ∀ r ∈ (rels.getD c.1 (0, [])).2, r.length = c.2.length ∧ ∀ y ∈ r, 0 ≤ y ∧ y < 4 := fun r hr => by
          have h1 := oR.1.len r hr
          have h2 := oc.len
          exact ⟨by omega, fun y hy => by have := oR.1.val r hr y hy; omega⟩
        refine ⟨.ref pt, rfl, pt, _, 1, .ref bt, rfl, rfl, tb hpt, atI_nat (j := 1) rfl, .int c.1, rfl, bt, ys, (c.1 : Int), .ref oa, rfl, rfl, tb hbt, atI_nat ez, oa, _, 1, .ref ob, rfl, rfl, tb ho1, atI_nat (j := 1) rfl, .ref bc, rfl, .ref ma, rfl, .ref ob, bc, ma, _, c.2, ms, rfl, ⟨ob, true, zs, rfl, SqK.dtT ho2, ho3⟩, hbc, hma, l16, fun p hp => by rw [ml]; exact oc.sc p hp, c4, by omega, good, fun p H1 g1 np hp1 => ?_⟩
        obtain ⟨ws, hws, dws⟩ := hp1
        have hm : ∀ r ∈ (rels.getD c.1 (0, [])).2.filter (fitB (famM ms) c.2), r.length = c.2.length := fun r hr => (good r (List.mem_filter.mp hr).1).1
        have few : ((rels.getD c.1 (0, [])).2.filter (fitB (famM ms) c.2)).length ≤ 9 := Nat.le_trans (List.length_filter_le ..) oR.2
        have eall : ((rels.getD c.1 (0, [])).2.filter (fitB (famM ms) c.2)).all (fun r => !decide (r.getD st.p 0 = (st.x : Int))) = (rels.getD c.1 (0, [])).2.all fun r => !(decide (r.getD st.p 0 = (st.x : Int)) && fitB (famM ms) c.2 r) := by
          rw [List.all_filter]
          congr 1
          funext r
          cases fitB (famM ms) c.2 r <;> simp
        rw [← eall] at q1
        generalize (rels.getD c.1 (0, [])).2.filter (fitB (famM ms) c.2) = F at *
        have wl : ws.length = F.length := by rw [dws.1, List.length_map]
        refine ⟨p, rfl, ⟨ws, .inl (.inl hws)⟩, fun D nD => ?_⟩
        refine lc_list (K := K) (a := p) (xs := ws) (fun i H' => Gr H1 H' ∧ H' D = some (.lst (((F.take i).map fun r => !decide (r.getD st.p 0 = (st.x : Int))).map V.bl))) ⟨Gx.new nD, upd_same⟩ (fun i H' _ h => .inl (.inl (h.1.lst hws))) (fun i y H' ex h => ?_) (fun H2 h => ?_)
        · obtain ⟨g, hD⟩ := h
          obtain ⟨d, ed, dy⟩ := dws.at' ex
          rw [List.getElem?_map] at ed
          obtain ⟨r, er, rfl⟩ := Option.map_eq_some_iff.mp ed
          obtain ⟨t, rfl, ht⟩ := (dy.gr g).row_invS
          have hr := hm r (List.mem_of_getElem? er)
          have hi : i < F.length := (List.getElem?_eq_some_iff.mp er).1
          refine ⟨rfl, yesT ⟨.ref t, rfl, .int st.p, rfl, t, _, (st.p : Int), _, rfl, rfl, .inl (.inl ht), row_at (by omega), .int st.x, rfl, rfl, _, hD, ?_, g.wr nD, ?_⟩⟩
          · rw [List.length_map, List.length_map, List.length_take]
            exact small1000 (by omega)
          · rw [upd_same, List.take_add_one, er, Option.toList_some, List.map_append, List.map_append]
            have e1 : (!decide (V.int (r.getD st.p 0) = V.int (st.x : Int))) = !decide (r.getD st.p 0 = (st.x : Int)) := by
              congr 1
              exact decide_eq_decide.mpr ⟨fun h => by injection h, fun h => by rw [h]⟩
            show some (HO.lst (_ ++ [V.bl (!decide (V.int (r.getD st.p 0) = V.int (st.x : Int)))])) = _
            rw [e1]
            rfl
        · obtain ⟨g, hD⟩ := h
          rw [wl, List.take_length] at hD
          refine ⟨D, _, rfl, .inl (.inl hD), ?_⟩
          rw [List.all_map]
          exact q1 H2 (g1.trans g)
/-! shows_arc_refusal -/
def sp_shows_arc_refusal (T : Txt K mg base) : Sp := fun vs H Q _ => ∃ (sz n : Nat) (v u x : V) (rels : Rels) (cs : List Con) (b : Bool), vs = [v, u, x] ∧ (1 ≤ sz ∧ sz ≤ 4) ∧ DT K H v (tplD sz rels) ∧ DT K H u (insD n cs) ∧ InsOk rels n cs ∧ RelsOk sz rels ∧ TT T.tabs H ∧
  ((∃ ss, DT K H x (.tuple (stepsD ss)) ∧ (∀ s ∈ ss, StepIn cs sz n s) ∧ b = endS rels cs (fullF sz n) ss) ∨ (b = false ∧ (NoTup K H x ∨ ∃ a y ys, x = .ref a ∧ H a = some (.tup (y :: ys)) ∧ OddS K H n sz cs y))) ∧ ∀ H', Gr H H' → Q (.bl b) H'
theorem ok_shows_arc_refusal (T : Txt K mg base) : FnOk P w K mg base CX0 9 T.shows_arc_refusal.f T.shows_arc_refusal.fd p_shows_arc_refusal (sp_shows_arc_refusal T) := by
  refine T.shows_arc_refusal.F.ok sc_shows_arc_refusal (fun vs H Q E h => ?_) (fun A outer s H vs Q E hr h => ?_)
  · obtain ⟨_, _, _, _, _, _, _, _, rfl, _⟩ := h
    rfl
  · obtain ⟨sz, n, v, u, x, rels, cs, b, rfl, hs, hv, hu, O, R, hT, hx, q⟩ := h
    have hu64 : (A.deeper (envOfC "shows_arc_refusal" (defScope s_shows_arc_refusal) s.heap.objs.size T.shows_arc_refusal.f (.ref T.shows_arc_refusal.c))).units + 64 < cLine := by have := hr.un; omega
    have hu65 : (A.deeper (envOfC "shows_arc_refusal" (defScope s_shows_arc_refusal) s.heap.objs.size T.shows_arc_refusal.f (.ref T.shows_arc_refusal.c))).units + 65 < cLine := by have := hr.un; omega
    refine ⟨_, (pss_cons (ps_expr (pe_call (ok_check_template T) hr (by rfl) T.check_template.g T.check_template.F.kp T.check_template.b .nil pass0 (pa_cons (pv 0) pa_nil))) (pss_cons (ps_expr (pe_call (ok_check_instance T) (hr.mono (by decide)) (by rfl) T.check_instance.g T.check_instance.F.kp T.check_instance.b .nil pass0 (pa_cons (pv 0) (pa_cons (pv 1) pa_nil)))) (pss_cons (ps_if (pt_not (pt_val (pe_callB call_isi (by rfl) T.b_isinstance boot_isinstance (pa_cons (pv 2) (pa_cons (pe_bltn (v := .ty "tuple") (by rfl) T.b_tuple boot_tuple rfl) pa_nil))))) (pss_one (ps_ret pe_bl)) pss_nil) (pss_cons (ps_set (i := 3) sc_shows_arc_refusal.nd rfl (by first | exact .inl rfl | exact .inr rfl) (pe_op op_rep (pe_lst (pa_cons (pe_op op_sub (pe_op op_shl pe_int (pe_ix (ix_tupK K) (pv 0) pe_int (fun _ _ => rfl))) pe_int) pa_nil)) (pe_ix (ix_tupK K) (pv 1) pe_int (fun _ _ => rfl)))) (pss_cons (ps_for PassesOwn.never rfl (pi_tupK K (pv 2)) (pg_name (i := 4) sc_shows_arc_refusal.nd rfl (by first | exact .inl rfl | exact .inr rfl))
        (pss_cons (ps_if (PW.pt (pw_or (pt_not (pt_val (pe_call (ok_is_arc_step T) (hr.mono (by decide)) (by rfl) T.is_arc_step.g T.is_arc_step.F.kp T.is_arc_step.b .nil pass0 (pa_cons (pv 0) (pa_cons (pv 1) (pa_cons (pv 4) pa_nil)))))) (pw_or1 (pt_not (pt_val (pe_call (ok_takes_value T) (hr.mono (by decide)) (by rfl) T.takes_value.g T.takes_value.F.kp T.takes_value.b .nil pass0 (pa_cons (pv 0) (pa_cons (pv 1) (pa_cons (pv 3) (pa_cons (pv 4) pa_nil)))))))))) (pss_one (ps_ret pe_bl)) pss_nil) (pss_one (ps_asg (pe_op op_and (pe_ix (ix_listK K) (pv 3) (pe_ix (ix_tupK K) (pv 4) pe_int (fun _ _ => rfl)) (fun _ _ => rfl)) (pe_un un_inv (pe_op op_shl pe_int (pe_ix (ix_tupK K) (pv 4) pe_int (fun _ _ => rfl))))) (pg_sub (pv 3) (pe_ix (ix_tupK K) (pv 4) pe_int (fun _ _ => rfl)) set_list))))) (pss_one (ps_ret (pe_cmpR (op_inD hu65) pe_int (pv 3) (by rfl))))))))), ?_⟩
    refine ⟨v, rfl, sz, v, rels, rfl, hs, hv, R, hT, fun H1 g1 => ?_⟩
    refine ⟨v, rfl, u, rfl, sz, n, v, u, rels, cs, rfl, hv.gr g1, hu.gr g1, O, R, g1.tt hT, fun H2 g2 => ?_⟩
    have g02 := g1.trans g2
    have n16 := O.n16
    have hv2 := hv.gr g02
    have hu2 := hu.gr g02
    obtain ⟨pu, bu, xs, rfl, hpu, hbu, hxs⟩ := pair_inv hu2
    obtain ⟨pt, bt, ys, rfl, hpt, hbt, hys⟩ := tpl_inv hv2
    have ev : (1 : Int) * 2 ^ ((sz : Nat) : Int).toNat - 1 = ((2 ^ sz - 1 : Nat) : Int) := by
      have h : ∀ sz, sz ≤ 4 → (1 : Int) * 2 ^ ((sz : Nat) : Int).toNat - 1 = ((2 ^ sz - 1 : Nat) : Int) := by decide +kernel
      exact h sz hs.2
    have em : (List.replicate ((n : Nat) : Int).toNat [V.int ((1 : Int) * 2 ^ ((sz : Nat) : Int).toNat - 1)]).flatten = (natL (List.replicate n (2 ^ sz - 1))).map V.int := by rw [ev, rep_ints]
    have masks : ∀ (Q' : V → Hp → Prop), (∀ ma H3, Gr H2 H3 → H2 ma = none → H3 ma = some (.lst ((natL (List.replicate n (2 ^ sz - 1))).map V.int)) → Q' (.ref ma) H3) → ∃ y, y = y ∧ True := fun _ _ => ⟨0, rfl, trivial⟩
    clear masks
    rcases hx with ⟨ss, dx, hin, rfl⟩ | ⟨rfl, hx⟩
    · obtain ⟨a, zs, rfl, ha, hzs⟩ := (dx.gr g02).tup_invS
      refine ⟨.ref a, rfl, .ref a, .ty "tuple", _, _, true, rfl, .ty _, tyT (.inl (.inl ha)), kit_ty (by decide +kernel), true, rfl, iteF ?_⟩
      refine ⟨.ref pt, rfl, pt, _, 0, .int sz, rfl, rfl, .inl (.inl hpt), atI_nat (j := 0) rfl, 1, (sz : Int), rfl, rfl, ⟨by omega, by omega, by decide⟩, _, _, rfl, rfl, by show 1 ≤ sizeLine; decide, fun l nl => ⟨.ref pu, rfl, pu, _, 0, .int n, rfl, rfl, .inl (.inl (Gx.tupS (Gx.new nl) .nil hpu)), atI_nat (j := 0) rfl, l, (n : Int), _, rfl, rfl, upd_same, by omega, by omega, by show 1 * ((n : Nat) : Int).toNat ≤ sizeLine; rw [sizeLine_eq]; omega, fun ma nma => ?_⟩⟩
      have g3 : Gr H2 (upd (upd H2 l (.lst [V.int ((1 : Int) * 2 ^ ((sz : Nat) : Int).toNat - 1)])) ma (.lst (List.replicate ((n : Nat) : Int).toNat [V.int ((1 : Int) * 2 ^ ((sz : Nat) : Int).toNat - 1)]).flatten)) := (Gx.new nl).trans (Gx.new nma)
      have hma3 : (upd (upd H2 l (.lst [V.int ((1 : Int) * 2 ^ ((sz : Nat) : Int).toNat - 1)])) ma (.lst (List.replicate ((n : Nat) : Int).toNat [V.int ((1 : Int) * 2 ^ ((sz : Nat) : Int).toNat - 1)]).flatten)) ma = some (.lst ((natL (List.replicate n (2 ^ sz - 1))).map V.int)) := by rw [upd_same, em]
      have nma2 : H2 ma = none := Gr.free (Gx.new nl) nma
      generalize upd (upd H2 l (.lst [V.int ((1 : Int) * 2 ^ ((sz : Nat) : Int).toNat - 1)])) ma (.lst (List.replicate ((n : Nat) : Int).toNat [V.int ((1 : Int) * 2 ^ ((sz : Nat) : Int).toNat - 1)]).flatten) = H3 at *
      have zl : zs.length = ss.length := by rw [hzs.1]; unfold stepsD; rw [List.length_map]
      refine ⟨.ref a, rfl, a, rfl, ⟨zs, .inl (.inl (Gx.tupS g3 .nil ha))⟩, ?_⟩
      refine for_tup (K := K) (a := a) (xs := zs) (fun i σ H' => ∃ y4 ms, σ = [some (.ref pt), some (.ref pu), some (.ref a), some (.ref ma), y4] ∧ Gr H2 H' ∧ H' ma = some (.lst ((natL ms).map V.int)) ∧ ms.length = n ∧ allLt ms (2 ^ sz) ∧ runS rels cs (fullF sz n) (ss.take i) = some (famM ms)) ⟨_, _, rfl, g3, hma3, by rw [List.length_replicate], (Nv.start (rels := rels) (cs := cs) hs.1 hs.2).lt, by rw [full_mask hs.1 hs.2]; rfl⟩
        (fun i σ H' _ h => by
          obtain ⟨_, _, _, g, _⟩ := h
          exact .inl (.inl (Gx.tupS g .nil ha))) (fun i y σ H4 ex h => ?_) (fun σ H4 h => ?_)
      · obtain ⟨y4, ms, rfl, g4, hma4, ml, lt, run⟩ := h
        obtain ⟨d, ed, dy⟩ := hzs.at' ex
        unfold stepsD at ed
        rw [List.getElem?_map] at ed
        obtain ⟨st, est, rfl⟩ := Option.map_eq_some_iff.mp ed
        have I := hin st (List.mem_of_getElem? est)
        have l16 : allLt ms 16 := fun j => mask16 (lt j) hs.2
        have dy4 := dy.gr g4
        refine ⟨.ref pt, rfl, .ref pu, rfl, y, rfl, sz, n, _, _, y, rels, cs, true, rfl, hv2.gr g4, hu2.gr g4, .inl ⟨rfl, st, dy4, I⟩, true, rfl, iteF ?_⟩
        refine ⟨.ref pt, rfl, .ref pu, rfl, .ref ma, rfl, y, rfl, sz, n, _, _, y, ma, rels, cs, ms, st, rfl, hv2.gr g4, hu2.gr g4, dy4, hma4, I, O, R, hs.2, l16, ml, fun H5 g5 => ⟨_, rfl, ?_⟩⟩
        have erun : ss.take (i + 1) = ss.take i ++ [st] := by rw [List.take_add_one, est]; rfl
        have esp : ss = ss.take i ++ st :: ss.drop (i + 1) := by
          obtain ⟨h1, h2⟩ := List.getElem?_eq_some_iff.mp est
          rw [← h2, ← List.drop_eq_getElem_cons h1, List.take_append_drop]
        refine ite2 (fun hb => ?_) (fun hb => ?_)
        · have hb : goodS rels cs (famM ms) st = false := by simpa using hb
          have : endS rels cs (fullF sz n) ss = false := by
            unfold endS
            rw [esp, runS_app, run]
            show (match runS rels cs (famM ms) (st :: ss.drop (i + 1)) with | some g => _ | none => false) = false
            unfold runS
            rw [hb]
            rfl
          have q1 := q H5 ((g02.trans g4).trans g5)
          rw [this] at q1
          exact q1
        · have hb : goodS rels cs (famM ms) st = true := by simpa using hb
          obtain ⟨t, rfl, ht⟩ := (dy4.gr g5).row_invS
          have ht : H5 t = some (.tup [.int st.v, .int st.x, .int st.i, .int st.p]) := ht
          have hma5 := g5.lst hma4
          have I1 := I.1.v
          have I2 := I.1.x
          have hvl : st.v < ms.length := by omega
          have ecl : Builtin.bitAnd ((ms.getD st.v 0 : Nat) : Int) (Builtin.bitNot (1 * 2 ^ ((st.x : Int)).toNat)) = ((clrM (ms.getD st.v 0) st.x : Nat) : Int) := by
            rw [Int.toNat_natCast]
            exact bit_clr (l16 st.v) (by omega)
          have es : ((natL ms).map V.int).set st.v (V.int ((clrM (ms.getD st.v 0) st.x : Nat) : Int)) = (natL (clrF ms st.v st.x)).map V.int := by
            unfold clrF
            show (List.map V.int (List.map (fun (p : Nat) => (p : Int)) ms)).set _ _ = List.map V.int (List.map (fun (p : Nat) => (p : Int)) (ms.set _ _))
            rw [List.map_set, List.map_set]
          refine ⟨.ref ma, rfl, .ref t, rfl, t, _, 0, _, rfl, rfl, .inl (.inl ht), atI_nat (j := 0) rfl, ma, _, (st.v : Int), _, rfl, rfl, .inl (.inl hma5), nat_at hvl, .ref t, rfl, t, _, 1, _, rfl, rfl, .inl (.inl ht), atI_nat (j := 1) rfl, 1, (st.x : Int), rfl, rfl, ⟨by omega, by omega, by decide⟩, _, rfl, _, _, rfl, rfl, ?_⟩
          refine ⟨.ref ma, rfl, .ref t, rfl, t, _, 0, _, rfl, rfl, .inl (.inl ht), atI_nat (j := 0) rfl, ma, _, (st.v : Int), st.v, rfl, rfl, hma5, ixN_nat (by rw [List.length_map, List.length_map]; exact hvl), ?_⟩
          refine ⟨_, clrF ms st.v st.x, rfl, (g4.trans g5).wr nma2, ?_, by rw [clrF_len]; exact ml, clrF_lt lt (Nat.pow_pos (by decide)) hvl, ?_⟩
          · rw [upd_same, ← es, ← ecl]
          · rw [erun, runS_app, run]
            show (if goodS rels cs (famM ms) st = true then some (outF (famM ms) st.v st.x) else none) = _
            rw [if_pos hb, out_vals l16 (by omega)]
      · obtain ⟨y4, ms, rfl, g4, hma4, ml, lt, run⟩ := h
        rw [zl, List.take_length] at run
        have l16 : allLt ms 16 := fun j => mask16 (lt j) hs.2
        refine ⟨.ref ma, rfl, .int 0, _, .int 0, dp_intsI hma4, by rfl, ints_shapedI _, ?_⟩
        have e : endS rels cs (fullF sz n) ss = decide ((0 : Int) ∈ natL ms) := by
          unfold endS
          rw [run]
          refine decide_eq_decide.mpr ?_
          unfold famM natL
          rw [List.mem_map, List.mem_map]
          constructor
          · rintro ⟨m, hm, e⟩
            obtain ⟨j, hj, ej⟩ := List.mem_iff_getElem.mp hm
            have := l16 j
            rw [List.getD_eq_getElem?_getD, List.getElem?_eq_getElem hj, Option.getD_some, ej] at this
            exact ⟨m, hm, by rw [(vals_zero this).mp e]; rfl⟩
          · rintro ⟨m, hm, e⟩
            have : m = 0 := by omega
            subst this
            exact ⟨0, hm, rfl⟩
        have q1 := q H4 (g02.trans g4)
        rw [e] at q1
        rw [any_intI]
        exact q1
    · have hx : NoTup K H2 x ∨ ∃ a y ys, x = .ref a ∧ H2 a = some (.tup (y :: ys)) ∧ OddS K H2 n sz cs y := hx.imp (fun h => h.gr g02) fun ⟨a, y, ys, e, h, k⟩ => ⟨a, y, ys, e, Gx.tupS g02 .nil h, k.gr g02⟩
      rcases hx with ⟨ty, ht, hk⟩ | ⟨a, y, zs, rfl, ha, ho⟩
      · exact ⟨x, rfl, x, .ty "tuple", _, _, false, rfl, .ty _, ht H2 Gx.refl, kit_ty hk, false, rfl, iteT (q H2 g02)⟩
      · refine ⟨.ref a, rfl, .ref a, .ty "tuple", _, _, true, rfl, .ty _, tyT (.inl (.inl ha)), kit_ty (by decide +kernel), true, rfl, iteF ?_⟩
        refine ⟨.ref pt, rfl, pt, _, 0, .int sz, rfl, rfl, .inl (.inl hpt), atI_nat (j := 0) rfl, 1, (sz : Int), rfl, rfl, ⟨by omega, by omega, by decide⟩, _, _, rfl, rfl, by show 1 ≤ sizeLine; decide, fun l nl => ⟨.ref pu, rfl, pu, _, 0, .int n, rfl, rfl, .inl (.inl (Gx.tupS (Gx.new nl) .nil hpu)), atI_nat (j := 0) rfl, l, (n : Int), _, rfl, rfl, upd_same, by omega, by omega, by show 1 * ((n : Nat) : Int).toNat ≤ sizeLine; rw [sizeLine_eq]; omega, fun ma nma => ?_⟩⟩
        have g3 : Gr H2 (upd (upd H2 l (.lst [V.int ((1 : Int) * 2 ^ ((sz : Nat) : Int).toNat - 1)])) ma (.lst (List.replicate ((n : Nat) : Int).toNat [V.int ((1 : Int) * 2 ^ ((sz : Nat) : Int).toNat - 1)]).flatten)) := (Gx.new nl).trans (Gx.new nma)
        generalize upd (upd H2 l (.lst [V.int ((1 : Int) * 2 ^ ((sz : Nat) : Int).toNat - 1)])) ma (.lst (List.replicate ((n : Nat) : Int).toNat [V.int ((1 : Int) * 2 ^ ((sz : Nat) : Int).toNat - 1)]).flatten) = H3 at *
        refine ⟨.ref a, rfl, a, rfl, ⟨y :: zs, .inl (.inl (Gx.tupS g3 .nil ha))⟩, ?_⟩
        refine for_tup (K := K) (a := a) (xs := y :: zs) (fun i σ H' => i = 0 ∧ ∃ y4, σ = [some (.ref pt), some (.ref pu), some (.ref a), some (.ref ma), y4] ∧ Gr H2 H') ⟨rfl, _, rfl, g3⟩
          (fun i σ H' _ h => by
            obtain ⟨_, _, _, g⟩ := h
            exact .inl (.inl (Gx.tupS g .nil ha))) (fun i y' σ H4 ex h => ?_) (fun σ H4 h => ?_)
        · obtain ⟨rfl, y4, rfl, g4⟩ := h
          cases ex
          exact ⟨.ref pt, rfl, .ref pu, rfl, y, rfl, sz, n, _, _, y, rels, cs, false, rfl, hv2.gr g4, hu2.gr g4, .inr ⟨rfl, ho.gr g4⟩, false, rfl, iteT (q H4 (g02.trans g4))⟩
        · exact absurd h.1 (Nat.succ_ne_zero _)
/-! arc_refusal -/
def sp_arc_refusal (T : Txt K mg base) : Sp := fun vs H Q _ => ∃ (sz n : Nat) (v u : V) (rels : Rels) (cs : List Con), vs = [v, u] ∧ (1 ≤ sz ∧ sz ≤ 4) ∧ DT K H v (tplD sz rels) ∧ DT K H u (insD n cs) ∧ InsOk rels n cs ∧ RelsOk sz rels ∧ TT T.tabs H ∧
  ∀ z H', Gr H H' → ((z = .non ∧ ∀ t f, FamSt rels cs sz n t f → ConsF rels cs f → [] ∉ f) ∨ (∃ ss, DT K H' z (.tuple (stepsD ss)) ∧ (∀ s ∈ ss, StepIn cs sz n s) ∧ ss.length ≤ n * 4 ∧ endS rels cs (fullF sz n) ss = true ∧ ∀ t f, FamSt rels cs sz n t f → ConsF rels cs f → [] ∈ f)) → Q z H'
theorem ok_arc_refusal (T : Txt K mg base) : FnOk P w K mg base CX0 9 T.arc_refusal.f T.arc_refusal.fd p_arc_refusal (sp_arc_refusal T) := by
  refine T.arc_refusal.F.ok sc_arc_refusal (fun vs H Q E h => ?_) (fun A outer s H vs Q E hr h => ?_)
  · obtain ⟨_, _, _, _, _, _, rfl, _⟩ := h
    rfl
  · obtain ⟨sz, n, v, u, rels, cs, rfl, hs, hv, hu, O, R, hT, q⟩ := h
    refine ⟨_, (pss_cons (ps_expr (pe_call (ok_check_template T) hr (by rfl) T.check_template.g T.check_template.F.kp T.check_template.b .nil pass0 (pa_cons (pv 0) pa_nil))) (pss_cons (ps_expr (pe_call (ok_check_instance T) (hr.mono (by decide)) (by rfl) T.check_instance.g T.check_instance.F.kp T.check_instance.b .nil pass0 (pa_cons (pv 0) (pa_cons (pv 1) pa_nil)))) (pss_cons (ps_set (i := 2) sc_arc_refusal.nd rfl (by first | exact .inl rfl | exact .inr rfl) (pe_make T.Narrowing.make (ok_init T) (hr.mono (by decide)) (by rfl) T.Narrowing.g T.Narrowing.b_init .nil pass0 (pa_cons (pv 0) (pa_cons (pv 1) pa_nil)))) (pss_one (ps_ret (pe_ifExp (pt_val (pe_meth0 (pv 2) T.Narrowing.cl T.Narrowing.h_run (ok_run T) (hr.mono (by decide)) T.Narrowing.b_run .nil pass0)) pe_non (pe_callTy (call_tuple_ofK K) (by rfl) T.b_tuple boot_tuple (pa_cons (pe_fldK K (pv 2) rfl) pa_nil)))))))), ?_⟩
    have cl := T.Narrowing.cl
    refine ⟨v, rfl, sz, v, rels, rfl, hs, hv, R, hT, fun H1 g1 => ?_⟩
    refine ⟨v, rfl, u, rfl, sz, n, v, u, rels, cs, rfl, hv.gr g1, hu.gr g1, O, R, g1.tt hT, fun H2 g2 => ?_⟩
    have g02 := g1.trans g2
    refine ⟨v, rfl, u, rfl, fun x dx nx ndx nex => ?_⟩
    have g3 : Gr H2 (upd (upd H2 dx (.own x)) x (.ins T.Narrowing.C dx [])) := (Gx.new ndx).trans (Gx.new (by rw [upd_ne nex.symm]; exact nx))
    have hx3 : (upd (upd H2 dx (.own x)) x (.ins T.Narrowing.C dx [])) x = some (.ins T.Narrowing.C dx []) := upd_same
    generalize upd (upd H2 dx (.own x)) x (.ins T.Narrowing.C dx []) = H3 at *
    refine ⟨H2, x, dx, sz, n, v, u, rels, cs, rfl, hx3, nx, g3, hs, hv.gr g02, hu.gr g02, O, R, fun sc ro ma sp sas H4 B4 => ⟨rfl, ?_⟩⟩
    obtain ⟨dx4, fs4, hx4, _, c1, c2, c3, c4, c5, c6, c7⟩ := id B4.hob
    have n16 := O.n16
    refine ⟨.ref x, rfl, x, dx4, fs4, rfl, hx4, c6, H2, x, sc, ro, ma, sp, sas, rels, cs, _, _, _, n * 4, sz, n, rfl, B4, .start hs.1 hs.2, .start hs.1 hs.2, O, R, hs.2, by omega, start_few O R, fun H5 rws ms fl stp B5 G5 N5 hc => ⟨!fl, rfl, ?_⟩⟩
    have g05 := g02.trans B5.gb
    refine ite2 (fun hf => ?_) (fun hf => ?_)
    · have hf : fl = false := by simpa using hf
      subst hf
      have hc : ∀ c ∈ cs, consC rels ms c := hc.resolve_left (by simp)
      exact q .non H5 g05 (.inl ⟨rfl, fun t f hF cF => (N5.done hs.2 hc hF cF).2⟩)
    · have hf : fl = true := by simpa using hf
      subst hf
      obtain ⟨dx5, fs5, hx5, _, d1, d2, d3, d4, d5, d6, d7⟩ := id B5.hob
      obtain ⟨ws, hsp, wl, hws⟩ := id B5.hsp
      refine ⟨.ref x, rfl, x, _, dx5, fs5, .ref sp, rfl, hx5, cl, T.Narrowing.n_steps, d4, sp, ws, rfl, .inl ⟨.inl (.inl hsp), fun t nt => ?_⟩⟩
      have gt : Gr H5 (upd H5 t (.tup ws)) := Gx.new nt
      have sl : ws.length = stp.length := by rw [hws.1]; unfold stepsD; rw [List.length_map]
      exact q (.ref t) _ (g05.trans gt) (.inr ⟨stp, .mk upd_same (hws.gr gt), G5.ins, by omega, G5.fin N5, fun t f hF cF => N5.fail hF cF⟩)
end K15

set_option Elab.async false
set_option linter.all false
set_option maxRecDepth 100000
set_option maxHeartbeats 4000000
namespace K15
open PySem PySem.Spec PyProof.Rows L2 TK MR ZB
variable {P : Program} {w : World} {K : PySem.W.Frag} {mg : Str → Option Value} {base : Heap}
theorem rgV_full (sz : Nat) : rgV 0 (sz : Int) = (fullV sz).map V.int := by
  unfold rgV fullV
  rw [List.map_map, show ((sz : Int) - 0).toNat = sz by omega]
  exact List.map_congr_left fun i _ => by show V.int (0 + (i : Int)) = V.int (i : Int); rw [Int.zero_add]
theorem fullF_at {sz n i : Nat} (h : i < n) : (fullF sz n).getD i [] = fullV sz := by
  unfold fullF
  rw [List.getD_eq_getElem?_getD, List.getElem?_map, List.getElem?_range h]
  rfl
/-- lists of whole numbers, as data -/
def famLD (f : List (List Int)) : List PyData := f.map fun l => .list (l.map PyData.int)
theorem dp_fam {H : Hp} {p : Addr} {f : List (List Int)} (h : LL H p f) : Dp K H (.ref p) (.list (famLD f)) := by
  obtain ⟨qs, h1, h2, h3⟩ := h
  refine .lst (.inl (.inl h1)) ?_
  have : ∀ (qs : List Addr) (f : List (List Int)), qs.length = f.length → (∀ (i : Nat) q, qs[i]? = some q → H q = some (.lst ((f.getD i []).map V.int))) → DpAll K H (qs.map V.ref) (famLD f) := fun qs => by
    induction qs with
    | nil =>
      intro f e _
      rw [List.length_eq_zero_iff.mp e.symm]
      exact .nil
    | cons q qs ih =>
      intro f e h
      cases f with
      | nil => cases e
      | cons l f => exact .cons (dp_intsI (h 0 q rfl)) (ih f (by simpa using e) fun i q' e' => h (i + 1) q' e')
  exact this qs f h2 h3
theorem fam_shaped (f : List (List Int)) : SeqAt.shaped (.list (famLD f)) = true := by
  have h1 : PyData.depth (.list (famLD f)) ≤ 64 := by
    have hd : PyData.depthAll (famLD f) ≤ 10 := by
      induction f with
      | nil => simp [famLD, PyData.depthAll]
      | cons l f ih =>
        have h0 := ints_depth l
        show PyData.depthAll (PyData.list (l.map PyData.int) :: famLD f) ≤ 10
        simp only [PyData.depthAll, PyData.depth]
        omega
    simp only [PyData.depth]
    omega
  have h2 : PyData.canLayAll0 (famLD f) = true := by
    induction f with
    | nil => simp [famLD, PyData.canLayAll0]
    | cons l f ih =>
      have h0 : ∀ ns : List Int, PyData.canLayAll0 (ns.map PyData.int) = true := fun ns => by
        induction ns with
        | nil => simp [PyData.canLayAll0]
        | cons n ns ih => simp only [List.map_cons, PyData.canLayAll0, ih, PyData.canLay0, Bool.and_self]
      show PyData.canLayAll0 (PyData.list (l.map PyData.int) :: famLD f) = true
      simp only [PyData.canLayAll0, PyData.canLay0, h0, Bool.true_and]
      exact ih (by
        simp only [PyData.depth] at h1 ⊢
        have : PyData.depthAll (famLD (l :: f)) = max (PyData.depth (.list (l.map PyData.int))) (PyData.depthAll (famLD f)) := by simp [famLD, PyData.depthAll]
        omega)
  show (PyData.canLay0 (.list (famLD f)) && decide (PyData.depth (.list (famLD f)) ≤ 64)) = true
  rw [Bool.and_eq_true]
  exact ⟨by simp only [PyData.canLay0]; exact h2, decide_eq_true h1⟩
theorem fam_any (f : List (List Int)) : ((famLD f).any fun z => PyData.eqv z (.list [])) = decide ([] ∈ f) := by
  induction f with
  | nil => rfl
  | cons l f ih =>
    show (PyData.eqv (.list (l.map PyData.int)) (.list []) || (famLD f).any fun z => PyData.eqv z (.list [])) = _
    rw [ih, ints_nilI, Bool.eq_iff_iff, Bool.or_eq_true, decide_eq_true_iff, decide_eq_true_iff, decide_eq_true_iff, List.mem_cons]
    exact ⟨fun h => h.imp_left fun e => e.symm, fun h => h.imp_left fun e => e.symm⟩
/-! _law_whole -/
theorem ok_law_whole (T : Txt K mg base) : FnOk P w K mg base CX0 1 T.law_whole.f T.law_whole.fd p_law_whole sp_is_integer := by
  refine T.law_whole.F.ok sc_law_whole (fun vs H Q E h => ?_) (fun A outer s H vs Q E hr h => ?_)
  · obtain ⟨v, lo, hi, rfl, _⟩ := h
    rfl
  · obtain ⟨v, lo, hi, rfl, q⟩ := h
    refine ⟨_, pss_one (ps_ret (pe_and (pe_callB call_isi (by rfl) T.b_isinstance boot_isinstance (pa_cons (pv 0) (pa_cons (pe_bltn (v := .ty "int") (by rfl) T.b_int boot_int rfl) pa_nil)))
      (pe_and (pe_not (pe_callB call_isi (by rfl) T.b_isinstance boot_isinstance (pa_cons (pv 0) (pa_cons (pe_bltn (v := .ty "bool") (by rfl) T.b_bool boot_bool rfl) pa_nil))))
        (pe_one (pe_chain op_le op_le (pv 1) (pv 0) (pv 2)))))), ?_⟩
    refine ⟨.int v, rfl, .int v, .ty "int", _, _, true, rfl, .ty _, .base (.int v), kit_ty (by decide +kernel), true, rfl, iteT ?_⟩
    refine ⟨.int v, rfl, .int v, .ty "bool", _, _, false, rfl, .ty _, .base (.int v), kit_ty (by decide +kernel), false, rfl, true, rfl, iteT ?_⟩
    refine ⟨.int lo, rfl, .int v, rfl, lo, v, rfl, rfl, _, rfl, ?_⟩
    by_cases h1 : lo ≤ v
    · rw [if_pos (decide_eq_true h1)]
      refine ⟨.int hi, rfl, v, hi, rfl, rfl, ?_⟩
      have e : decide (lo ≤ v ∧ v ≤ hi) = decide (v ≤ hi) := by simp [h1]
      rw [e] at q
      exact q
    · rw [if_neg (by simp [h1])]
      have e : decide (lo ≤ v ∧ v ≤ hi) = false := by simp [h1]
      rw [e] at q
      exact q
theorem sl_tupAK (K : PySem.W.Frag) {X : Cx} (hK : X.K = K := by rfl) : SlR X (rSlA K) := hK ▸ sl_tupA
/-! _law_taken_away -/
theorem LL.put {H : Hp} {p B : Addr} {qs : List Addr} {f : List (List Int)} {v : Nat} {l : List Int} (h1 : H p = some (.lst (qs.map V.ref))) (h2 : qs.length = f.length) (h3 : ∀ (i : Nat) (q : Addr), qs[i]? = some q → H q = some (.lst ((f.getD i []).map V.int))) (hB : H B = some (.lst (l.map V.int))) (hBp : B ≠ p) (hv : v < f.length) : LL (upd H p (.lst ((qs.map V.ref).set v (.ref B)))) p (f.set v l) := by
  have np : ∀ (i : Nat) (q : Addr), qs[i]? = some q → q ≠ p := fun i q e z => by
    subst z
    have h := h3 i q e
    rw [h1] at h
    have h := Option.some.inj h
    injection h with h
    have hq : (qs.map V.ref)[i]? = some (.ref q) := by rw [List.getElem?_map, e]; rfl
    rw [h, List.getElem?_map] at hq
    obtain ⟨y, _, z⟩ := Option.map_eq_some_iff.mp hq
    cases z
  refine ⟨qs.set v B, by rw [upd_same, List.map_set], by rw [List.length_set, List.length_set]; exact h2, fun i q e => ?_⟩
  rw [setD_at hv]
  by_cases hi : v = i
  · subst hi
    rw [List.getElem?_set_self (by omega)] at e
    cases e
    rw [if_pos rfl, upd_ne hBp]
    exact hB
  · rw [List.getElem?_set_ne hi] at e
    rw [if_neg hi, upd_ne (np i q e)]
    exact h3 i q e
def noR (f : List (List Int)) (ps : List Nat) (p : Nat) (x : Int) (r : List Int) : Bool := !(decide (r.getD p 0 = x) && fitB f ps r)
def sp_law_taken_away (K : PySem.W.Frag) : Sp := fun vs H Q _ => ∃ (sz n : Nat) (v u : V) (a : Addr) (b : Bool) (ws : List V) (rels : Rels) (cs : List Con) (ss : List Stp), vs = [v, u, .ref a] ∧ (1 ≤ sz ∧ sz ≤ 4) ∧ DT K H v (tplD sz rels) ∧ DT K H u (insD n cs) ∧ InsOk rels n cs ∧ RelsOk sz rels ∧ SqK b K H a ws ∧ DTs K H ws (stepsD ss) ∧ (∀ s ∈ ss, StepIn cs sz n s) ∧ ∀ H', Gr H H' → Q (.bl (endS rels cs (fullF sz n) ss)) H'
theorem ok_law_taken_away (T : Txt K mg base) : FnOk P w K mg base CX0 1 T.law_taken_away.f T.law_taken_away.fd p_law_taken_away (sp_law_taken_away K) := by
  refine T.law_taken_away.F.ok sc_law_taken_away (fun vs H Q E h => ?_) (fun A outer s H vs Q E hr h => ?_)
  · obtain ⟨_, _, _, _, _, _, _, _, _, _, rfl, _⟩ := h
    rfl
  · obtain ⟨sz, n, v, u, a, b, ws, rels, cs, ss, rfl, hs, hv, hu, O, R, hws, dws, hin, q⟩ := h
    have hu65 : (A.deeper (envOfC "_law_taken_away" (defScope s_law_taken_away) s.heap.objs.size T.law_taken_away.f (.ref T.law_taken_away.c))).units + 65 < cLine := by have := hr.un; omega
    have hu64 : (A.deeper (envOfC "_law_taken_away" (defScope s_law_taken_away) s.heap.objs.size T.law_taken_away.f (.ref T.law_taken_away.c))).units + 64 < cLine := by omega
    refine ⟨_, (pss_cons (ps_set (i := 3) sc_law_taken_away.nd rfl (by first | exact .inl rfl | exact .inr rfl) (pe_lc (own := [("name", 4)]) (g := gName 4) (tt := tYes) rfl sc_law_taken_away.nd (pi_range1 (by rfl) T.b_range (pa_cons (pe_ix (ix_tupK K) (pv 1) pe_int (fun _ _ => rfl)) pa_nil)) (blkOk_by (N := n_law_taken_away) (sc := defScope s_law_taken_away) (by decide +kernel)) (fun _ _ _ _ _ => pg_name (i := 4) sc_law_taken_away.nd rfl (by first | exact .inl rfl | exact .inr rfl)) (fun _ _ _ _ _ => pts_nil) (fun _ _ _ _ _ => pe_listRg rfl (by rfl) T.b_list (prg_1 (by rfl) T.b_range (pe_ix (ix_tupK K) (pv 0) pe_int (fun _ _ => rfl)))))) (pss_cons (ps_for PassesOwn.never rfl (pi_seqK K (pv 2)) (pg_tup (by rfl) (pgs_cons (pg_name (i := 4) sc_law_taken_away.nd rfl (by first | exact .inl rfl | exact .inr rfl)) (pgs_cons (pg_name (i := 5) sc_law_taken_away.nd rfl (by first | exact .inl rfl | exact .inr rfl)) (pgs_cons (pg_name (i := 6) sc_law_taken_away.nd rfl (by first | exact .inl rfl | exact .inr rfl)) (pgs_cons (pg_name (i := 7) sc_law_taken_away.nd rfl (by first | exact .inl rfl | exact .inr rfl)) pgs_nil)))))
        (pss_cons (ps_asg (pe_ix (ix_tupK K) (pe_ix (ix_tupK K) (pv 1) pe_int (fun _ _ => rfl)) (pv 6) (fun _ _ => rfl)) (pg_tup (by rfl) (pgs_cons (pg_name (i := 8) sc_law_taken_away.nd rfl (by first | exact .inl rfl | exact .inr rfl)) (pgs_cons (pg_name (i := 9) sc_law_taken_away.nd rfl (by first | exact .inl rfl | exact .inr rfl)) pgs_nil)))) (pss_cons (ps_if (PW.pt (pw_or (pt_cmpR (op_notInDK K hu65) (pv 5) (pe_ix (ix_listK K) (pv 3) (pv 4) (fun _ _ => rfl)) (by rfl)) (pw_or (pt_cmpR op_ge (pv 7) (pe_callB (call_len_seqK K) (by rfl) T.b_len PySem.boot_len (pa_cons (pv 9) pa_nil)) (nomark _)) (pw_or1 (pt_cmpR op_ne (pe_ix (ix_tupK K) (pv 9) (pv 7) (fun _ _ => rfl)) (pv 4) (nomark _)))))) (pss_one (ps_ret pe_bl)) pss_nil) (pss_cons (ps_for PassesOwn.never rfl (pi_tupK K (pe_ix (ix_tupK K) (pe_ix (ix_tupK K) (pe_ix (ix_tupK K) (pv 0) pe_int (fun _ _ => rfl)) (pv 8) (fun _ _ => rfl)) pe_int (fun _ _ => rfl))) (pg_name (i := 10) sc_law_taken_away.nd rfl (by first | exact .inl rfl | exact .inr rfl))
            (pss_one (ps_if (PW.pt (pw_and (pt_cmpR op_eq (pe_ix (ix_tupK K) (pv 10) (pv 7) (fun _ _ => rfl)) (pv 5) (nomark _)) (pw_and1 (pt_cmpR (op_eqD hu64) (pe_lc (own := [("at", 11)]) (g := gName 11) rfl sc_law_taken_away.nd (pi_range1 (by rfl) T.b_range (pa_cons (pe_callB (call_len_seqK K) (by rfl) T.b_len PySem.boot_len (pa_cons (pv 9) pa_nil)) pa_nil)) (blkOk_by (N := n_law_taken_away) (sc := defScope s_law_taken_away) (by decide +kernel)) (fun _ _ _ _ _ => pg_name (i := 11) sc_law_taken_away.nd rfl (by first | exact .inl rfl | exact .inr rfl))
                (fun _ _ _ _ _ => pts_one (pt_cmpR (op_notInDK K hu65) (pe_ix (ix_tupK K) (pv 10) (pv 11) (fun _ _ => rfl)) (pe_ix (ix_listK K) (pv 3) (pe_ix (ix_tupK K) (pv 9) (pv 11) (fun _ _ => rfl)) (fun _ _ => rfl)) (by rfl))) (fun _ _ _ _ _ => pv 11)) (pe_lst pa_nil) (nomark _))))) (pss_one (ps_ret pe_bl)) pss_nil))) (pss_one (ps_asg (pe_lc (own := [("other", 12)]) (g := gName 12) rfl sc_law_taken_away.nd (pi_listK K (pe_ix (ix_listK K) (pv 3) (pv 4) (fun _ _ => rfl))) (blkOk_by (N := n_law_taken_away) (sc := defScope s_law_taken_away) (by decide +kernel)) (fun _ _ _ _ _ => pg_name (i := 12) sc_law_taken_away.nd rfl (by first | exact .inl rfl | exact .inr rfl)) (fun _ _ _ _ _ => pts_one (pt_cmpR op_ne (pv 12) (pv 5) (nomark _))) (fun _ _ _ _ _ => pv 12)) (pg_sub (pv 3) (pv 4) set_list))))))) (pss_one (ps_ret (pe_cmpR (op_inD hu65) (pe_lst pa_nil) (pv 3) (by rfl)))))), ?_⟩
    obtain ⟨pu, bu, xs, rfl, hpu, hbu, hxs⟩ := pair_inv hu
    obtain ⟨pt, bt, ys, rfl, hpt, hbt, hys⟩ := tpl_inv hv
    have tb : ∀ {H' : Hp} {a : Addr} {zs : List V}, Gr H H' → H a = some (.tup zs) → SqT K H' a zs := fun g e => .inl (.inl (Gx.tupS g .nil e))
    have n16 := O.n16
    -- left
    refine ⟨.ref pu, rfl, pu, _, 0, .int n, rfl, rfl, tb .refl hpu, atI_nat (j := 0) rfl, n, rfl, by omega, by omega, fun D nD => ?_⟩
    refine lc_range (lo := 0) (n := ((n : Nat) : Int).toNat) (fun k H' => Gr H H' ∧ ∃ qs : List Addr, H' D = some (.lst (qs.map V.ref)) ∧ qs.length = k ∧ ∀ q ∈ qs, H' q = some (.lst ((fullV sz).map V.int)) ∧ q ≠ D) ⟨Gx.new nD, [], upd_same, rfl, fun q hq => by simp at hq⟩ (fun k H' hk h => ?_) (fun H6 h => ?_)
    · obtain ⟨g, qs, hD, ql, qq⟩ := h
      refine ⟨rfl, yesT ⟨.ref pt, rfl, pt, _, 0, .int sz, rfl, rfl, tb g hpt, atI_nat (j := 0) rfl, (sz : Int), rfl, RgOk.of_le (by omega) (by omega) (by omega) (by omega), fun e ne => ?_⟩⟩
      have ge : Gr H' (upd H' e (.lst (rgV 0 (sz : Int)))) := Gx.new ne
      have eD : e ≠ D := fun z => by rw [z, hD] at ne; cases ne
      refine ⟨_, ge.lst hD, ?_, (g.trans ge).wr nD, qs ++ [e], by rw [upd_same, List.map_append]; rfl, by rw [List.length_append, ql]; rfl, fun q hq => ?_⟩
      · rw [List.length_map]
        exact small1000 (by omega)
      · rcases List.mem_append.mp hq with hq | hq
        · obtain ⟨q1, q2⟩ := qq q hq
          exact ⟨by rw [upd_ne q2]; exact ge.lst q1, q2⟩
        · rw [List.mem_singleton.mp hq, upd_ne eD, upd_same, rgV_full]
          exact ⟨rfl, eD⟩
    obtain ⟨g6, qs, hD, ql, qq⟩ := h
    rw [Int.toNat_natCast] at ql
    have LL6 : LL H6 D (fullF sz n) := ⟨qs, hD, by rw [ql]; unfold fullF; rw [List.length_map, List.length_range], fun i q e => by
      have hi : i < n := by rw [← ql]; exact (List.getElem?_eq_some_iff.mp e).1
      rw [fullF_at hi]
      exact (qq q (List.mem_of_getElem? e)).1⟩
    clear hD qq ql
    have wl : ws.length = ss.length := by rw [dws.1]; unfold stepsD; rw [List.length_map]
    have full4 : ∀ j, ((fullF sz n).getD j []).length ≤ 4 := fun j => by
      by_cases hj : j < n
      · rw [fullF_at hj]
        unfold fullV
        rw [List.length_map, List.length_range]
        exact hs.2
      · rw [getD_out (by unfold fullF; rw [List.length_map, List.length_range]; omega)]
        exact Nat.zero_le _
    -- the steps
    refine ⟨.ref a, rfl, a, b, rfl, ⟨ws, SqK.gr g6 hws⟩, ?_⟩
    refine for_seqB (K := K) (a := a) (xs := ws) (fun i σ H' => ∃ y4 y5 y6 y7 y8 y9 y10 f, σ = [some (.ref pt), some (.ref pu), some (.ref a), some (.ref D), y4, y5, y6, y7, y8, y9, y10, none, none] ∧ Gr H H' ∧ LL H' D f ∧ f.length = n ∧ (∀ j, (f.getD j []).length ≤ 4) ∧ runS rels cs (fullF sz n) (ss.take i) = some f)
      ⟨_, _, _, _, _, _, _, _, rfl, g6, LL6, by unfold fullF; rw [List.length_map, List.length_range], full4, rfl⟩ (fun i σ H' _ h => by
        obtain ⟨_, _, _, _, _, _, _, _, _, g, _⟩ := h
        exact SqK.gr g hws) (fun i y σ H1 ex h => ?_) (fun σ H1 h => ?_)
    · obtain ⟨y4, y5, y6, y7, y8, y9, y10, f, rfl, g1, LL1, fl, f4, run⟩ := h
      obtain ⟨d, ed, dy⟩ := dws.at' ex
      unfold stepsD at ed
      rw [List.getElem?_map] at ed
      obtain ⟨st, est, rfl⟩ := Option.map_eq_some_iff.mp ed
      obtain ⟨I0, hp⟩ := hin st (List.mem_of_getElem? est)
      have I1 := I0.v
      have I2 := I0.x
      have I3 := I0.i
      obtain ⟨t, rfl, ht⟩ := (dy.gr g1).row_invS
      have ht : H1 t = some (.tup [.int st.v, .int st.x, .int st.i, .int st.p]) := ht
      have ec : cs[st.i]? = some (cs.getD st.i (0, [])) := by rw [List.getD_eq_getElem?_getD, List.getElem?_eq_getElem I3]; rfl
      have erun : ss.take (i + 1) = ss.take i ++ [st] := by rw [List.take_add_one, est]; rfl
      have esp : ss = ss.take i ++ st :: ss.drop (i + 1) := by
        obtain ⟨h1, h2⟩ := List.getElem?_eq_some_iff.mp est
        rw [← h2, ← List.drop_eq_getElem_cons h1, List.take_append_drop]
      have bad : goodS rels cs f st = false → endS rels cs (fullF sz n) ss = false := fun hb => by
        unfold endS
        rw [esp, runS_app, run]
        show (match runS rels cs f (st :: ss.drop (i + 1)) with | some g => _ | none => false) = false
        unfold runS
        rw [hb]
        rfl
      have gd : goodS rels cs f st = true → runS rels cs (fullF sz n) (ss.take (i + 1)) = some (outF f st.v st.x) := fun hb => by
        rw [erun, runS_app, run]
        show (if goodS rels cs f st = true then some (outF f st.v st.x) else none) = _
        rw [if_pos hb]
      have stop : ∀ H', Gr H H' → goodS rels cs f st = false → Q (.bl false) H' := fun H' g hb => by
        have := q H' g
        rw [bad hb] at this
        exact this
      have eg : goodS rels cs f st = (decide ((st.x : Int) ∈ f.getD st.v []) && (decide (st.p < (cs.getD st.i (0, [])).2.length) && (decide ((cs.getD st.i (0, [])).2.getD st.p 0 = st.v) && (rels.getD (cs.getD st.i (0, [])).1 (0, [])).2.all (noR f (cs.getD st.i (0, [])).2 st.p st.x)))) := rfl
      rw [eg] at stop gd
      clear eg bad
      generalize cs.getD st.i (0, []) = c at *
      have oc := O.ok c (List.mem_of_getElem? ec)
      have oR := R.ok _ (List.mem_of_getElem? (rels_get oc.ix))
      have c4 : c.2.length ≤ 4 := by
        have := oc.len
        have := oR.1.ar4
        omega
      have clen : ((natL c.2).map V.int).length = c.2.length := by rw [List.length_map, List.length_map]
      obtain ⟨y, ey, dy⟩ := hxs.at (i := st.i) (d := conD c) (by rw [List.getElem?_map, ec]; rfl)
      obtain ⟨pc, bc, rfl, hpc, hbc⟩ := con_inv dy
      refine ⟨t, _, rfl, .inl (.inl ht), rfl, _, _, rfl, _, _, rfl, _, _, rfl, _, _, rfl, rfl, ?_⟩
      refine ⟨.ref pu, rfl, pu, _, 1, .ref bu, rfl, rfl, tb g1 hpu, atI_nat (j := 1) rfl, .int st.i, rfl, bu, _, (st.i : Int), .ref pc, rfl, rfl, tb g1 hbu, atI_nat ey, pc, _, rfl, tb g1 hpc, rfl, _, _, rfl, _, _, rfl, rfl, ?_⟩
      -- value not in left[name]
      obtain ⟨qs, hqs, ql, hq⟩ := id LL1
      have eq' : qs[st.v]? = some qs[st.v] := List.getElem?_eq_getElem (by omega)
      generalize qs[st.v] = qv at eq'
      have hqv := hq _ _ eq'
      refine ⟨.int st.x, rfl, .ref D, rfl, .int st.v, rfl, D, _, (st.v : Int), .ref qv, rfl, rfl, .inl (.inl hqs), atI_nat (by rw [List.getElem?_map, eq']; rfl), .int st.x, _, .int _, dp_intsI hqv, rfl, ints_shapedI _, _, rfl, ?_⟩
      rw [any_intI]
      refine ite2 (fun hn => ?_) (fun hn => ?_)
      · have hn : decide ((st.x : Int) ∈ f.getD st.v []) = false := by simpa using hn
        exact stop H1 g1 (by rw [hn]; rfl)
      have hn : (st.x : Int) ∈ f.getD st.v [] := by simpa using hn
      rw [decide_eq_true hn, Bool.true_and] at stop gd
      -- place >= len(scope)
      refine ⟨.int st.p, rfl, .ref bc, rfl, bc, _, rfl, .inr (tb g1 hbc), _, _, rfl, rfl, _, rfl, ?_⟩
      rw [clen, decide_eq_false (by omega)]
      refine iteF ?_
      rw [decide_eq_true hp, Bool.true_and] at stop gd
      refine ⟨.ref bc, rfl, .int st.p, rfl, bc, _, (st.p : Int), _, rfl, rfl, tb g1 hbc, nat_at hp, .int st.v, rfl, rfl, _, rfl, ?_⟩
      have e0 : (!decide (V.int ((c.2.getD st.p 0 : Nat) : Int) = V.int (st.v : Int))) = !decide (c.2.getD st.p 0 = st.v) := by
        congr 1
        exact decide_eq_decide.mpr ⟨fun h => by injection h with h; omega, fun h => by rw [h]⟩
      rw [e0]
      refine ite2 (fun hne => ?_) (fun hne => ?_)
      · have : decide (c.2.getD st.p 0 = st.v) = false := by simpa using hne
        exact stop H1 g1 (by rw [this]; rfl)
      have hcv : c.2.getD st.p 0 = st.v := by simpa using hne
      rw [decide_eq_true hcv, Bool.true_and] at stop gd
      -- the rows
      obtain ⟨z, ez, dz⟩ := rel_at hys oc.ix
      obtain ⟨oa, ob, zs, rfl, ho1, ho2, ho3⟩ := pair_inv dz
      have good : ∀ r ∈ (rels.getD c.1 (0, [])).2, r.length = c.2.length := fun r hr => by
        have h1 := oR.1.len r hr
        have h2 := oc.len
        omega
      have zl : zs.length = (rels.getD c.1 (0, [])).2.length := by rw [ho3.1, List.length_map]
      refine ⟨.ref pt, rfl, pt, _, 1, .ref bt, rfl, rfl, tb g1 hpt, atI_nat (j := 1) rfl, .int c.1, rfl, bt, ys, (c.1 : Int), .ref oa, rfl, rfl, tb g1 hbt, atI_nat ez, oa, _, 1, .ref ob, rfl, rfl, tb g1 ho1, atI_nat (j := 1) rfl, ob, rfl, ⟨zs, tb g1 ho2⟩, ?_⟩
      refine for_tup (K := K) (a := ob) (xs := zs) (fun k σ H2 => ∃ y10, σ = [some (.ref pt), some (.ref pu), some (.ref a), some (.ref D), some (.int st.v), some (.int st.x), some (.int st.i), some (.int st.p), some (.int c.1), some (.ref bc), y10, none, none] ∧ Gr H1 H2 ∧ ((rels.getD c.1 (0, [])).2.take k).all (noR f c.2 st.p st.x) = true) ⟨_, rfl, .refl, rfl⟩
        (fun k σ H2 _ h => by
          obtain ⟨_, _, g, _⟩ := h
          exact tb (g1.trans g) ho2) (fun k y σ H2 ek h => ?_) (fun σ H2 h => ?_)
      · obtain ⟨y10, rfl, g2, all⟩ := h
        have g12 := g1.trans g2
        obtain ⟨d, ed, dx2⟩ := ho3.at' ek
        rw [List.getElem?_map] at ed
        obtain ⟨r, er, rfl⟩ := Option.map_eq_some_iff.mp ed
        have rm := List.mem_of_getElem? er
        have rl := good r rm
        obtain ⟨t2, rfl, ht2⟩ := (dx2.gr g12).row_invS
        have next : noR f c.2 st.p st.x r = true → ((rels.getD c.1 (0, [])).2.take (k + 1)).all (noR f c.2 st.p st.x) = true := fun h => by
          rw [List.take_add_one, er, Option.toList_some, List.all_append, all]
          show (true && (noR f c.2 st.p st.x r && true)) = true
          rw [h]
          rfl
        refine ⟨.ref t2, rfl, .int st.p, rfl, t2, _, (st.p : Int), _, rfl, rfl, .inl (.inl ht2), row_at (by omega), .int st.x, rfl, rfl, _, rfl, ?_⟩
        rw [show decide (V.int (r.getD st.p 0) = V.int (st.x : Int)) = decide (r.getD st.p 0 = (st.x : Int)) from decide_eq_decide.mpr ⟨fun h => by injection h, fun h => by rw [h]⟩]
        refine ite2 (fun he => ?_) (fun he => iteF ⟨_, rfl, g2, next ?_⟩)
        · refine ⟨.ref bc, rfl, bc, _, rfl, .inr (tb g12 hbc), ?_⟩
          rw [clen]
          refine ⟨(c.2.length : Int), rfl, by omega, by omega, fun B nB => ?_⟩
          obtain ⟨qs, hqs, ql, hq⟩ := LL.gr g2 LL1
          refine lc_range (n := ((c.2.length : Nat) : Int).toNat) (fun m H4 => Gr H2 H4 ∧ H4 B = some (.lst ((wrongs f c.2 r m).map V.int))) ⟨Gx.new nB, upd_same⟩ (fun m H4 hm h => ?_) (fun H4 h => ?_)
          · obtain ⟨g4, hB⟩ := h
            have hm : m < c.2.length := by omega
            rw [show (0 : Int) + (m : Int) = (m : Int) from Int.zero_add _]
            have hpn : c.2.getD m 0 < n := oc.sc _ (by rw [List.getD_eq_getElem?_getD, List.getElem?_eq_getElem hm]; exact List.getElem_mem _)
            have eq' : qs[c.2.getD m 0]? = some qs[c.2.getD m 0] := List.getElem?_eq_getElem (by omega)
            generalize qs[c.2.getD m 0] = qq at *
            have hqq := g4.lst (hq _ _ eq')
            refine ⟨rfl, .ref t2, rfl, .int (m : Int), rfl, t2, _, (m : Int), _, rfl, rfl, .inl (.inl (Gx.tupS g4 .nil ht2)), row_at (by omega), .ref D, rfl, .ref bc, rfl, .int (m : Int), rfl, bc, _, (m : Int), _, rfl, rfl, tb (g12.trans g4) hbc, nat_at hm, D, _, ((c.2.getD m 0 : Nat) : Int), .ref qq, rfl, rfl, .inl (.inl (g4.lst hqs)), atI_nat (by rw [List.getElem?_map, eq']; rfl), _, _, .int _, dp_intsI hqq, rfl, ints_shapedI _, _, rfl, ?_⟩
            rw [any_intI]
            refine ite2 (fun hn2 => ?_) (fun hn2 => ?_)
            · have hn2 : r.getD m 0 ∉ f.getD (c.2.getD m 0) [] := by simpa using hn2
              refine ⟨.int (m : Int), rfl, _, hB, ?_, g4.wr nB, ?_⟩
              · rw [List.length_map]
                have := wrongs_len (fam := f) (ps := c.2) (r := r) (k := m)
                exact small1000 (by omega)
              · rw [upd_same, wrongs_succ, if_neg hn2, List.map_append]
                rfl
            · have hn2 : r.getD m 0 ∈ f.getD (c.2.getD m 0) [] := by simpa using hn2
              refine ⟨g4, ?_⟩
              rw [wrongs_succ, if_pos hn2, List.append_nil]
              exact hB
          · obtain ⟨g4, hB⟩ := h
            rw [Int.toNat_natCast] at hB
            refine ⟨Nat.zero_le _, fun e ne => ?_⟩
            have ge : Gr H4 (upd H4 e (.lst [])) := Gx.new ne
            refine ⟨_, .list [], dp_intsI (ge.lst hB), .lst (.inl (.inl upd_same)) .nil, ints_shapedI _, by decide, _, rfl, ?_⟩
            rw [ints_nilI, wrongs_nil]
            refine ite2 (fun hf => ?_) (fun hf => ⟨_, rfl, (g2.trans g4).trans ge, next ?_⟩)
            · refine stop _ ((g12.trans g4).trans ge) ?_
              rw [List.all_eq_false]
              refine ⟨r, rm, ?_⟩
              unfold noR
              rw [he, hf]
              simp
            · have hf : fitB f c.2 r = false := by simpa using hf
              unfold noR
              rw [hf, Bool.and_false]
              rfl
        · have he : decide (r.getD st.p 0 = (st.x : Int)) = false := by simpa using he
          unfold noR
          rw [he]
          rfl
      · obtain ⟨y10, rfl, g2, all⟩ := h
        rw [zl, List.take_length] at all
        have g12 := g1.trans g2
        obtain ⟨qs, hqs, ql, hq⟩ := LL.gr g2 LL1
        have eq2 : qs[st.v]? = some qs[st.v] := List.getElem?_eq_getElem (by omega)
        generalize qs[st.v] = q2 at eq2
        have hq2 := hq _ _ eq2
        have fv := f4 st.v
        refine ⟨.ref D, rfl, .int st.v, rfl, D, _, (st.v : Int), .ref q2, rfl, rfl, .inl (.inl hqs), atI_nat (by rw [List.getElem?_map, eq2]; rfl), q2, rfl, ⟨_, .inl (.inl hq2)⟩, fun B nB => ?_⟩
        refine lc_list (K := K) (a := q2) (xs := (f.getD st.v []).map V.int) (fun i H3 => Gr H2 H3 ∧ H3 B = some (.lst ((((f.getD st.v []).take i).filter fun y => decide (y ≠ (st.x : Int))).map V.int))) ⟨Gx.new nB, upd_same⟩ (fun i H3 _ h => .inl (.inl (h.1.lst hq2))) (fun i xv H3 ex h => ?_) (fun H3 h => ?_)
        · obtain ⟨g3, hB⟩ := h
          rw [List.getElem?_map] at ex
          obtain ⟨x, ex1, rfl⟩ := Option.map_eq_some_iff.mp ex
          have hi : i < (f.getD st.v []).length := (List.getElem?_eq_some_iff.mp ex1).1
          refine ⟨rfl, .int x, rfl, .int st.x, rfl, rfl, _, rfl, ?_⟩
          have e1 : (!decide (V.int x = V.int (st.x : Int))) = decide (x ≠ (st.x : Int)) := by
            by_cases h : x = (st.x : Int)
            · simp [h]
            · rw [decide_eq_true h, decide_eq_false (fun z => h (by injection z))]
              rfl
          rw [e1]
          refine ite2 (fun hm => ?_) (fun hm => ?_)
          · refine ⟨.int x, rfl, _, hB, ?_, g3.wr nB, ?_⟩
            · rw [List.length_map]
              have := List.length_filter_le (fun y => decide (y ≠ (st.x : Int))) ((f.getD st.v []).take i)
              rw [List.length_take] at this
              exact small1000 (by omega)
            · rw [upd_same, List.take_add_one, ex1, List.filter_append, Option.toList_some, List.filter_cons, if_pos hm, List.filter_nil, List.map_append]
              rfl
          · refine ⟨g3, ?_⟩
            rw [List.take_add_one, ex1, List.filter_append, Option.toList_some, List.filter_cons, if_neg hm, List.filter_nil, List.append_nil]
            exact hB
        · obtain ⟨g3, hB⟩ := h
          rw [List.length_map, List.take_length] at hB
          have BD : B ≠ D := fun z => by rw [z, hqs] at nB; cases nB
          refine ⟨.ref D, rfl, .int st.v, rfl, D, _, (st.v : Int), st.v, rfl, rfl, g3.lst hqs, ixN_nat (by rw [List.length_map]; omega), ?_⟩
          refine ⟨_, _, _, _, _, _, _, outF f st.v st.x, rfl, (g12.trans g3).wr nD, LL.put (g3.lst hqs) ql (fun i q e => g3.lst (hq i q e)) hB BD (by omega), by rw [out_len]; exact fl, fun j => ?_, gd all⟩
          rw [out_at]
          split
          · exact Nat.le_trans (List.length_filter_le ..) (f4 j)
          · exact f4 j
    · obtain ⟨y4, y5, y6, y7, y8, y9, y10, f, rfl, g1, LL1, fl, f4, run⟩ := h
      rw [wl, List.take_length] at run
      refine ⟨Nat.zero_le _, fun e ne => ?_⟩
      have ge : Gr H1 (upd H1 e (.lst [])) := Gx.new ne
      refine ⟨.ref D, rfl, .list [], famLD f, .lst (.inl (.inl upd_same)) .nil, dp_fam (LL.gr ge LL1), by decide, fam_shaped f, ?_⟩
      rw [fam_any]
      have q1 := q _ (g1.trans ge)
      unfold endS at q1
      rw [run] at q1
      exact q1
end K15

set_option Elab.async false
set_option linter.all false
set_option maxRecDepth 100000
namespace RV
open PySem PySem.Spec PySem.Calls PyProof PyProof.Rows HT
section
variable {prog : Program} {w : World} {A : Around} {E : Value → Shared → Prop} {s : Shared}
theorem adjust_rev (n : Nat) : Builtin.Slice.sliceAdjust none none (-1) (n : Int) = ((n : Int) - 1, -1) := by
  unfold Builtin.Slice.sliceAdjust
  simp
theorem places_rev (n : Nat) : Builtin.Slice.slicePlaces ((n : Int) - 1) (-1) (-1) = n := by
  unfold Builtin.Slice.slicePlaces
  have h1 : ¬ ((-1 : Int) > 0) := by decide
  simp only [h1, if_false]
  by_cases h : n = 0
  · subst h
    decide
  · rw [if_pos (by omega)]
    have e : ((n : Int) - 1 - -1 - 1) / (- -1) = (n : Int) - 1 := by
      rw [show (- -1 : Int) = 1 by decide, Int.ediv_one]
      omega
    omega
theorem sliceApplied_rev {sl : Addr} {vl vu vs : Value} {n : Nat} {Q : Int × Int × Nat → Shared → Prop} (hs : s.heap.IsSliceOf sl vl vu vs) (pl : IsPart vl none) (pu : IsPart vu none) (ps : IsPart vs (some (-1)))
    (h : Q ((n : Int) - 1, -1, n) s) : wpAny (model prog w) A (Builtin.Slice.sliceApplied (.ref sl) (pure (n : Int))) Q E s := by
  obtain ⟨os, hos, hcs, hds⟩ := id hs
  unfold Builtin.Slice.sliceApplied Builtin.Slice.sliceFields
  refine wpAny_bind (wpAny_bind (wpAny_field hos hds (x := vl) rfl (wpAny_bind (wpAny_field hos hds (x := vu) rfl (wpAny_bind (wpAny_field hos hds (x := vs) rfl (wpAny_pure ?_)))))))
  refine wpAny_bind (slicePart_ ps ?_)
  show wpAny _ _ (if ((-1 : Int) == 0) = true then _ else _) _ _ s
  rw [if_neg (by decide)]
  refine wpAny_bind (slicePart_ pl (wpAny_bind (slicePart_ pu (wpAny_bind (wpAny_pure ?_)))))
  show wpAny _ _ (match Builtin.Slice.sliceAdjust none none (-1) (n : Int) with | (lo, hi) => pure (lo, (-1 : Int), Builtin.Slice.slicePlaces lo hi (-1))) _ _ s
  rw [adjust_rev n]
  show wpAny _ _ (pure ((n : Int) - 1, (-1 : Int), Builtin.Slice.slicePlaces ((n : Int) - 1) (-1) (-1))) _ _ s
  rw [places_rev]
  exact wpAny_pure h
theorem fm_congr {α β : Type} {f g : α → Option β} : ∀ {l : List α}, (∀ a ∈ l, f a = g a) → l.filterMap f = l.filterMap g
  | [], _ => rfl
  | a :: l, h => by
    rw [List.filterMap_cons, List.filterMap_cons, h a List.mem_cons_self, fm_congr fun b hb => h b (List.mem_cons_of_mem _ hb)]
theorem pick_rev (xs : Array Value) : ((List.range xs.size).filterMap fun (m : Nat) => xs[(((xs.size : Int) - 1) + (m : Int) * (-1)).toNat]?).toArray = xs.toList.reverse.toArray := by
  have e : (List.range xs.size).filterMap (fun (m : Nat) => xs[(((xs.size : Int) - 1) + (m : Int) * (-1)).toNat]?) = xs.toList.reverse := by
    rw [← PySem.W.krv_all xs, ← List.filterMap_reverse, ← PySem.W.krv_range, List.filterMap_map]
    refine fm_congr fun m hm => ?_
    have := List.mem_range.mp hm
    have e2 : (((xs.size : Int) - 1) + (m : Int) * (-1)).toNat = xs.size - 1 - m := by omega
    show xs[(((xs.size : Int) - 1) + (m : Int) * (-1)).toNat]? = xs[xs.size - 1 - m]?
    rw [e2]
  rw [e]
theorem getItem_tuple_rev {t sl : Addr} {items : Array Value} {vl vu vs : Value} {Q : Value → Shared → Prop} (ht : IsTup s.heap t items) (hs : s.heap.IsSliceOf sl vl vu vs) (pl : IsPart vl none) (pu : IsPart vu none) (ps : IsPart vs (some (-1)))
    (h : Q (.ref s.heap.objs.size) { s with heap := s.heap.push { cls := .type "tuple", data := .seq items.toList.reverse.toArray } })
    (hsz : items.size ≤ sizeLine) : wpAny (model prog w) A (getItem (.ref t) (.ref sl)) Q E s := by
  have htake : sizeOk (.seq items.toList.reverse.toArray) := by
    show items.toList.reverse.toArray.size ≤ sizeLine
    rw [List.size_toArray, List.length_reverse, Array.length_toList]
    exact hsz
  obtain ⟨os, hos, hcs, hds⟩ := id hs
  have hTs : s.TypeIs (.ref sl) "slice" := ⟨os, hos, hcs⟩
  unfold getItem
  try with_reducible refine wpAny_holding ?_
  first | refine wpAny_bind (wpAny_pure ?_) | skip
  refine wpAny_bind (wpAny_sequenceKey ht.typeIs (by decide) ?_)
  refine wpAny_bind (wpAny_callSpecial?_slot (name := Str.ofString "__getitem__") ht.typeIs PyProof.Rows.slot_tuple_getitem
    (wpAny_call_entry PyProof.Rows.slot_tuple_getitem ht.typeIs entry_tuple_getitem ?_ (args_tuple_getitem _ _)))
  show wpAny _ _ (Builtin.Tuple.tupleItemsOf (.ref t) >>= _) _ _ s
  refine wpAny_bind (tupleItemsOf_ ht ?_)
  refine wpAny_bind (wpAny_typeOf hTs ?_)
  rw [if_pos (by decide)]
  refine wpAny_bind (sliceApplied_rev hs pl pu ps ?_)
  have hno : ¬ (((items.size : Int) - 1 == 0 && (-1 : Int) == 1 && items.size == items.size) = true) := by
    intro q
    rw [Bool.and_eq_true, Bool.and_eq_true] at q
    exact absurd (eq_of_beq q.1.2) (by decide)
  show wpAny _ _ (if ((items.size : Int) - 1 == 0 && (-1 : Int) == 1 && items.size == items.size) = true then _ else _) _ _ s
  rw [if_neg hno, pick_rev]
  first
    | exact wpAny_bind (m := Builtin.Tuple.tupleExact _) (wpAny_newObj_type (wpAny_pure ⟨_, rfl, wpAny_pure h⟩) htake)
    | exact wpAny_bind (m := Builtin.Tuple.tupleExact _) (wpAny_newObj_type (wpAny_bind (wpAny_pure (wpAny_pure ⟨_, rfl, wpAny_pure h⟩))) htake)
    | exact wpAny_bind (wpAny_bind (m := Builtin.Tuple.tupleExact _) (wpAny_newObj_type (wpAny_pure (wpAny_pure ⟨_, rfl, wpAny_pure h⟩)) htake))
    | exact wpAny_bind (wpAny_bind (m := Builtin.Tuple.tupleExact _) (wpAny_newObj_type (wpAny_pure ⟨_, rfl, wpAny_pure h⟩) htake))
end
end RV
namespace L2
open PySem PySem.Spec PyProof.Rows
section
variable {X : Cx}
/-- t[::-1] of a tuple -/
def tRevT (K : PySem.W.Frag) (te : TE) : TE := fun σ H Q => te σ H fun x H1 => ∃ a xs, x = .ref a ∧ SqT K H1 a xs ∧ ∀ p, H1 p = none → Q (.ref p) (upd H1 p (.tup xs.reverse))
theorem pe_revT {e : Expr} {te : TE} {k : Nat} {p1 p2 p3 pos : Pos} (he : PE X e te) : PE X (.Subscript e (.Slice none none (some (.UnaryOp .USub (.Constant (.int 1) k p1) p2)) p3) pos) (tRevT X.K te) := by
  refine ⟨fun pins s σ H Q I h => ?_⟩
  refine Subscript_ (thn (he.run pins s σ H _ I h) fun v s1 ⟨x, H1, I1, r1, q1⟩ => ?_)
  obtain ⟨a, xs, ex, hx, q⟩ := q1
  subst ex
  cases r1
  have hst : PO X (some (.UnaryOp .USub (.Constant (.int 1) k p1) p2)) (tPart (tUn (rU fun i => .int (-i)) (tC (.int 1)))) := po_some (pe_un un_neg pe_int)
  refine wpAny_Slice (thn (po_none.run pins s1 σ H1 (fun o H2 => o = none ∧ H2 = H1) I1 ⟨rfl, rfl⟩) fun vl s2 ⟨l, H2, I2, pl, el, e2⟩ => ?_)
  subst el e2
  refine thn (po_none.run pins s2 σ H2 (fun o H3 => o = none ∧ H3 = H2) I2 ⟨rfl, rfl⟩) fun vu s3 ⟨u, H3, I3, pu, eu, e3⟩ => ?_
  subst eu e3
  refine thn (hst.run pins s3 σ H3 (fun o H4 => o = some (-1) ∧ H4 = H3) I3 ⟨1, rfl, -1, rfl, rfl, rfl⟩) fun vs s4 ⟨o, H4, I4, ps, eo, e4⟩ => ?_
  subst eo e4
  have I5 : Inv X pins σ H4 { s4 with heap := s4.heap.push { cls := .type "slice", data := .fields #[vl, vu, vs] } } := I4.kept (t' := s4.toks) fun b ob q => Heap.get?_push_of_some _ q
  obtain ⟨its, r, ht, hz⟩ := I5.tuple hx
  have hlen := r.length
  show wpAny (model X.prog X.w) X.A (subscriptTail e (.Slice none none (some (.UnaryOp .USub (.Constant (.int 1) k p1) p2)) p3) (.ref a) (.ref s4.heap.objs.size)) (EP X pins σ Q) X.xe { s4 with heap := s4.heap.push { cls := .type "slice", data := .fields #[vl, vu, vs] } }
  refine tail_any (ops := [.ref a, .ref s4.heap.objs.size]) ht.typeIs (PyProof.Rows.slot_tuple_getitem.lookup) ?_ (by with_unfolding_all rfl)
  refine RV.getItem_tuple_rev ht (Heap.IsSliceOf.new _ vl vu vs) pl pu ps ?_ (by rw [List.size_toArray]; omega)
  refine ⟨.ref _, _, I5.laid (t' := s4.toks) (o := .tup xs.reverse) (fun b ob q => Heap.get?_push_of_some _ q) (Nat.le_refl _) ?_, rfl, q _ (I5.hok.fresh (Nat.le_refl _))⟩
  exact ⟨by rw [List.length_reverse]; exact hz, _, r.reverse, IsTup.new _ _⟩
end
end L2

set_option Elab.async false
set_option linter.all false
set_option maxRecDepth 100000
set_option maxHeartbeats 4000000
namespace K15
open PySem PySem.Spec PyProof.Rows L2 TK MR ZB
variable {P : Program} {w : World} {K : PySem.W.Frag} {mg : Str → Option Value} {base : Heap}
theorem pe_revTK (K : PySem.W.Frag) {X : Cx} {e : Expr} {te : TE} {k : Nat} {p1 p2 p3 pos : Pos} (he : PE X e te) (hK : X.K = K := by rfl) : PE X (.Subscript e (.Slice none none (some (.UnaryOp .USub (.Constant (.int 1) k p1) p2)) p3) pos) (tRevT K te) := hK ▸ pe_revT he
section
variable {H : Hp} {Q : VK}
theorem slA_gr {a : Addr} {xs : List V} {lo hi : Option Int} (h : H a = some (.tup xs)) (q : ∀ p H', Gr H H' → H' p = some (.tup (cutV xs lo hi)) → Q (.ref p) H') : rSlA K (.ref a) lo hi H Q := by
  refine ⟨a, xs, rfl, .inl (.inl h), fun hw => q a H .refl ?_, fun _ p np => q p _ (Gx.new np) upd_same⟩
  unfold cutV
  rw [hw.1, hw.2, List.drop_zero, Nat.sub_zero, List.take_length]
  exact h
theorem catA_gr {a b : Addr} {xs ys : List V} (h1 : H a = some (.tup xs)) (h2 : H b = some (.tup ys)) (hl : xs.length + ys.length ≤ sizeLine) (q : ∀ p H', Gr H H' → H' p = some (.tup (xs ++ ys)) → Q (.ref p) H') : rCatA K (.ref a) (.ref b) H Q := by
  refine ⟨a, b, xs, ys, rfl, rfl, .inl (.inl h1), .inl (.inl h2), hl, fun z => q b H .refl (by rw [z]; exact h2), fun _ z => q a H .refl (by rw [z, List.append_nil]; exact h1), fun _ _ p np => q p _ (Gx.new np) upd_same⟩
theorem cut_take (xs : List V) {k : Nat} (h : k ≤ xs.length) : cutV xs none (some (k : Int)) = xs.take k := by
  unfold cutV
  rw [HT.sIx_none, HT.sIx_nat, List.drop_zero, Nat.sub_zero, Nat.min_eq_left h]
theorem cut_drop (xs : List V) {k : Nat} (h : k ≤ xs.length) : cutV xs (some ((k : Int) + 1)) none = xs.drop (k + 1) := by
  unfold cutV
  rw [HT.sIx_none, show ((k : Int) + 1) = ((k + 1 : Nat) : Int) from rfl, HT.sIx_nat]
  by_cases e : k = xs.length
  · subst e
    rw [Nat.min_eq_right (by omega), Nat.sub_self, List.take_zero, List.drop_eq_nil_of_le (by omega)]
  · rw [Nat.min_eq_left (by omega)]
    refine List.take_of_length_le ?_
    rw [List.length_drop]
    omega
theorem DTs.take {vs : List V} {ds : List PyData} (h : DTs K H vs ds) (k : Nat) : DTs K H (vs.take k) (ds.take k) := by
  refine ⟨by rw [List.length_take, List.length_take, h.1], fun i v d e e' => ?_⟩
  rw [List.getElem?_take] at e e'
  split at e
  · rename_i hi
    rw [if_pos hi] at e'
    exact h.2 i v d e e'
  · cases e
theorem DTs.drop {vs : List V} {ds : List PyData} (h : DTs K H vs ds) (k : Nat) : DTs K H (vs.drop k) (ds.drop k) := by
  refine ⟨by rw [List.length_drop, List.length_drop, h.1], fun i v d e e' => ?_⟩
  rw [List.getElem?_drop] at e e'
  exact h.2 _ v d e e'
theorem DTs.rev {vs : List V} {ds : List PyData} (h : DTs K H vs ds) : DTs K H vs.reverse ds.reverse := by
  refine ⟨by rw [List.length_reverse, List.length_reverse, h.1], fun i v d e e' => ?_⟩
  have hi := (List.getElem?_eq_some_iff.mp e).1
  rw [List.length_reverse] at hi
  rw [List.getElem?_reverse hi] at e
  rw [List.getElem?_reverse (by rw [← h.1]; exact hi), ← h.1] at e'
  exact h.2 _ v d e e'
end
theorem cons_shapedT (cs : List Con) : SeqAt.shaped (.tuple (cs.map conD)) = true := by
  have hd : PyData.depthAll (cs.map conD) ≤ 20 := by
    induction cs with
    | nil => simp [PyData.depthAll]
    | cons c cs ih =>
      have h0 := ints_depth (natL c.2)
      rw [List.map_cons]
      simp only [PyData.depthAll, PyData.depth, rowD] at h0 ⊢
      omega
  have h2 : PyData.canLayAll0 (cs.map conD) = true := by
    clear hd
    induction cs with
    | nil => simp [PyData.canLayAll0]
    | cons c cs ih =>
      have h0 : ∀ ns : List Int, PyData.canLayAll0 (ns.map PyData.int) = true := fun ns => by
        induction ns with
        | nil => simp [PyData.canLayAll0]
        | cons n ns ih => simp only [List.map_cons, PyData.canLayAll0, ih, PyData.canLay0, Bool.and_self]
      rw [List.map_cons]
      simp only [PyData.canLayAll0, PyData.canLay0, rowD, h0, ih, Bool.and_self]
  have h1 : PyData.depth (.tuple (cs.map conD)) ≤ 64 := by
    simp only [PyData.depth]
    omega
  show (PyData.canLay0 (.tuple (cs.map conD)) && decide (PyData.depth (.tuple (cs.map conD)) ≤ 64)) = true
  rw [Bool.and_eq_true]
  exact ⟨by simp only [PyData.canLay0]; exact h2, decide_eq_true h1⟩
theorem cons_nilT (cs : List Con) : PyData.eqv (.tuple (cs.map conD)) (.tuple []) = decide (cs = []) := by
  cases cs with
  | nil => simp [PyData.eqv, PyData.eqvAll]
  | cons r rows => simp [PyData.eqv, PyData.eqvAll]
theorem stepsD_rows (ss : List Stp) : stepsD ss = (ss.map stR).map rowD := by
  unfold stepsD
  rw [List.map_map]
  rfl
theorem InsOk.app {rels : Rels} {n : Nat} {a b : List Con} (h : InsOk rels n a) (k : InsOk rels n b) (l : a.length + b.length ≤ 200) : InsOk rels n (a ++ b) :=
  ⟨h.n16, by rw [List.length_append]; exact l, fun c hc => (List.mem_append.mp hc).elim (h.ok c) (k.ok c)⟩
/-! odd refusals -/
def OddV (K : PySem.W.Frag) (H : Hp) (n sz : Nat) (cs : List Con) (x : V) : Prop := DT K H x (.tuple []) ∨ NoTup K H x ∨ ∃ a y ys, x = .ref a ∧ H a = some (.tup (y :: ys)) ∧ OddS K H n sz cs y
theorem OddV.gr {H H' : Hp} {n sz : Nat} {cs : List Con} {x : V} (g : Gr H H') (h : OddV K H n sz cs x) : OddV K H' n sz cs x :=
  h.imp (fun h => h.gr g) fun h => h.imp (fun h => h.gr g) fun ⟨a, y, ys, e, h, k⟩ => ⟨a, y, ys, e, Gx.tupS g .nil h, k.gr g⟩
/-- the odd values so far -/
def Odds (K : PySem.W.Frag) (H : Hp) (n sz : Nat) (cs : List Con) (L : List V) : Prop := ∀ x ∈ L, OddV K H n sz cs x
theorem Odds.gr {H H' : Hp} {n sz : Nat} {cs : List Con} {L : List V} (g : Gr H H') (h : Odds K H n sz cs L) : Odds K H' n sz cs L := fun x hx => (h x hx).gr g
theorem Odds.add {H H' : Hp} {n sz : Nat} {cs : List Con} {L : List V} {x : V} (h : Odds K H n sz cs L) (g : Gr H H') (k : OddV K H' n sz cs x) : Odds K H' n sz cs (L ++ [x]) := fun y hy => (List.mem_append.mp hy).elim (fun h1 => (h y h1).gr g) fun h1 => by rw [List.mem_singleton.mp h1]; exact k
theorem noT_non {H : Hp} : NoTup K H .non := ⟨"NoneType", fun _ _ => .base .non, by decide +kernel⟩
theorem noT_int {H : Hp} (i : Int) : NoTup K H (.int i) := ⟨"int", fun _ _ => .base (.int i), by decide +kernel⟩
theorem noT_dict {H : Hp} {d : Addr} {kvs : List (L2.Key × V)} (h : H d = some (.dK kvs)) : NoTup K H (.ref d) := ⟨"dict", fun H2 g => .base (.dK (Gx.at g (by simp) h fun _ z => by cases z)), by decide +kernel⟩
theorem noT_list {H : Hp} {d : Addr} {xs : List V} (h : H d = some (.lst xs)) : NoTup K H (.ref d) := ⟨"list", fun H2 g => .base (.lst (Gx.lst g h)), by decide +kernel⟩
theorem noI_non {H : Hp} {m : Int} : NoInt K H m .non := .inr ⟨"NoneType", false, fun _ _ => .base .non, by decide +kernel, fun z => by cases z⟩
theorem noI_bl {H : Hp} {m : Int} (b : Bool) : NoInt K H m (.bl b) := .inr ⟨"bool", true, fun _ _ => .base (.bl b), by decide +kernel, fun _ => by decide +kernel⟩
theorem noI_out {H : Hp} {m i : Int} (h : ¬ (0 ≤ i ∧ i ≤ m - 1)) : NoInt K H m (.int i) := .inl ⟨i, rfl, h⟩
section
variable {H : Hp} {n sz : Nat} {cs : List Con} {a b : Addr} {v1 v2 v3 v4 : V} {xs : List V}
/-- one step in a tuple: the tuples are made one after another -/
theorem two_new (na : H a = none) (nb : (upd H a (.tup xs)) b = none) : Gr H (upd (upd H a (.tup xs)) b (.tup [.ref a])) ∧ (upd (upd H a (.tup xs)) b (.tup [.ref a])) a = some (.tup xs) ∧ (upd (upd H a (.tup xs)) b (.tup [.ref a])) b = some (.tup [.ref a]) := by
  have ne : a ≠ b := fun z => by rw [← z, upd_same] at nb; cases nb
  exact ⟨(Gx.new na).trans (Gx.new nb), by rw [upd_ne ne, upd_same], upd_same⟩
end
end K15

set_option Elab.async false
set_option linter.all false
set_option maxRecDepth 100000
set_option maxHeartbeats 4000000
namespace K15
open PySem PySem.Spec PyProof.Rows L2 TK MR ZB
variable {P : Program} {w : World} {K : PySem.W.Frag} {mg : Str → Option Value} {base : Heap}
theorem ok_law (T : Txt K mg base) : FnOk P w K mg base CX0 11 T.law.f T.law.fd p_law (sp_law T) := by
  refine T.law.F.ok sc_law (fun vs H Q E h => ?_) (fun A outer s H vs Q E hr h => ?_)
  · obtain ⟨_, _, rfl, _⟩ := h
    rfl
  · obtain ⟨c, ns, rfl, hS, hc, hT, q⟩ := h
    have hu65 : (A.deeper (envOfC "law" (defScope s_law) s.heap.objs.size T.law.f (.ref T.law.c))).units + 65 < cLine := by have := hr.un; omega
    have hu64 : (A.deeper (envOfC "law" (defScope s_law) s.heap.objs.size T.law.f (.ref T.law.c))).units + 64 < cLine := by omega
    refine ⟨_, (pss_cons (ps_set (i := 1) sc_law.nd rfl (by first | exact .inl rfl | exact .inr rfl) (pe_lst (pa_cons (pv 0) (pa_cons (pe_int) (pa_cons (pe_int) (pa_cons (pe_int) pa_nil)))))) (pss_cons (ps_set (i := 2) sc_law.nd rfl (by first | exact .inl rfl | exact .inr rfl) (pe_op op_add pe_int (pe_call (ok_law_taken T) (hr.mono (by decide)) (by rfl) T.law_taken.g T.law_taken.F.kp T.law_taken.b .nil pass0 (pa_cons (pv 1) (pa_cons (pe_int) pa_nil))))) (pss_cons (ps_set (i := 3) sc_law.nd rfl (by first | exact .inl rfl | exact .inr rfl) (pe_call (ok_law_template T) (hr.mono (by decide)) (by rfl) T.law_template.g T.law_template.F.kp T.law_template.b .nil pass0 (pa_cons (pv 1) (pa_cons (pv 2) (pa_cons (pe_int) (pa_cons (pe_int) (pa_cons (pe_int) pa_nil))))))) (pss_cons (ps_set (i := 4) sc_law.nd rfl (by first | exact .inl rfl | exact .inr rfl) (pe_op op_add pe_int (pe_call (ok_law_taken T) (hr.mono (by decide)) (by rfl) T.law_taken.g T.law_taken.F.kp T.law_taken.b .nil pass0 (pa_cons (pv 1) (pa_cons (pe_int) pa_nil))))) (pss_cons (ps_set (i := 5) sc_law.nd rfl (by first | exact .inl rfl | exact .inr rfl) (pe_op (op_catAK K) (pe_ix (ix_tupK K) (pe_call (ok_law_instance T) (hr.mono (by decide)) (by rfl) T.law_instance.g T.law_instance.F.kp T.law_instance.b .nil pass0 (pa_cons (pv 1) (pa_cons (pv 3) (pa_cons (pv 4) (pa_cons (pe_int) pa_nil))))) pe_int (fun _ _ => rfl)) (pe_ix (ix_tupK K) (pe_call (ok_law_instance T) (hr.mono (by decide)) (by rfl) T.law_instance.g T.law_instance.F.kp T.law_instance.b .nil pass0 (pa_cons (pv 1) (pa_cons (pv 3) (pa_cons (pv 4) (pa_cons (pe_int) pa_nil))))) pe_int (fun _ _ => rfl)))) (pss_cons (ps_set (i := 6) sc_law.nd rfl (by first | exact .inl rfl | exact .inr rfl) (pe_tup (pa_cons (pv 4) (pa_cons (pv 5) pa_nil)))) (pss_cons (ps_set (i := 7) sc_law.nd rfl (by first | exact .inl rfl | exact .inr rfl) (pe_call (ok_arc_refusal T) (hr.mono (by decide)) (by rfl) T.arc_refusal.g T.arc_refusal.F.kp T.arc_refusal.b .nil pass0 (pa_cons (pv 3) (pa_cons (pv 6) pa_nil)))) (pss_cons (ps_if (pt_cmpR op_ne (pe_cmpR op_isN (pv 7) pe_non (nomark _)) (pe_cmpR op_notN (pe_call (ok_arc_domains T) (hr.mono (by decide)) (by rfl) T.arc_domains.g T.arc_domains.F.kp T.arc_domains.b .nil pass0 (pa_cons (pv 3) (pa_cons (pv 6) pa_nil))) pe_non (nomark _)) (nomark _)) (pss_one (ps_never)) pss_nil) (pss_cons (ps_if (pt_cmpR op_notN (pv 7) pe_non (nomark _))
        (pss_cons (ps_if (pt_not (pt_val (pe_callB call_isi (by rfl) T.b_isinstance boot_isinstance (pa_cons (pv 7) (pa_cons (pe_bltn (v := .ty "tuple") (by rfl) T.b_tuple boot_tuple rfl) pa_nil))))) (pss_one (ps_never)) pss_nil) (pss_cons (ps_for PassesOwn.never rfl (pi_tupK K (pv 7)) (pg_name (i := 8) sc_law.nd rfl (by first | exact .inl rfl | exact .inr rfl))
            (pss_cons (ps_if (PW.pt (pw_or (pt_not (pt_val (pe_callB call_isi (by rfl) T.b_isinstance boot_isinstance (pa_cons (pv 8) (pa_cons (pe_bltn (v := .ty "tuple") (by rfl) T.b_tuple boot_tuple rfl) pa_nil))))) (pw_or (pt_cmpR op_ne (pe_callB (call_len_seqK K) (by rfl) T.b_len PySem.boot_len (pa_cons (pv 8) pa_nil)) pe_int (nomark _))
                (pw_or1 (pt_not (pt_val (pe_call (ok_law_whole T) (hr.mono (by decide)) (by rfl) T.law_whole.g T.law_whole.F.kp T.law_whole.b .nil pass0 (pa_cons (pe_ix (ix_tupK K) (pv 8) pe_int (fun _ _ => rfl)) (pa_cons (pe_int) (pa_cons (pe_op op_sub (pe_callB (call_len_seqK K) (by rfl) T.b_len PySem.boot_len (pa_cons (pv 5) pa_nil)) pe_int) pa_nil)))))))))) (pss_one (ps_never)) pss_nil) (pss_one (ps_if (PW.pt (pw_or (pt_not (pt_val (pe_call (ok_law_whole T) (hr.mono (by decide)) (by rfl) T.law_whole.g T.law_whole.F.kp T.law_whole.b .nil pass0 (pa_cons (pe_ix (ix_tupK K) (pv 8) pe_int (fun _ _ => rfl)) (pa_cons (pe_int) (pa_cons (pe_op op_sub (pv 4) pe_int) pa_nil)))))) (pw_or1 (pt_not (pt_val (pe_call (ok_law_whole T) (hr.mono (by decide)) (by rfl) T.law_whole.g T.law_whole.F.kp T.law_whole.b .nil pass0 (pa_cons (pe_ix (ix_tupK K) (pv 8) pe_int (fun _ _ => rfl)) (pa_cons (pe_int) (pa_cons (pe_op op_sub (pv 2) pe_int) pa_nil))))))))) (pss_one (ps_never)) pss_nil)))) (pss_cons (ps_if (PW.pt (pw_or (pt_not (pt_val (pe_call (ok_law_taken_away T) (hr.mono (by decide)) (by rfl) T.law_taken_away.g T.law_taken_away.F.kp T.law_taken_away.b .nil pass0 (pa_cons (pv 3) (pa_cons (pv 6) (pa_cons (pv 7) pa_nil)))))) (pw_or1 (pt_cmpR op_isnot_bl (pe_call (ok_shows_arc_refusal T) (hr.mono (by decide)) (by rfl) T.shows_arc_refusal.g T.shows_arc_refusal.F.kp T.shows_arc_refusal.b .nil pass0 (pa_cons (pv 3) (pa_cons (pv 6) (pa_cons (pv 7) pa_nil)))) pe_bl (nomark _))))) (pss_one (ps_never)) pss_nil) (pss_cons (ps_set (i := 9) sc_law.nd rfl (by first | exact .inl rfl | exact .inr rfl) (pe_call (ok_law_taken T) (hr.mono (by decide)) (by rfl) T.law_taken.g T.law_taken.F.kp T.law_taken.b .nil pass0 (pa_cons (pv 1) (pa_cons (pe_callB (call_len_seqK K) (by rfl) T.b_len PySem.boot_len (pa_cons (pv 7) pa_nil)) pa_nil)))) (pss_cons (ps_set (i := 10) sc_law.nd rfl (by first | exact .inl rfl | exact .inr rfl) (pe_op (op_catAK K) (pe_slice (sl_tupAK K) (pv 7) po_none (po_some (pv 9))) (pe_slice (sl_tupAK K) (pv 7) (po_some (pe_op op_add (pv 9) pe_int)) po_none))) (pss_cons (ps_if (pt_not (pt_val (pe_call (ok_alike_bl T) (hr.mono (by decide)) (by rfl) T.law_alike.g T.law_alike.F.kp T.law_alike.b .nil pass0 (pa_cons ((pe_call (ok_shows_arc_refusal T) (hr.mono (by decide)) (by rfl) T.shows_arc_refusal.g T.shows_arc_refusal.F.kp T.shows_arc_refusal.b .nil pass0 (pa_cons (pv 3) (pa_cons (pv 6) (pa_cons (pv 10) pa_nil))))) (pa_cons ((pe_call (ok_law_taken_away T) (hr.mono (by decide)) (by rfl) T.law_taken_away.g T.law_taken_away.F.kp T.law_taken_away.b .nil pass0 (pa_cons (pv 3) (pa_cons (pv 6) (pa_cons (pv 10) pa_nil))))) pa_nil))))) (pss_one (ps_never)) pss_nil) (pss_cons (ps_if (pt_cmpR op_isnot_bl (pe_call (ok_shows_arc_refusal T) (hr.mono (by decide)) (by rfl) T.shows_arc_refusal.g T.shows_arc_refusal.F.kp T.shows_arc_refusal.b .nil pass0 (pa_cons (pv 3) (pa_cons (pv 6) (pa_cons (pe_op (op_catAK K) (pv 7) (pe_tup (pa_cons (pe_ix (ix_tupK K) (pv 7) (pv 9) (fun _ _ => rfl)) pa_nil))) pa_nil)))) pe_bl (nomark _)) (pss_one (ps_never)) pss_nil) (pss_one (ps_if (pt_cmpR (op_neD hu64) (pv 7) (pe_revTK K (pv 7)) (nomark _))
            (pss_cons (ps_set (i := 11) sc_law.nd rfl (by first | exact .inl rfl | exact .inr rfl) (pe_call (ok_law_taken_away T) (hr.mono (by decide)) (by rfl) T.law_taken_away.g T.law_taken_away.F.kp T.law_taken_away.b .nil pass0 (pa_cons (pv 3) (pa_cons (pv 6) (pa_cons (pe_revTK K (pv 7)) pa_nil))))) (pss_one (ps_if (pt_not (pt_val (pe_call (ok_alike_bl T) (hr.mono (by decide)) (by rfl) T.law_alike.g T.law_alike.F.kp T.law_alike.b .nil pass0 (pa_cons ((pe_call (ok_shows_arc_refusal T) (hr.mono (by decide)) (by rfl) T.shows_arc_refusal.g T.shows_arc_refusal.F.kp T.shows_arc_refusal.b .nil pass0 (pa_cons (pv 3) (pa_cons (pv 6) (pa_cons (pe_revTK K (pv 7)) pa_nil))))) (pa_cons (pv 11) pa_nil))))) (pss_one (ps_never)) pss_nil))) pss_nil))))))))) pss_nil) (pss_cons (ps_set (i := 12) sc_law.nd rfl (by first | exact .inl rfl | exact .inr rfl) (pe_lst pa_nil)) (pss_cons (ps_if (pt_cmpR (op_neD hu64) (pv 5) (pe_tup pa_nil) (nomark _))
        (pss_cons (ps_for PassesOwn.never rfl (pi_range1 (by rfl) T.b_range (pa_cons (pe_op op_add pe_int (pe_call (ok_law_taken T) (hr.mono (by decide)) (by rfl) T.law_taken.g T.law_taken.F.kp T.law_taken.b .nil pass0 (pa_cons (pv 1) (pa_cons (pe_int) pa_nil)))) pa_nil)) (pg_name (i := 13) sc_law.nd rfl (by first | exact .inl rfl | exact .inr rfl))
            (pss_cons (ps_set (i := 14) sc_law.nd rfl (by first | exact .inl rfl | exact .inr rfl) (pe_call (ok_law_taken T) (hr.mono (by decide)) (by rfl) T.law_taken.g T.law_taken.F.kp T.law_taken.b .nil pass0 (pa_cons (pv 1) (pa_cons (pe_callB (call_len_seqK K) (by rfl) T.b_len PySem.boot_len (pa_cons (pv 5) pa_nil)) pa_nil)))) (pss_cons (ps_set (i := 15) sc_law.nd rfl (by first | exact .inl rfl | exact .inr rfl) (pe_call (ok_law_taken T) (hr.mono (by decide)) (by rfl) T.law_taken.g T.law_taken.F.kp T.law_taken.b .nil pass0 (pa_cons (pv 1) (pa_cons (pe_callB (call_len_seqK K) (by rfl) T.b_len PySem.boot_len (pa_cons (pe_ix (ix_tupK K) (pe_ix (ix_tupK K) (pv 5) (pv 14) (fun _ _ => rfl)) pe_int (fun _ _ => rfl)) pa_nil)) pa_nil)))) (pss_one (ps_expr (pe_bm PySem.F.plainAttrs_list PySem.F.slot_list_append PySem.F.type_list_append mt_append (pv 12) (pa_cons (pe_tup (pa_cons (pe_ix (ix_tupK K) (pe_ix (ix_tupK K) (pe_ix (ix_tupK K) (pv 5) (pv 14) (fun _ _ => rfl)) pe_int (fun _ _ => rfl)) (pv 15) (fun _ _ => rfl)) (pa_cons ((pe_call (ok_law_taken T) (hr.mono (by decide)) (by rfl) T.law_taken.g T.law_taken.F.kp T.law_taken.b .nil pass0 (pa_cons (pv 1) (pa_cons (pv 2) pa_nil)))) (pa_cons (pv 14) (pa_cons (pv 15) pa_nil))))) pa_nil))))))) (pss_cons (ps_set (i := 11) sc_law.nd rfl (by first | exact .inl rfl | exact .inr rfl) (pe_call (ok_law_taken_away T) (hr.mono (by decide)) (by rfl) T.law_taken_away.g T.law_taken_away.F.kp T.law_taken_away.b .nil pass0 (pa_cons (pv 3) (pa_cons (pv 6) (pa_cons (pv 12) pa_nil))))) (pss_one (ps_if (pt_not (pt_val (pe_call (ok_alike_bl T) (hr.mono (by decide)) (by rfl) T.law_alike.g T.law_alike.F.kp T.law_alike.b .nil pass0 (pa_cons ((pe_call (ok_shows_arc_refusal T) (hr.mono (by decide)) (by rfl) T.shows_arc_refusal.g T.shows_arc_refusal.F.kp T.shows_arc_refusal.b .nil pass0 (pa_cons (pv 3) (pa_cons (pv 6) (pa_cons ((pe_callTy (call_tuple_ofK K) (by rfl) T.b_tuple boot_tuple (pa_cons (pv 12) pa_nil))) pa_nil))))) (pa_cons (pv 11) pa_nil))))) (pss_one (ps_never)) pss_nil)))) pss_nil) (pss_cons (ps_set (i := 16) sc_law.nd rfl (by first | exact .inl rfl | exact .inr rfl) (pe_lst (pa_cons (pe_non) (pa_cons (pe_tup pa_nil) (pa_cons (pe_tup (pa_cons (pe_int) (pa_cons (pe_int) (pa_cons (pe_int) (pa_cons (pe_int) pa_nil))))) (pa_cons (pe_tup (pa_cons (pe_tup (pa_cons (pe_int) (pa_cons (pe_int) (pa_cons (pe_int) pa_nil)))) pa_nil)) (pa_cons (pe_lst (pa_cons (pe_tup (pa_cons (pe_int) (pa_cons (pe_int) (pa_cons (pe_int) (pa_cons (pe_int) pa_nil))))) pa_nil)) (pa_cons (pe_tup (pa_cons (pe_tup (pa_cons (pv 4) (pa_cons (pe_int) (pa_cons (pe_int) (pa_cons (pe_int) pa_nil))))) pa_nil)) (pa_cons (pe_tup (pa_cons (pe_tup (pa_cons (pe_int) (pa_cons (pv 2) (pa_cons (pe_int) (pa_cons (pe_int) pa_nil))))) pa_nil)) (pa_cons (pe_tup (pa_cons (pe_tup (pa_cons (pe_int) (pa_cons (pe_int) (pa_cons (pe_int) (pa_cons (pe_int) pa_nil))))) pa_nil)) pa_nil)))))))))) (pss_cons (ps_for PassesOwn.never rfl (pi_listK K (pe_op op_cat (pv 16) (pe_lst (pa_cons (pe_tup (pa_cons (pe_tup (pa_cons (pe_int) (pa_cons (pe_int) (pa_cons (pe_un un_neg pe_int) (pa_cons (pe_int) pa_nil))))) pa_nil)) (pa_cons (pe_tup (pa_cons (pe_tup (pa_cons (pe_int) (pa_cons (pe_int) (pa_cons (pe_int) (pa_cons (pe_int) pa_nil))))) pa_nil)) (pa_cons (pe_tup (pa_cons (pe_tup (pa_cons (pe_non) (pa_cons (pe_int) (pa_cons (pe_int) (pa_cons (pe_int) pa_nil))))) pa_nil)) (pa_cons (pe_tup (pa_cons (pe_tup (pa_cons (pe_int) (pa_cons (pe_bl) (pa_cons (pe_int) (pa_cons (pe_int) pa_nil))))) pa_nil)) (pa_cons (pe_dnewK) (pa_cons (pe_tup (pa_cons (pe_lst (pa_cons (pe_int) (pa_cons (pe_int) (pa_cons (pe_int) (pa_cons (pe_int) pa_nil))))) pa_nil)) (pa_cons (pe_int) pa_nil)))))))))) (pg_name (i := 17) sc_law.nd rfl (by first | exact .inl rfl | exact .inr rfl))
        (pss_one (ps_if (pt_cmpR op_isnot_bl (pe_call (ok_shows_arc_refusal T) (hr.mono (by decide)) (by rfl) T.shows_arc_refusal.g T.shows_arc_refusal.F.kp T.shows_arc_refusal.b .nil pass0 (pa_cons (pv 3) (pa_cons (pv 6) (pa_cons (pv 17) pa_nil)))) pe_bl (nomark _)) (pss_one (ps_never)) pss_nil))) (pss_one (ps_ret pe_bl))))))))))))))), ?_⟩
    -- row, size
    refine ⟨.ref c, rfl, by show 4 ≤ sizeLine; decide, fun r nr => ?_⟩
    have L1 := law_start (T := T) (m := 3215) hS hc hT (by omega) nr
    generalize upd H r (.lst [.ref c, .int 0, .int 3215, .int 0]) = H1 at *
    refine ⟨.ref r, rfl, r, c, 3, rfl, L1.row, by omega, by omega, fun x H2 hx0 hx1 g2 hR2 => ⟨_, _, rfl, rfl, ?_⟩⟩
    have L2 := L1.gx g2 hR2
    obtain ⟨sz, esz⟩ := nat_add2 hx0
    dsimp only
    rw [esz]
    have hs : 2 ≤ sz ∧ sz ≤ 4 := by omega
    have hs1 : 1 ≤ sz ∧ sz ≤ 4 := by omega
    -- template, variables
    refine ⟨.ref r, rfl, .int sz, rfl, r, c, sz, 3, 3, 4, rfl, L2.row, L2.live, hs1, ⟨by omega, by omega⟩, ⟨by omega, by omega⟩, ⟨by omega, by omega⟩, fun vt rels H3 g3 hR3 dt R => ?_⟩
    have L3 := (L2.gx g3 hR3).add dt
    refine ⟨.ref r, rfl, r, c, 6, rfl, L3.row, by omega, by omega, fun y H4 hy0 hy1 g4 hR4 => ⟨_, _, rfl, rfl, ?_⟩⟩
    have L4 := L3.gx g4 hR4
    obtain ⟨n, en⟩ := nat_add1 hy0
    dsimp only
    rw [en]
    have hn : 1 ≤ n ∧ n ≤ 6 := by omega
    -- told
    refine ⟨.ref r, rfl, vt, rfl, .int n, rfl, r, c, sz, n, 8, vt, rels, rfl, L4.row, L4.live, by omega, by omega, L4.d0, R, fun vi1 cs1 H5 g5 hR5 di1 O1 few1 => ?_⟩
    obtain ⟨pu1, bu1, xs1, rfl, hpu1, hbu1, hxs1⟩ := pair_inv di1
    have L5 := (L4.gx g5 hR5).add (DT.mk hbu1 hxs1)
    refine ⟨pu1, _, 1, .ref bu1, rfl, rfl, .inl (.inl hpu1), atI_nat (j := 1) rfl, ?_⟩
    refine ⟨.ref r, rfl, vt, rfl, .int n, rfl, r, c, sz, n, 5, vt, rels, rfl, L5.row, L5.live, by omega, by omega, L5.d1, R, fun vi2 cs2 H6 g6 hR6 di2 O2 few2 => ?_⟩
    have L6 := L5.gx g6 hR6
    obtain ⟨pu2, bu2, xs2, rfl, hpu2, hbu2, hxs2⟩ := pair_inv di2
    obtain ⟨b1, xs1', e1, hb1, hd1⟩ := L6.d0.tup_invS
    cases e1
    have xl1 : xs1'.length = cs1.length := by rw [hd1.1, List.length_map]
    have xl2 : xs2.length = cs2.length := by rw [hxs2.1, List.length_map]
    refine ⟨pu2, _, 1, .ref bu2, rfl, rfl, .inl (.inl hpu2), atI_nat (j := 1) rfl, catA_gr hb1 hbu2 (by rw [sizeLine_eq]; omega) fun tp H7 g7 htp => ?_⟩
    have dcs : DT K H7 (.ref tp) (.tuple ((cs1 ++ cs2).map conD)) := by
      rw [List.map_append]
      exact .mk htp ((hd1.gr g7).app (hxs2.gr g7))
    have O := O1.app O2 (by omega)
    have few : (cs1 ++ cs2).length ≤ 13 := by rw [List.length_append]; omega
    have L7 := (L6.tl.gr g7).add dcs
    generalize cs1 ++ cs2 = cs at *
    clear hbu1 hpu1 hxs1 hpu2 hbu2 hxs2 htp hb1 hd1 xl1 xl2 di1 di2 O1 O2 few1 few2 dcs L6 L5 L4 L3 L2 L1 hR6 hR5 hR4 hR3 hR2 g7 g6 g5 g4 g3 g2 dt
    -- instance
    refine ⟨.int n, rfl, .ref tp, rfl, by show 2 ≤ sizeLine; decide, fun vi nvi => ?_⟩
    have g8 : Gr H7 (upd H7 vi (.tup [.int n, .ref tp])) := Gx.new nvi
    have L8 := (L7.gr g8).add (DT.mk (ds := [.int n, .tuple (cs.map conD)]) (upd_same (H := H7) (a := vi) (o := .tup [.int n, .ref tp])) (.cons (.int n) (.one (L7.d0.gr g8))))
    generalize upd H7 vi (.tup [.int n, .ref tp]) = H8 at *
    clear L7
    -- found
    refine ⟨vt, rfl, .ref vi, rfl, sz, n, vt, .ref vi, rels, cs, rfl, hs1, L8.tl.d1, L8.d0, O, R, L8.tabs, fun z H9 g9 hz => ?_⟩
    have L9 := L8.gr g9
    obtain ⟨t0, f0, F0, C0⟩ := best_is (rels := rels) (cs := cs) (sz := sz) (n := n) (n * sz) 0 _ (by omega) FamSt.start
    refine ⟨z, rfl, rfl, vt, rfl, .ref vi, rfl, sz, n, vt, .ref vi, rels, cs, rfl, hs1, L9.tl.d1, L9.d0, O, R, L9.tabs, fun z2 H10 g10 h2 => ⟨rfl, rfl, _, rfl, ?_⟩⟩
    have L10 := L9.gr g10
    have h2 := h2 t0 f0 F0 C0
    have same : (!decide (V.bl (decide (z = .non)) = V.bl (!decide (z2 = .non)))) = false := by
      rcases hz with ⟨rfl, h⟩ | ⟨ss, dz, _, _, _, h⟩
      · have h := h t0 f0 F0 C0
        obtain ⟨-, d2⟩ := h2.resolve_left fun k => h k.1
        obtain ⟨a2, _, rfl, _⟩ := d2.tup_invS
        simp
      · have h := h t0 f0 F0 C0
        obtain ⟨-, rfl⟩ := h2.resolve_right fun k => k.1 h
        obtain ⟨a2, _, rfl, _⟩ := dz.tup_invS
        simp
    refine iteN same ?_
    clear same h2
    refine' joinX (α := V × Option V × Option V × Option V × Option V × Hp) (hp := fun a => a.2.2.2.2.2) (st := fun a => [some (.ref c), some (.ref r), some (.int sz), some vt, some (.int n), some (.ref tp), some (.ref vi), some a.1, a.2.1, a.2.2.1, a.2.2.2.1, a.2.2.2.2.1, none, none, none, none, none, none]) (Pa := fun a => LawSt T a.2.2.2.2.2 r c [(.ref vi, insD n cs), (.ref tp, .tuple (cs.map conD)), (vt, tplD sz rels)]) (fun key => ?step) (fun a ha => ?rest)
    case step =>
      refine ⟨z, rfl, rfl, _, rfl, ?_⟩
      rcases (id hz) with ⟨ez, _⟩ | ⟨ss, dz, hin, sl, fin, _⟩
      · rw [ez]
        exact iteN (by simp) (key (.non, none, none, none, none, H10) L10)
      · obtain ⟨a, xs, ez, ha, hxs⟩ := (dz.gr g10).tup_invS
        rw [ez]
        have xl : xs.length = ss.length := by rw [hxs.1]; unfold stepsD; rw [List.length_map]
        have L10 := L10.add (DT.mk ha hxs)
        refine iteY (by simp) ?_
        refine ⟨.ref a, rfl, .ref a, .ty "tuple", _, _, true, rfl, .ty _, tyT (.inl (.inl ha)), kit_ty (by decide +kernel), true, rfl, iteF ?_⟩
        -- what the steps are
        refine ⟨.ref a, rfl, a, rfl, ⟨xs, .inl (.inl ha)⟩, ?_⟩
        obtain ⟨tq, ys, etq, htp, hys⟩ := L10.tl.d1.tup_invS
        cases etq
        have yl : ys.length = cs.length := by rw [hys.1, List.length_map]
        refine for_tup (K := K) (a := a) (xs := xs) (fun i σ H' => ∃ y8, σ = [some (.ref c), some (.ref r), some (.int sz), some vt, some (.int n), some (.ref tp), some (.ref vi), some (.ref a), y8, none, none, none, none, none, none, none, none, none] ∧ H' = H10) ⟨_, rfl, rfl⟩
          (fun i σ H' _ h => by
            obtain ⟨_, _, rfl⟩ := h
            exact .inl (.inl ha)) (fun i y σ H' ex h => ?_) (fun σ H' h => ?_)
        · obtain ⟨y8, rfl, rfl⟩ := h
          obtain ⟨d, ed, dy⟩ := hxs.at' ex
          unfold stepsD at ed
          rw [List.getElem?_map] at ed
          obtain ⟨st, est, rfl⟩ := Option.map_eq_some_iff.mp ed
          obtain ⟨I0, -⟩ := hin st (List.mem_of_getElem? est)
          have I1 := I0.v
          have I2 := I0.x
          have I3 := I0.i
          obtain ⟨t, rfl, ht⟩ := dy.row_invS
          have ht : H' t = some (.tup [.int st.v, .int st.x, .int st.i, .int st.p]) := ht
          refine ⟨.ref t, rfl, .ref t, .ty "tuple", _, _, true, rfl, .ty _, tyT (.inl (.inl ht)), kit_ty (by decide +kernel), true, rfl, iteF ?_⟩
          refine ⟨.ref t, rfl, t, _, rfl, .inr (.inl (.inl ht)), rfl, _, rfl, iteN (by simp) ?_⟩
          refine ⟨.ref t, rfl, t, _, 2, _, rfl, rfl, .inl (.inl ht), atI_nat (j := 2) rfl, .ref tp, rfl, tp, ys, rfl, .inr (.inl (.inl htp)), (ys.length : Int), 1, rfl, rfl, (st.i : Int), 0, (ys.length : Int) - 1, rfl, _, rfl, iteN (by rw [decide_eq_true (by omega)]; rfl) ?_⟩
          refine ⟨.ref t, rfl, t, _, 0, _, rfl, rfl, .inl (.inl ht), atI_nat (j := 0) rfl, .int n, rfl, (n : Int), 1, rfl, rfl, (st.v : Int), 0, (n : Int) - 1, rfl, _, rfl, iteN (by rw [decide_eq_true (by omega)]; rfl) ?_⟩
          refine ⟨.ref t, rfl, t, _, 1, _, rfl, rfl, .inl (.inl ht), atI_nat (j := 1) rfl, .int sz, rfl, (sz : Int), 1, rfl, rfl, (st.x : Int), 0, (sz : Int) - 1, rfl, _, rfl, iteN (by rw [decide_eq_true (by omega)]; rfl) ⟨_, rfl, rfl⟩⟩
        obtain ⟨y8, rfl, rfl⟩ := h
        -- both say that it shows
        refine ⟨vt, rfl, .ref vi, rfl, .ref a, rfl, sz, n, vt, .ref vi, a, true, xs, rels, cs, ss, rfl, hs1, L10.tl.tl.d1, L10.d1, O, R, SqK.dtT ha, hxs, hin, fun H11 g11 => ⟨_, rfl, iteN (by rw [fin]; rfl) ?_⟩⟩
        have L11 := L10.gr g11
        refine ⟨vt, rfl, .ref vi, rfl, .ref a, rfl, sz, n, vt, .ref vi, .ref a, rels, cs, true, rfl, hs1, L11.tl.tl.d1, L11.d1, O, R, L11.tabs, .inl ⟨ss, L11.d0, hin, fin.symm⟩, fun H12 g12 => ⟨true, true, rfl, rfl, _, rfl, iteN (by decide) ?_⟩⟩
        have L12 := L11.gr g12
        have ha12 := Gx.tupS (g11.trans g12) .nil ha
        have sne := end_ne hs1.1 fin
        have ss24 : ss.length ≤ 24 := by omega
        -- one step is left out
        refine ⟨.ref r, rfl, .ref a, rfl, a, xs, rfl, .inr (.inl (.inl ha12)), r, c, (xs.length : Int), rfl, L12.row, by omega, by omega, fun wv H13 hw0 hw1 g13 hR13 => ?_⟩
        obtain ⟨k, rfl⟩ := Int.eq_ofNat_of_zero_le hw0
        have L13 := L12.gx g13 hR13
        obtain ⟨a', xs', ea, ha13, hxs13⟩ := L13.d0.tup_invS
        cases ea
        have xl' : xs'.length = ss.length := by rw [hxs13.1]; unfold stepsD; rw [List.length_map]
        have hk : k < ss.length := by omega
        clear ha hxs ha12 xl L12 L11 L10 g13 g12 g11 hw0 hw1
        refine ⟨.ref a, rfl, .int k, rfl, (k : Int), rfl, slA_gr ha13 fun p1 H14 g14 hp1 => ?_⟩
        rw [cut_take _ (by omega)] at hp1
        have ha14 := Gx.tupS g14 .nil ha13
        refine ⟨.ref a, rfl, .int k, rfl, (k : Int), 1, rfl, rfl, (k : Int) + 1, rfl, ?_⟩
        unfold tNoPart
        show rSlA K (.ref a) (some ((k : Int) + 1)) none H14 fun y H2 => rCatA K (.ref p1) y H2 _
        refine slA_gr ha14 fun p2 H15 g15 hp2 => ?_
        rw [cut_drop _ (by omega)] at hp2
        have g35 := g14.trans g15
        refine catA_gr (Gx.tupS g15 .nil hp1) hp2 (by rw [List.length_take, List.length_drop, sizeLine_eq]; omega) fun bt H16 g16 hbt => ?_
        have g36 := g35.trans g16
        have L16 := L13.gr g36
        have hbs : DTs K H16 (xs'.take k ++ xs'.drop (k + 1)) (stepsD (ss.take k ++ ss.drop (k + 1))) := by
          have e : stepsD (ss.take k ++ ss.drop (k + 1)) = (stepsD ss).take k ++ (stepsD ss).drop (k + 1) := by
            unfold stepsD
            rw [List.map_append, List.map_take, List.map_drop]
          rw [e]
          exact ((DTs.take hxs13 k).app (DTs.drop hxs13 (k + 1))).gr g36
        have bin : ∀ s ∈ ss.take k ++ ss.drop (k + 1), StepIn cs sz n s := fun s h => hin s ((List.mem_append.mp h).elim List.mem_of_mem_take List.mem_of_mem_drop)
        generalize xs'.take k ++ xs'.drop (k + 1) = bs at *
        generalize ss.take k ++ ss.drop (k + 1) = ssb at *
        refine ⟨vt, rfl, .ref vi, rfl, .ref bt, rfl, sz, n, vt, .ref vi, .ref bt, rels, cs, _, rfl, hs1, L16.tl.tl.d1, L16.d1, O, R, L16.tabs, .inl ⟨ssb, .mk hbt hbs, bin, rfl⟩, fun H17 g17 => ?_⟩
        have L17 := L16.gr g17
        refine ⟨vt, rfl, .ref vi, rfl, .ref bt, rfl, sz, n, vt, .ref vi, bt, true, bs, rels, cs, ssb, rfl, hs1, L17.tl.tl.d1, L17.d1, O, R, SqK.dtT (Gx.tupS g17 .nil hbt), hbs.gr g17, bin, fun H18 g18 => ⟨_, rfl, fun H19 g19 => ⟨true, rfl, iteF ?_⟩⟩⟩
        have g69 := (g17.trans g18).trans g19
        have L19 := L16.gr g69
        have g39 := g36.trans g69
        have ha19 := Gx.tupS g39 .nil ha13
        have hxs19 := hxs13.gr g39
        have hbt19 := Gx.tupS g69 .nil hbt
        clear hbt hbs hp1 hp2 ha14 g69 g36 g35 g14 g15 g16 g17 g18 g19 L16 L17 ha13 hxs13 L13
        -- a step twice
        obtain ⟨xk, exk, dxk⟩ := hxs19.at (i := k) (d := rowD (stR ss[k])) (by unfold stepsD; rw [List.getElem?_map, List.getElem?_eq_getElem hk]; rfl)
        refine ⟨vt, rfl, .ref vi, rfl, .ref a, rfl, .ref a, rfl, .int k, rfl, a, xs', (k : Int), xk, rfl, rfl, .inl (.inl ha19), atI_nat exk, by show 1 ≤ sizeLine; decide, fun t1 nt1 => ?_⟩
        have gt1 : Gr H19 (upd H19 t1 (.tup [xk])) := Gx.new nt1
        refine catA_gr (Gx.tupS gt1 .nil ha19) upd_same (by rw [sizeLine_eq]; show xs'.length + 1 ≤ _; omega) fun f2 H20 g20 hf2 => ?_
        have g90 := gt1.trans g20
        have L20 := L19.gr g90
        have hf2s : DTs K H20 (xs' ++ [xk]) (stepsD (ss ++ [ss[k]])) := by
          have e : stepsD (ss ++ [ss[k]]) = stepsD ss ++ [rowD (stR ss[k])] := by unfold stepsD; rw [List.map_append]; rfl
          rw [e]
          exact (hxs19.app (.one dxk)).gr g90
        have skm : ss[k] ∈ ss := List.getElem_mem hk
        refine ⟨sz, n, vt, .ref vi, .ref f2, rels, cs, false, rfl, hs1, L20.tl.tl.d1, L20.d1, O, R, L20.tabs, .inl ⟨ss ++ [ss[k]], .mk hf2 hf2s, fun s h => (List.mem_append.mp h).elim (hin s) fun h => by rw [List.mem_singleton.mp h]; exact hin _ skm, (end_twice skm).symm⟩, fun H21 g21 => ⟨false, false, rfl, rfl, _, rfl, iteN (by decide) ?_⟩⟩
        have g91 := g90.trans g21
        have L21 := L20.gr g21
        have ha21 := Gx.tupS g91 .nil ha19
        have hxs21 := hxs19.gr g91
        clear hf2 hf2s g90 g20 gt1 L20 L19 g91 g21 ha19 hxs19 dxk exk
        -- the other way round
        refine ⟨.ref a, rfl, .ref a, rfl, a, xs', rfl, .inl (.inl ha21), fun rv nrv => ?_⟩
        have gr1 : Gr H21 (upd H21 rv (.tup xs'.reverse)) := Gx.new nrv
        have hrv : (upd H21 rv (.tup xs'.reverse)) rv = some (.tup xs'.reverse) := upd_same
        generalize upd H21 rv (.tup xs'.reverse) = H22 at *
        have L22 := L21.gr gr1
        have ha22 := Gx.tupS gr1 .nil ha21
        have hxs22 := hxs21.gr gr1
        have erev : (stepsD ss).reverse = stepsD ss.reverse := by unfold stepsD; rw [List.map_reverse]
        have drv : DT K H22 (.ref rv) (.tuple (stepsD ss.reverse)) := by rw [← erev]; exact .mk hrv (DTs.rev hxs22)
        have shp : ∀ l : List Stp, SeqAt.shaped (.tuple (stepsD l)) = true := fun l => by rw [stepsD_rows]; exact rows_shapedTu _
        refine ⟨.tuple (stepsD ss), .tuple (stepsD ss.reverse), (DT.mk ha22 hxs22).dp, drv.dp, shp _, shp _, _, rfl, ite2 (fun _ => ?_) (fun _ => key (.ref a, y8, some (.int k), some (.ref bt), none, H22) L22.tl)⟩
        have rin : ∀ s ∈ ss.reverse, StepIn cs sz n s := fun s h => hin s (List.mem_reverse.mp h)
        refine ⟨vt, rfl, .ref vi, rfl, .ref a, rfl, a, xs', rfl, .inl (.inl ha22), fun r2 nr2 => ?_⟩
        have gr2 : Gr H22 (upd H22 r2 (.tup xs'.reverse)) := Gx.new nr2
        have hr2 : (upd H22 r2 (.tup xs'.reverse)) r2 = some (.tup xs'.reverse) := upd_same
        generalize upd H22 r2 (.tup xs'.reverse) = H23 at *
        have L23 := L22.gr gr2
        refine ⟨sz, n, vt, .ref vi, r2, true, xs'.reverse, rels, cs, ss.reverse, rfl, hs1, L23.tl.tl.d1, L23.d1, O, R, SqK.dtT hr2, by rw [← erev]; exact DTs.rev (hxs22.gr gr2), rin, fun H24 g24 => ?_⟩
        have L24 := L23.gr g24
        have g34 := gr2.trans g24
        refine ⟨vt, rfl, .ref vi, rfl, .ref a, rfl, a, xs', rfl, .inl (.inl (Gx.tupS g34 .nil ha22)), fun r3 nr3 => ?_⟩
        have gr3 : Gr H24 (upd H24 r3 (.tup xs'.reverse)) := Gx.new nr3
        have hr3 : (upd H24 r3 (.tup xs'.reverse)) r3 = some (.tup xs'.reverse) := upd_same
        generalize upd H24 r3 (.tup xs'.reverse) = H25 at *
        have L25 := L24.gr gr3
        refine ⟨sz, n, vt, .ref vi, .ref r3, rels, cs, _, rfl, hs1, L25.tl.tl.d1, L25.d1, O, R, L25.tabs, .inl ⟨ss.reverse, by rw [← erev]; exact .mk hr3 (DTs.rev (hxs22.gr (g34.trans gr3))), rin, rfl⟩, fun H26 g26 => ⟨.bl _, rfl, _, rfl, fun H27 g27 => ⟨true, rfl, iteF ?_⟩⟩⟩
        exact key (.ref a, y8, some (.int k), some (.ref bt), some (.bl (endS rels cs (fullF sz n) ss.reverse)), H27) ((L25.gr g26).gr g27).tl
    case rest =>
    obtain ⟨z, y8, y9, y10, y11, H11⟩ := a
    have L11 : LawSt T H11 r c [(.ref vi, insD n cs), (.ref tp, .tuple (cs.map conD)), (vt, tplD sz rels)] := ha
    -- steps of its own
    refine ⟨Nat.zero_le _, fun pl npl => ?_⟩
    have npr := lst_nr L11.row npl
    have npc := live_ne L11.live npl
    have gp : Gr H11 (upd H11 pl (.lst [])) := Gx.new npl
    have hpl : LD K (upd H11 pl (.lst [])) pl (stepsD []) := ⟨[], upd_same, .nil⟩
    have L12 := L11.gr gp
    have gx12 : Gx [r] H11 (upd H11 pl (.lst [])) := gp.x
    generalize upd H11 pl (.lst []) = H12 at *
    refine' joinX (α := Option V × Option V × Option V × Option V × Hp) (hp := fun a => a.2.2.2.2) (st := fun a => [some (.ref c), some (.ref r), some (.int sz), some vt, some (.int n), some (.ref tp), some (.ref vi), some z, y8, y9, y10, a.1, some (.ref pl), a.2.1, a.2.2.1, a.2.2.2.1, none, none]) (Pa := fun a => LawSt T a.2.2.2.2 r c [(.ref vi, insD n cs), (.ref tp, .tuple (cs.map conD)), (vt, tplD sz rels)]) (fun key => ?step) (fun a ha => ?rest)
    case step =>
      refine ⟨.ref tp, rfl, Nat.zero_le _, fun e ne => ?_⟩
      have ge : Gr H12 (upd H12 e (.tup [])) := Gx.new ne
      have L13 := L12.gr ge
      have gx13 := gx12.trans ge.x
      have hpl := LD.gr ge hpl
      refine ⟨.tuple (cs.map conD), .tuple [], L13.d1.dp, (DT.mk upd_same .nil).dp, cons_shapedT cs, by decide, _, rfl, ?_⟩
      rw [cons_nilT]
      generalize upd H12 e (.tup []) = H13 at *
      refine ite2 (fun hne => ?_) (fun _ => key (y11, none, none, none, H13) L13)
      have hne : cs ≠ [] := by simpa using hne
      have c1 : 1 ≤ cs.length := List.length_pos_iff.mpr hne
      refine ⟨.ref r, rfl, r, c, 3, rfl, L13.row, by omega, by omega, fun x H14 hx0 hx1 g14 hR14 => ⟨_, _, rfl, rfl, ?_⟩⟩
      refine ⟨1 + x, rfl, by omega, by omega, ?_⟩
      refine for_range (n := (1 + x).toNat) (fun i σ H' => ∃ y13 y14 y15 ss, σ = [some (.ref c), some (.ref r), some (.int sz), some vt, some (.int n), some (.ref tp), some (.ref vi), some z, y8, y9, y10, y11, some (.ref pl), y13, y14, y15, none, none] ∧ Gx [r] H11 H' ∧ RowSt K H' r c ∧ LD K H' pl (stepsD ss) ∧ ss.length = i ∧ ∀ s ∈ ss, StepIn cs sz n s)
        ⟨none, none, none, [], rfl, gx13.trans g14, hR14, LD.gxr g14 L13.row.ls npr hpl, rfl, fun s h => by simp at h⟩ (fun i σ H' hi h => ?_) (fun σ H' h => ?_)
      · obtain ⟨y13, y14, y15, ss, rfl, g, hR, hD, sl, hin⟩ := h
        have L := L11.gx g hR
        obtain ⟨tq, ys, etq, htp, hys⟩ := L.d1.tup_invS
        cases etq
        have yl : ys.length = cs.length := by rw [hys.1, List.length_map]
        -- index
        refine ⟨.ref r, rfl, .ref tp, rfl, tp, ys, rfl, .inr (.inl (.inl htp)), r, c, (ys.length : Int), rfl, hR, by omega, by omega, fun wi Ha hi0 hi1 ga hRa => ?_⟩
        obtain ⟨idx, rfl⟩ := Int.eq_ofNat_of_zero_le hi0
        have hidx : idx < cs.length := by omega
        have ec : cs[idx]? = some cs[idx] := List.getElem?_eq_getElem hidx
        have egd : cs.getD idx (0, []) = cs[idx] := by rw [List.getD_eq_getElem?_getD, ec]; rfl
        generalize cs[idx] = cc at *
        have oc := O.ok cc (List.mem_of_getElem? ec)
        have oR := R.ok _ (List.mem_of_getElem? (rels_get oc.ix))
        have c4 : cc.2.length ≤ 4 ∧ 1 ≤ cc.2.length := by
          have := oc.len
          have := oR.1.ar4
          have := oR.1.ar1
          omega
        have ga1 := g.trans ga
        have La := L11.gx ga1 hRa
        have hDa := LD.gxr ga hR.ls npr hD
        obtain ⟨tq, ys, etq, htp, hys⟩ := La.d1.tup_invS
        cases etq
        obtain ⟨y, ey, dy⟩ := hys.at (i := idx) (d := conD cc) (by rw [List.getElem?_map, ec]; rfl)
        obtain ⟨pc, bc, rfl, hpc, hbc⟩ := con_inv dy
        have clen : ((natL cc.2).map V.int).length = cc.2.length := by rw [List.length_map, List.length_map]
        -- place
        refine ⟨.ref r, rfl, .ref tp, rfl, .int idx, rfl, tp, ys, (idx : Int), .ref pc, rfl, rfl, .inl (.inl htp), atI_nat ey, pc, _, 1, .ref bc, rfl, rfl, .inl (.inl hpc), atI_nat (j := 1) rfl, bc, _, rfl, .inr (.inl (.inl hbc)), r, c, (((natL cc.2).map V.int).length : Int), rfl, hRa, by omega, by omega, fun wp Hb hp0 hp1 gb hRb => ?_⟩
        obtain ⟨pp, rfl⟩ := Int.eq_ofNat_of_zero_le hp0
        have hpp : pp < cc.2.length := by omega
        have gb1 := ga1.trans gb
        have Lb := L11.gx gb1 hRb
        have hDb := LD.gxr gb hRa.ls npr hDa
        obtain ⟨tq, ys, etq, htp, hys⟩ := Lb.d1.tup_invS
        cases etq
        obtain ⟨y, ey, dy⟩ := hys.at (i := idx) (d := conD cc) (by rw [List.getElem?_map, ec]; rfl)
        obtain ⟨pc, bc, rfl, hpc, hbc⟩ := con_inv dy
        obtain ⟨ws, hws, dws⟩ := id hDb
        -- the step
        refine ⟨.ref pl, rfl, .inl ⟨rfl, _, .inl (.inl hws)⟩, .ref tp, rfl, .int idx, rfl, tp, ys, (idx : Int), .ref pc, rfl, rfl, .inl (.inl htp), atI_nat ey, pc, _, 1, .ref bc, rfl, rfl, .inl (.inl hpc), atI_nat (j := 1) rfl, .int pp, rfl, bc, _, (pp : Int), _, rfl, rfl, .inl (.inl hbc), nat_at hpp, ?_⟩
        refine ⟨.ref r, rfl, .int sz, rfl, r, c, (sz : Int), rfl, hRb, by omega, by omega, fun wx Hc hx0' hx1' gc hRc => ?_⟩
        obtain ⟨xx, rfl⟩ := Int.eq_ofNat_of_zero_le hx0'
        have hxx : xx < sz := by omega
        have gc1 := gb1.trans gc
        have hDc := LD.gxr gc hRb.ls npr hDb
        have hvn : cc.2.getD pp 0 < n := oc.sc _ (by rw [List.getD_eq_getElem?_getD, List.getElem?_eq_getElem hpp]; exact List.getElem_mem _)
        refine ⟨.int idx, rfl, .int pp, rfl, by show 4 ≤ sizeLine; decide, fun t nt => ?_⟩
        have gt : Gr Hc (upd Hc t (.tup [.int ((cc.2.getD pp 0 : Nat) : Int), .int (xx : Int), .int (idx : Int), .int (pp : Int)])) := Gx.new nt
        have ht : (upd Hc t (.tup [.int ((cc.2.getD pp 0 : Nat) : Int), .int (xx : Int), .int (idx : Int), .int (pp : Int)])) t = some (.tup ((stR ⟨cc.2.getD pp 0, xx, idx, pp⟩).map V.int)) := upd_same
        generalize upd Hc t (.tup [.int ((cc.2.getD pp 0 : Nat) : Int), .int (xx : Int), .int (idx : Int), .int (pp : Int)]) = Hd at *
        obtain ⟨ws, hws, dws⟩ := LD.gr gt hDc
        have hRd := hRc.gr gt
        have gd1 := gc1.trans gt.x
        have wl : ws.length = ss.length := by rw [dws.1]; unfold stepsD; rw [List.length_map]
        refine ⟨pl, ws, .ref t, rfl, rfl, hws, small1000 (by omega), ?_⟩
        refine ⟨_, _, _, ss ++ [⟨cc.2.getD pp 0, xx, idx, pp⟩], rfl, gd1.wr npl, rowst_wr hRd npr npc, ⟨_, upd_same, ?_⟩, by rw [List.length_append, sl]; rfl, fun s h => ?_⟩
        · have e : stepsD (ss ++ [⟨cc.2.getD pp 0, xx, idx, pp⟩]) = stepsD ss ++ [rowD (stR ⟨cc.2.getD pp 0, xx, idx, pp⟩)] := by unfold stepsD; rw [List.map_append]; rfl
          rw [e]
          exact (dws.wr hws).app (.one (DT.wr hws (.row ht)))
        · rcases List.mem_append.mp h with h | h
          · exact hin s h
          · rw [List.mem_singleton.mp h]
            exact ⟨⟨hvn, hxx, hidx⟩, by show pp < (cs.getD idx (0, [])).2.length; rw [egd]; exact hpp⟩
      · obtain ⟨y13, y14, y15, ss, rfl, g, hR, hD, sl, hin⟩ := h
        have L := L11.gx g hR
        obtain ⟨ws, hws, dws⟩ := hD
        refine ⟨vt, rfl, .ref vi, rfl, .ref pl, rfl, sz, n, vt, .ref vi, pl, false, ws, rels, cs, ss, rfl, hs1, L.tl.d1, L.d0, O, R, SqK.dtL hws, dws, hin, fun Ha ga => ?_⟩
        have La := L.gr ga
        refine ⟨vt, rfl, .ref vi, rfl, .ref pl, rfl, pl, ws, rfl, .inl ⟨.inl (.inl (ga.lst hws)), fun t nt => ?_⟩⟩
        have gt : Gr Ha (upd Ha t (.tup ws)) := Gx.new nt
        have ht : (upd Ha t (.tup ws)) t = some (.tup ws) := upd_same
        generalize upd Ha t (.tup ws) = Hb at *
        have Lb := La.gr gt
        refine ⟨sz, n, vt, .ref vi, .ref t, rels, cs, _, rfl, hs1, Lb.tl.d1, Lb.d0, O, R, Lb.tabs, .inl ⟨ss, .mk ht (dws.gr (ga.trans gt)), hin, rfl⟩, fun Hc gc => ⟨.bl _, rfl, _, rfl, fun Hd gd => ⟨true, rfl, iteF ?_⟩⟩⟩
        exact key (some (.bl (endS rels cs (fullF sz n) ss)), y13, y14, y15, Hd) ((Lb.gr gc).gr gd)
    case rest =>
    obtain ⟨y11', y13, y14, y15, B0⟩ := a
    have LB : LawSt T B0 r c [(.ref vi, insD n cs), (.ref tp, .tuple (cs.map conD)), (vt, tplD sz rels)] := ha
    have OD0 : Odds K B0 n sz cs [] := fun x h => by simp at h
    have z0 : Gr B0 B0 := .refl
    have odd9 : ∀ {B : Hp} (t : Addr), B t = some (.tup [.int 0, .int 0, .int 0, .int 9]) → OddS K B n sz cs (.ref t) := fun {B} t h => by
      by_cases hc0 : cs = []
      · exact .b3 t 0 0 _ _ rfl h (by omega) (by omega) (noI_out (by rw [hc0]; simp))
      · have ec : cs[0]? = some (cs[0]'(List.length_pos_iff.mpr hc0)) := List.getElem?_eq_getElem _
        generalize cs[0]'(List.length_pos_iff.mpr hc0) = cc at ec
        have oc := O.ok cc (List.mem_of_getElem? ec)
        have oR := R.ok _ (List.mem_of_getElem? (rels_get oc.ix))
        exact .b4 t 0 0 0 _ cc rfl h (by omega) (by omega) ec (noI_out (by
          have := oc.len
          have := oR.1.ar4
          omega))
    have OD1 := OD0.add .refl (x := .non) (.inr (.inl noT_non))
    refine ⟨Nat.zero_le _, fun e2 ne2 => ?_⟩
    have ge2 : Gr B0 (upd B0 e2 (.tup [])) := Gx.new ne2
    have he2 : (upd B0 e2 (.tup [])) e2 = some (.tup []) := upd_same
    have OD2 := OD1.add ge2 (x := .ref e2) (.inl (.mk he2 .nil))
    have z1 := z0.trans ge2
    generalize upd B0 e2 (.tup []) = B1 at *
    refine ⟨by show 4 ≤ sizeLine; decide, fun e3 ne3 => ?_⟩
    have ge3 : Gr B1 (upd B1 e3 (.tup [.int 0, .int 0, .int 0, .int 0])) := Gx.new ne3
    have he3 : (upd B1 e3 (.tup [.int 0, .int 0, .int 0, .int 0])) e3 = some (.tup [.int 0, .int 0, .int 0, .int 0]) := upd_same
    have OD3 := OD2.add ge3 (x := .ref e3) (.inr (.inr ⟨e3, _, _, rfl, he3, .no (noT_int 0)⟩))
    have z2 := z1.trans ge3
    generalize upd B1 e3 (.tup [.int 0, .int 0, .int 0, .int 0]) = B2 at *
    refine ⟨by show 3 ≤ sizeLine; decide, fun t4 nt4 => ⟨by show 1 ≤ sizeLine; decide, fun u4 nu4 => ?_⟩⟩
    have wt4 : Gr B2 (upd (upd B2 t4 (.tup [.int 0, .int 0, .int 0])) u4 (.tup [.ref t4])) ∧ (upd (upd B2 t4 (.tup [.int 0, .int 0, .int 0])) u4 (.tup [.ref t4])) t4 = some (.tup [.int 0, .int 0, .int 0]) ∧ (upd (upd B2 t4 (.tup [.int 0, .int 0, .int 0])) u4 (.tup [.ref t4])) u4 = some (.tup [.ref t4]) := two_new nt4 nu4
    obtain ⟨gt4, ht4, hu4⟩ := wt4
    have OD4 := OD3.add gt4 (x := .ref u4) (.inr (.inr ⟨u4, _, [], rfl, hu4, .len t4 _ rfl ht4 (by show 3 ≠ 4; decide)⟩))
    have z3 := z2.trans gt4
    generalize upd (upd B2 t4 (.tup [.int 0, .int 0, .int 0])) u4 (.tup [.ref t4]) = B3 at *
    refine ⟨by show 4 ≤ sizeLine; decide, fun t5 nt5 => ?_⟩
    have gt5 : Gr B3 (upd B3 t5 (.tup [.int 0, .int 0, .int 0, .int 0])) := Gx.new nt5
    have ht5 : (upd B3 t5 (.tup [.int 0, .int 0, .int 0, .int 0])) t5 = some (.tup [.int 0, .int 0, .int 0, .int 0]) := upd_same
    have OD5 := OD4.gr gt5
    have z4 := z3.trans gt5
    generalize upd B3 t5 (.tup [.int 0, .int 0, .int 0, .int 0]) = B4 at *
    refine ⟨by show 1 ≤ sizeLine; decide, fun u5 nu5 => ?_⟩
    have gu5 : Gr B4 (upd B4 u5 (.lst [.ref t5])) := Gx.new nu5
    have hu5 : (upd B4 u5 (.lst [.ref t5])) u5 = some (.lst [.ref t5]) := upd_same
    have OD6 := OD5.add gu5 (x := .ref u5) (.inr (.inl (noT_list hu5)))
    have z5 := z4.trans gu5
    generalize upd B4 u5 (.lst [.ref t5]) = B5 at *
    refine ⟨.int n, rfl, by show 4 ≤ sizeLine; decide, fun t6 nt6 => ⟨by show 1 ≤ sizeLine; decide, fun u6 nu6 => ?_⟩⟩
    have wt6 : Gr B5 (upd (upd B5 t6 (.tup [.int n, .int 0, .int 0, .int 0])) u6 (.tup [.ref t6])) ∧ (upd (upd B5 t6 (.tup [.int n, .int 0, .int 0, .int 0])) u6 (.tup [.ref t6])) t6 = some (.tup [.int n, .int 0, .int 0, .int 0]) ∧ (upd (upd B5 t6 (.tup [.int n, .int 0, .int 0, .int 0])) u6 (.tup [.ref t6])) u6 = some (.tup [.ref t6]) := two_new nt6 nu6
    obtain ⟨gt6, ht6, hu6⟩ := wt6
    have OD7 := OD6.add gt6 (x := .ref u6) (.inr (.inr ⟨u6, _, [], rfl, hu6, .b1 t6 _ _ _ _ rfl ht6 (noI_out (by omega))⟩))
    have z6 := z5.trans gt6
    generalize upd (upd B5 t6 (.tup [.int n, .int 0, .int 0, .int 0])) u6 (.tup [.ref t6]) = B6 at *
    refine ⟨.int sz, rfl, by show 4 ≤ sizeLine; decide, fun t7 nt7 => ⟨by show 1 ≤ sizeLine; decide, fun u7 nu7 => ?_⟩⟩
    have wt7 : Gr B6 (upd (upd B6 t7 (.tup [.int 0, .int sz, .int 0, .int 0])) u7 (.tup [.ref t7])) ∧ (upd (upd B6 t7 (.tup [.int 0, .int sz, .int 0, .int 0])) u7 (.tup [.ref t7])) t7 = some (.tup [.int 0, .int sz, .int 0, .int 0]) ∧ (upd (upd B6 t7 (.tup [.int 0, .int sz, .int 0, .int 0])) u7 (.tup [.ref t7])) u7 = some (.tup [.ref t7]) := two_new nt7 nu7
    obtain ⟨gt7, ht7, hu7⟩ := wt7
    have OD8 := OD7.add gt7 (x := .ref u7) (.inr (.inr ⟨u7, _, [], rfl, hu7, .b2 t7 0 _ _ _ rfl ht7 (by omega) (noI_out (by omega))⟩))
    have z7 := z6.trans gt7
    generalize upd (upd B6 t7 (.tup [.int 0, .int sz, .int 0, .int 0])) u7 (.tup [.ref t7]) = B7 at *
    refine ⟨by show 4 ≤ sizeLine; decide, fun t8 nt8 => ⟨by show 1 ≤ sizeLine; decide, fun u8 nu8 => ?_⟩⟩
    have wt8 : Gr B7 (upd (upd B7 t8 (.tup [.int 0, .int 0, .int 99, .int 0])) u8 (.tup [.ref t8])) ∧ (upd (upd B7 t8 (.tup [.int 0, .int 0, .int 99, .int 0])) u8 (.tup [.ref t8])) t8 = some (.tup [.int 0, .int 0, .int 99, .int 0]) ∧ (upd (upd B7 t8 (.tup [.int 0, .int 0, .int 99, .int 0])) u8 (.tup [.ref t8])) u8 = some (.tup [.ref t8]) := two_new nt8 nu8
    obtain ⟨gt8, ht8, hu8⟩ := wt8
    have OD9 := OD8.add gt8 (x := .ref u8) (.inr (.inr ⟨u8, _, [], rfl, hu8, .b3 t8 0 0 _ _ rfl ht8 (by omega) (by omega) (noI_out (by omega))⟩))
    have z8 := z7.trans gt8
    generalize upd (upd B7 t8 (.tup [.int 0, .int 0, .int 99, .int 0])) u8 (.tup [.ref t8]) = B8 at *
    refine ⟨by show 8 ≤ sizeLine; decide, fun lp nlp => ?_⟩
    have glp : Gr B8 (upd B8 lp (.lst [.non, .ref e2, .ref e3, .ref u4, .ref u5, .ref u6, .ref u7, .ref u8])) := Gx.new nlp
    have hlp : (upd B8 lp (.lst [.non, .ref e2, .ref e3, .ref u4, .ref u5, .ref u6, .ref u7, .ref u8])) lp = some (.lst [.non, .ref e2, .ref e3, .ref u4, .ref u5, .ref u6, .ref u7, .ref u8]) := upd_same
    have OD10 := OD9.gr glp
    have z9 := z8.trans glp
    generalize upd B8 lp (.lst [.non, .ref e2, .ref e3, .ref u4, .ref u5, .ref u6, .ref u7, .ref u8]) = B9 at *
    refine ⟨.ref lp, rfl, ?_⟩
    refine ⟨1, rfl, by show 4 ≤ sizeLine; decide, fun t9 nt9 => ⟨by show 1 ≤ sizeLine; decide, fun u9 nu9 => ?_⟩⟩
    have wt9 : Gr B9 (upd (upd B9 t9 (.tup [.int 0, .int 0, .int (-1), .int 0])) u9 (.tup [.ref t9])) ∧ (upd (upd B9 t9 (.tup [.int 0, .int 0, .int (-1), .int 0])) u9 (.tup [.ref t9])) t9 = some (.tup [.int 0, .int 0, .int (-1), .int 0]) ∧ (upd (upd B9 t9 (.tup [.int 0, .int 0, .int (-1), .int 0])) u9 (.tup [.ref t9])) u9 = some (.tup [.ref t9]) := two_new nt9 nu9
    obtain ⟨gt9, ht9, hu9⟩ := wt9
    have OD11 := OD10.add gt9 (x := .ref u9) (.inr (.inr ⟨u9, _, [], rfl, hu9, .b3 t9 0 0 _ _ rfl ht9 (by omega) (by omega) (noI_out (by omega))⟩))
    have z10 := z9.trans gt9
    generalize upd (upd B9 t9 (.tup [.int 0, .int 0, .int (-1), .int 0])) u9 (.tup [.ref t9]) = B10 at *
    refine ⟨by show 4 ≤ sizeLine; decide, fun ta nta => ⟨by show 1 ≤ sizeLine; decide, fun ua nua => ?_⟩⟩
    have wta : Gr B10 (upd (upd B10 ta (.tup [.int 0, .int 0, .int 0, .int 9])) ua (.tup [.ref ta])) ∧ (upd (upd B10 ta (.tup [.int 0, .int 0, .int 0, .int 9])) ua (.tup [.ref ta])) ta = some (.tup [.int 0, .int 0, .int 0, .int 9]) ∧ (upd (upd B10 ta (.tup [.int 0, .int 0, .int 0, .int 9])) ua (.tup [.ref ta])) ua = some (.tup [.ref ta]) := two_new nta nua
    obtain ⟨gta, hta, hua⟩ := wta
    have OD12 := OD11.add gta (x := .ref ua) (.inr (.inr ⟨ua, _, [], rfl, hua, odd9 ta hta⟩))
    have z11 := z10.trans gta
    generalize upd (upd B10 ta (.tup [.int 0, .int 0, .int 0, .int 9])) ua (.tup [.ref ta]) = B11 at *
    refine ⟨by show 4 ≤ sizeLine; decide, fun tb ntb => ⟨by show 1 ≤ sizeLine; decide, fun ub nub => ?_⟩⟩
    have wtb : Gr B11 (upd (upd B11 tb (.tup [.non, .int 0, .int 0, .int 0])) ub (.tup [.ref tb])) ∧ (upd (upd B11 tb (.tup [.non, .int 0, .int 0, .int 0])) ub (.tup [.ref tb])) tb = some (.tup [.non, .int 0, .int 0, .int 0]) ∧ (upd (upd B11 tb (.tup [.non, .int 0, .int 0, .int 0])) ub (.tup [.ref tb])) ub = some (.tup [.ref tb]) := two_new ntb nub
    obtain ⟨gtb, htb, hub⟩ := wtb
    have OD13 := OD12.add gtb (x := .ref ub) (.inr (.inr ⟨ub, _, [], rfl, hub, .b1 tb _ _ _ _ rfl htb noI_non⟩))
    have z12 := z11.trans gtb
    generalize upd (upd B11 tb (.tup [.non, .int 0, .int 0, .int 0])) ub (.tup [.ref tb]) = B12 at *
    refine ⟨by show 4 ≤ sizeLine; decide, fun tc ntc => ⟨by show 1 ≤ sizeLine; decide, fun uc nuc => ?_⟩⟩
    have wtc : Gr B12 (upd (upd B12 tc (.tup [.int 0, .bl true, .int 0, .int 0])) uc (.tup [.ref tc])) ∧ (upd (upd B12 tc (.tup [.int 0, .bl true, .int 0, .int 0])) uc (.tup [.ref tc])) tc = some (.tup [.int 0, .bl true, .int 0, .int 0]) ∧ (upd (upd B12 tc (.tup [.int 0, .bl true, .int 0, .int 0])) uc (.tup [.ref tc])) uc = some (.tup [.ref tc]) := two_new ntc nuc
    obtain ⟨gtc, htc, huc⟩ := wtc
    have OD14 := OD13.add gtc (x := .ref uc) (.inr (.inr ⟨uc, _, [], rfl, huc, .b2 tc 0 _ _ _ rfl htc (by omega) (noI_bl true)⟩))
    have z13 := z12.trans gtc
    generalize upd (upd B12 tc (.tup [.int 0, .bl true, .int 0, .int 0])) uc (.tup [.ref tc]) = B13 at *
    refine fun ed ned => ?_
    have ged : Gr B13 (upd B13 ed (.dK [])) := Gx.new ned
    have hed : (upd B13 ed (.dK [])) ed = some (.dK []) := upd_same
    have OD15 := OD14.add ged (x := .ref ed) (.inr (.inl (noT_dict hed)))
    have z14 := z13.trans ged
    generalize upd B13 ed (.dK []) = B14 at *
    refine ⟨by show 4 ≤ sizeLine; decide, fun le nle => ?_⟩
    have gle : Gr B14 (upd B14 le (.lst [.int 0, .int 0, .int 0, .int 0])) := Gx.new nle
    have hle : (upd B14 le (.lst [.int 0, .int 0, .int 0, .int 0])) le = some (.lst [.int 0, .int 0, .int 0, .int 0]) := upd_same
    have OD16 := OD15.gr gle
    have z15 := z14.trans gle
    generalize upd B14 le (.lst [.int 0, .int 0, .int 0, .int 0]) = B15 at *
    refine ⟨by show 1 ≤ sizeLine; decide, fun ue nue => ?_⟩
    have gue : Gr B15 (upd B15 ue (.tup [.ref le])) := Gx.new nue
    have hue : (upd B15 ue (.tup [.ref le])) ue = some (.tup [.ref le]) := upd_same
    have OD17 := OD16.add gue (x := .ref ue) (.inr (.inr ⟨ue, _, _, rfl, hue, .no (noT_list (gue.lst hle))⟩))
    have z16 := z15.trans gue
    generalize upd B15 ue (.tup [.ref le]) = B16 at *
    have OD18 := OD17.add .refl (x := .int 3) (.inr (.inl (noT_int 3)))
    refine ⟨by show 7 ≤ sizeLine; decide, fun lq nlq => ?_⟩
    have glq : Gr B16 (upd B16 lq (.lst [.ref u9, .ref ua, .ref ub, .ref uc, .ref ed, .ref ue, .int 3])) := Gx.new nlq
    have hlq : (upd B16 lq (.lst [.ref u9, .ref ua, .ref ub, .ref uc, .ref ed, .ref ue, .int 3])) lq = some (.lst [.ref u9, .ref ua, .ref ub, .ref uc, .ref ed, .ref ue, .int 3]) := upd_same
    have OD19 := OD18.gr glq
    have z17 := z16.trans glq
    generalize upd B16 lq (.lst [.ref u9, .ref ua, .ref ub, .ref uc, .ref ed, .ref ue, .int 3]) = B17 at *
    refine ⟨lp, lq, _, _, rfl, rfl, Gx.lst (((((((gt9.trans gta).trans gtb).trans gtc).trans ged).trans gle).trans gue).trans glq) hlp, hlq, by show 15 ≤ sizeLine; decide, fun lr nlr => ?_⟩
    have glr : Gr B17 (upd B17 lr (.lst ([.non, .ref e2, .ref e3, .ref u4, .ref u5, .ref u6, .ref u7, .ref u8] ++ [.ref u9, .ref ua, .ref ub, .ref uc, .ref ed, .ref ue, .int 3]))) := Gx.new nlr
    have hlr : (upd B17 lr (.lst ([.non, .ref e2, .ref e3, .ref u4, .ref u5, .ref u6, .ref u7, .ref u8] ++ [.ref u9, .ref ua, .ref ub, .ref uc, .ref ed, .ref ue, .int 3]))) lr = some (.lst ([.non, .ref e2, .ref e3, .ref u4, .ref u5, .ref u6, .ref u7, .ref u8] ++ [.ref u9, .ref ua, .ref ub, .ref uc, .ref ed, .ref ue, .int 3])) := upd_same
    have OD := OD19.gr glr
    have zz := z17.trans glr
    generalize upd B17 lr (.lst ([.non, .ref e2, .ref e3, .ref u4, .ref u5, .ref u6, .ref u7, .ref u8] ++ [.ref u9, .ref ua, .ref ub, .ref uc, .ref ed, .ref ue, .int 3])) = BZ at *
    have LZ := LB.gr zz
    refine ⟨lr, rfl, ⟨_, .inl (.inl hlr)⟩, ?_⟩
    refine for_list (K := K) (a := lr) (xs := [.non, .ref e2, .ref e3, .ref u4, .ref u5, .ref u6, .ref u7, .ref u8] ++ [.ref u9, .ref ua, .ref ub, .ref uc, .ref ed, .ref ue, .int 3]) (fun i σ H' => ∃ y17, σ = [some (.ref c), some (.ref r), some (.int sz), some vt, some (.int n), some (.ref tp), some (.ref vi), some z, y8, y9, y10, y11', some (.ref pl), y13, y14, y15, some (.ref lp), y17] ∧ Gr BZ H') ⟨_, rfl, .refl⟩
      (fun i σ H' _ h => by
        obtain ⟨_, _, g⟩ := h
        exact .inl (.inl (g.lst hlr))) (fun i x σ H' ex h => ?_) (fun σ H' h => ?_)
    · obtain ⟨y17, rfl, g⟩ := h
      have L := LZ.gr g
      have hx := (OD x (List.mem_of_getElem? ex)).gr g
      refine ⟨vt, rfl, .ref vi, rfl, x, rfl, sz, n, vt, .ref vi, x, rels, cs, false, rfl, hs1, L.tl.d1, L.d0, O, R, L.tabs, ?_, fun H2 g2 => ⟨false, false, rfl, rfl, _, rfl, iteN (by decide) ⟨_, rfl, g.trans g2⟩⟩⟩
      rcases hx with h | h
      · exact .inl ⟨[], h, fun s hs => by simp at hs, (end_nil hs1.1).symm⟩
      · exact .inr ⟨rfl, h⟩
    · exact q _
end K15

set_option Elab.async false
set_option linter.all false
set_option maxRecDepth 100000
set_option maxHeartbeats 4000000
namespace K15
open PySem PySem.Spec PyProof.Rows L2 TK MR
/-- walk_ofTs, with the empty tables of the defs of these names -/
theorem walk_ofAll {l : PySem.W.OpenLaw} {n k : Nat} {q : Program} {loose : List Str} {XP : (Str → Option Value) → Heap → Prop} {YP : World → Heap → Prop} {d : DefRec} {K : Params → PySem.W.Frag} {CX : World → CXT} {x : Str} (names : List Str)
    (hn : l.most = some n) (hn2 : n ≤ sizeLine) (hdf : d.params.defaults = []) (hr : Room k callerA) (hrec : (names.all fun y => (recsOf q).any fun e => e.name == y) = true) (hY : ∀ (w : World) (h : Heap), YP w h → (K w.params).In h)
    (F : ∀ (w : World) (mg : Str → Option Value) (fa : Addr) (h : Heap), YP w h → (K w.params).In h → h.Ns mainGlobals mg → mg d.name = some (.ref fa) → (∀ y ∈ names, ∀ fb, mg y = some (.ref fb) → LamX.OwnTab (K w.params) fb h) → LamX.LawAtS l w (K w.params) (CX w) k n x mg fa h)
    (hCX : ∀ (w : World) (H : Hp) (s : Shared) (e : Value) (s' : Shared), CX w [] H s (fun _ _ _ => False) e s' → False) :
    PySem.W.WalkO q loose XP YP l.row.toRowW d [] (fun f vs => PySem.call f vs) := by
  refine Att.attach_callB hn hdf fun w s₀ s₁ mg mb fa o pm cd doc a vs ns G Y ho hd hcd hmg hobj hints hlen hbits hg => ?_
  have KX := hY w _ Y
  have own : ∀ y ∈ names, ∀ fb, mg y = some (.ref fb) → LamX.OwnTab (K w.params) fb s₁.heap := fun y hy fb hfb c P o1 fd1 e dd vs1 sl k1 k2 k3 k4 k5 => by
    obtain ⟨dL, hm, hn1⟩ := List.any_eq_true.mp (List.all_eq_true.mp hrec y hy)
    have hn2 : dL.name = y := beq_iff_eq.mp hn1
    obtain ⟨a', o', fd', c', P', h1, h2, h3, h4, h5, h6⟩ := G.T.tab dL hm
    rw [hn2, hfb] at h1
    cases h1
    have g1 := KX _ _ k1
    rw [g1] at h2
    cases h2
    rw [k2] at h3
    cases h3
    rw [k3] at h4
    cases h4
    obtain ⟨⟨oc, vc, e1, _, e3, e4⟩, hP⟩ := h6
    have g2 := KX _ _ k4
    rw [g2] at e1
    cases e1
    cases e3
    rw [k5] at e4
    cases e4
    exact hP
  obtain ⟨fd, cs, sp, hT, nT, C, hb, hsp, hF⟩ := F w mg fa _ Y KX G.T.g hmg own
  exact LamX.law_callTs KX G.T.g G.T.b G.T.builtins G.T.nolimit hg hT nT C G.T.bmain hobj hints (Nat.le_trans hlen hn2) hr hF hb (fun H hH hS => hsp H a ns hlen hbits hH hS) fun H e s' => hCX w H s₁ e s'

abbrev tabNames : List Str := ["is_row", "is_relation", "are_places"]
theorem law_at {l : PySem.W.OpenLaw} {w : World} {K : PySem.W.Frag} {h : Heap} {mg : Str → Option Value} {fa : Addr} (X : K.In h) (G : h.Ns mainGlobals mg) (hfa : mg "law" = some (.ref fa)) (own : ∀ y ∈ tabNames, ∀ fb, mg y = some (.ref fb) → LamX.OwnTab K fb h)
    {f0 c0 : Addr} {oc0 kV0 dc0 pm0 ct0 : Value} {od0 an0 : Option Addr} {sl0 : Array (Option Value)}
    {f1 c1 : Addr} {oc1 kV1 dc1 pm1 ct1 : Value} {od1 an1 : Option Addr} {sl1 : Array (Option Value)}
    {f2 c2 : Addr} {oc2 kV2 dc2 pm2 ct2 : Value} {od2 an2 : Option Addr} {sl2 : Array (Option Value)}
    {f3 c3 : Addr} {oc3 kV3 dc3 pm3 ct3 : Value} {od3 an3 : Option Addr} {sl3 : Array (Option Value)}
    {f4 c4 : Addr} {oc4 kV4 dc4 pm4 ct4 : Value} {od4 an4 : Option Addr} {sl4 : Array (Option Value)}
    {f5 c5 : Addr} {oc5 kV5 dc5 pm5 ct5 : Value} {od5 an5 : Option Addr} {sl5 : Array (Option Value)}
    {f6 c6 : Addr} {oc6 kV6 dc6 pm6 ct6 : Value} {od6 an6 : Option Addr} {sl6 : Array (Option Value)}
    {f7 c7 : Addr} {oc7 kV7 dc7 pm7 ct7 : Value} {od7 an7 : Option Addr} {sl7 : Array (Option Value)}
    {f8 c8 : Addr} {oc8 kV8 dc8 pm8 ct8 : Value} {od8 an8 : Option Addr} {sl8 : Array (Option Value)}
    {f9 c9 : Addr} {oc9 kV9 dc9 pm9 ct9 : Value} {od9 an9 : Option Addr} {sl9 : Array (Option Value)}
    {f10 c10 : Addr} {oc10 kV10 dc10 pm10 ct10 : Value} {od10 an10 : Option Addr} {sl10 : Array (Option Value)}
    {f11 c11 : Addr} {oc11 kV11 dc11 pm11 ct11 : Value} {od11 an11 : Option Addr} {sl11 : Array (Option Value)}
    {f12 c12 : Addr} {oc12 kV12 dc12 pm12 ct12 : Value} {od12 an12 : Option Addr} {sl12 : Array (Option Value)}
    {f13 c13 : Addr} {oc13 kV13 dc13 pm13 ct13 : Value} {od13 an13 : Option Addr} {sl13 : Array (Option Value)}
    {f14 c14 : Addr} {oc14 kV14 dc14 pm14 ct14 : Value} {od14 an14 : Option Addr} {sl14 : Array (Option Value)}
    {f15 c15 : Addr} {oc15 kV15 dc15 pm15 ct15 : Value} {od15 an15 : Option Addr} {sl15 : Array (Option Value)}
    {f16 c16 : Addr} {oc16 kV16 dc16 pm16 ct16 : Value} {od16 an16 : Option Addr} {sl16 : Array (Option Value)}
    {f17 c17 : Addr} {oc17 kV17 dc17 pm17 ct17 : Value} {od17 an17 : Option Addr} {sl17 : Array (Option Value)}
    {f18 c18 : Addr} {oc18 kV18 dc18 pm18 ct18 : Value} {od18 an18 : Option Addr} {sl18 : Array (Option Value)}
    {f19 c19 : Addr} {oc19 kV19 dc19 pm19 ct19 : Value} {od19 an19 : Option Addr} {sl19 : Array (Option Value)}
    {f20 c20 : Addr} {oc20 kV20 dc20 pm20 ct20 : Value} {od20 an20 : Option Addr} {sl20 : Array (Option Value)}
    {f21 c21 : Addr} {oc21 kV21 dc21 pm21 ct21 : Value} {od21 an21 : Option Addr} {sl21 : Array (Option Value)}
    {f22 c22 : Addr} {oc22 kV22 dc22 pm22 ct22 : Value} {od22 an22 : Option Addr} {sl22 : Array (Option Value)}
    {f23 c23 : Addr} {oc23 kV23 dc23 pm23 ct23 : Value} {od23 an23 : Option Addr} {sl23 : Array (Option Value)}
    {f24 c24 : Addr} {oc24 kV24 dc24 pm24 ct24 : Value} {od24 an24 : Option Addr} {sl24 : Array (Option Value)}
    {f25 c25 : Addr} {oc25 kV25 dc25 pm25 ct25 : Value} {od25 an25 : Option Addr} {sl25 : Array (Option Value)}
    {f26 c26 : Addr} {oc26 kV26 dc26 pm26 ct26 : Value} {od26 an26 : Option Addr} {sl26 : Array (Option Value)}
    {f27 c27 : Addr} {oc27 kV27 dc27 pm27 ct27 : Value} {od27 an27 : Option Addr} {sl27 : Array (Option Value)}
    {f28 c28 : Addr} {oc28 kV28 dc28 pm28 ct28 : Value} {od28 an28 : Option Addr} {sl28 : Array (Option Value)}
    {f29 c29 : Addr} {oc29 kV29 dc29 pm29 ct29 : Value} {od29 an29 : Option Addr} {sl29 : Array (Option Value)}
    {f30 c30 : Addr} {oc30 kV30 dc30 pm30 ct30 : Value} {od30 an30 : Option Addr} {sl30 : Array (Option Value)}
    {f31 c31 : Addr} {oc31 kV31 dc31 pm31 ct31 : Value} {od31 an31 : Option Addr} {sl31 : Array (Option Value)}
    {P2 : Addr} {e2 : Value} {dd2 : Option Addr} {vs2 : Array Value} {ss2 : Array (Option Value)}
    {P3 : Addr} {e3 : Value} {dd3 : Option Addr} {vs3 : Array Value} {ss3 : Array (Option Value)}
    {P4 : Addr} {e4 : Value} {dd4 : Option Addr} {vs4 : Array Value} {ss4 : Array (Option Value)}
    {K0C : Addr}
    {K0m0f : Addr} {K0m0oc K0m0kV K0m0dc K0m0pm K0m0cd K0m0ct : Value} {K0m0od K0m0an : Option Addr} {K0m0sl : Array (Option Value)}
    {K0m1f : Addr} {K0m1oc K0m1kV K0m1dc K0m1pm K0m1cd K0m1ct : Value} {K0m1od K0m1an : Option Addr} {K0m1sl : Array (Option Value)}
    {K0m2f : Addr} {K0m2oc K0m2kV K0m2dc K0m2pm K0m2cd K0m2ct : Value} {K0m2od K0m2an : Option Addr} {K0m2sl : Array (Option Value)}
    {tMOST_PLACES : Tok}
    {tMOST_RELATIONS : Tok}
    {tMOST_VARIABLES : Tok}
    {tMOST_CONSTRAINTS : Tok}
    (a0 : PySem.W.nsIn K mainGlobals "is_integer" = some (some (.ref f0)))
    (l0 : K.lookup f0 = some ⟨oc0, od0, .func (PySem.W.fnOf "is_integer" "is_integer" (defArgs s_is_integer) (defBody s_is_integer) (defScope s_is_integer) .none kV0 dc0 pm0 an0 (.ref c0) ct0), sl0⟩)
    (d0 : PySem.W.codeIn K (.ref c0) "is_integer" = true)
    (k0 : PySem.W.keepIn K (.ref f0) = true)
    (a1 : PySem.W.nsIn K mainGlobals "is_tuple" = some (some (.ref f1)))
    (l1 : K.lookup f1 = some ⟨oc1, od1, .func (PySem.W.fnOf "is_tuple" "is_tuple" (defArgs s_is_tuple) (defBody s_is_tuple) (defScope s_is_tuple) .none kV1 dc1 pm1 an1 (.ref c1) ct1), sl1⟩)
    (d1 : PySem.W.codeIn K (.ref c1) "is_tuple" = true)
    (k1 : PySem.W.keepIn K (.ref f1) = true)
    (a2 : PySem.W.nsIn K mainGlobals "is_row" = some (some (.ref f2)))
    (l2 : K.lookup f2 = some ⟨oc2, od2, .func (PySem.W.fnOf "is_row" "is_row" (defArgs s_is_row) (defBody s_is_row) (defScope s_is_row) .none kV2 dc2 pm2 an2 (.ref c2) ct2), sl2⟩)
    (d2 : PySem.W.codeIn K (.ref c2) "is_row" = true)
    (k2 : PySem.W.keepIn K (.ref f2) = true)
    (a3 : PySem.W.nsIn K mainGlobals "is_relation" = some (some (.ref f3)))
    (l3 : K.lookup f3 = some ⟨oc3, od3, .func (PySem.W.fnOf "is_relation" "is_relation" (defArgs s_is_relation) (defBody s_is_relation) (defScope s_is_relation) .none kV3 dc3 pm3 an3 (.ref c3) ct3), sl3⟩)
    (d3 : PySem.W.codeIn K (.ref c3) "is_relation" = true)
    (k3 : PySem.W.keepIn K (.ref f3) = true)
    (a4 : PySem.W.nsIn K mainGlobals "are_places" = some (some (.ref f4)))
    (l4 : K.lookup f4 = some ⟨oc4, od4, .func (PySem.W.fnOf "are_places" "are_places" (defArgs s_are_places) (defBody s_are_places) (defScope s_are_places) .none kV4 dc4 pm4 an4 (.ref c4) ct4), sl4⟩)
    (d4 : PySem.W.codeIn K (.ref c4) "are_places" = true)
    (k4 : PySem.W.keepIn K (.ref f4) = true)
    (a5 : PySem.W.nsIn K mainGlobals "rows_left" = some (some (.ref f5)))
    (l5 : K.lookup f5 = some ⟨oc5, od5, .func (PySem.W.fnOf "rows_left" "rows_left" (defArgs s_rows_left) (defBody s_rows_left) (defScope s_rows_left) .none kV5 dc5 pm5 an5 (.ref c5) ct5), sl5⟩)
    (d5 : PySem.W.codeIn K (.ref c5) "rows_left" = true)
    (k5 : PySem.W.keepIn K (.ref f5) = true)
    (a6 : PySem.W.nsIn K mainGlobals "check_template" = some (some (.ref f6)))
    (l6 : K.lookup f6 = some ⟨oc6, od6, .func (PySem.W.fnOf "check_template" "check_template" (defArgs s_check_template) (defBody s_check_template) (defScope s_check_template) .none kV6 dc6 pm6 an6 (.ref c6) ct6), sl6⟩)
    (d6 : PySem.W.codeIn K (.ref c6) "check_template" = true)
    (k6 : PySem.W.keepIn K (.ref f6) = true)
    (a7 : PySem.W.nsIn K mainGlobals "check_instance" = some (some (.ref f7)))
    (l7 : K.lookup f7 = some ⟨oc7, od7, .func (PySem.W.fnOf "check_instance" "check_instance" (defArgs s_check_instance) (defBody s_check_instance) (defScope s_check_instance) .none kV7 dc7 pm7 an7 (.ref c7) ct7), sl7⟩)
    (d7 : PySem.W.codeIn K (.ref c7) "check_instance" = true)
    (k7 : PySem.W.keepIn K (.ref f7) = true)
    (a8 : PySem.W.nsIn K mainGlobals "is_constraint" = some (some (.ref f8)))
    (l8 : K.lookup f8 = some ⟨oc8, od8, .func (PySem.W.fnOf "is_constraint" "is_constraint" (defArgs s_is_constraint) (defBody s_is_constraint) (defScope s_is_constraint) .none kV8 dc8 pm8 an8 (.ref c8) ct8), sl8⟩)
    (d8 : PySem.W.codeIn K (.ref c8) "is_constraint" = true)
    (k8 : PySem.W.keepIn K (.ref f8) = true)
    (a9 : PySem.W.nsIn K mainGlobals "arc_refusal" = some (some (.ref f9)))
    (l9 : K.lookup f9 = some ⟨oc9, od9, .func (PySem.W.fnOf "arc_refusal" "arc_refusal" (defArgs s_arc_refusal) (defBody s_arc_refusal) (defScope s_arc_refusal) .none kV9 dc9 pm9 an9 (.ref c9) ct9), sl9⟩)
    (d9 : PySem.W.codeIn K (.ref c9) "arc_refusal" = true)
    (k9 : PySem.W.keepIn K (.ref f9) = true)
    (a10 : PySem.W.nsIn K mainGlobals "shows_arc_refusal" = some (some (.ref f10)))
    (l10 : K.lookup f10 = some ⟨oc10, od10, .func (PySem.W.fnOf "shows_arc_refusal" "shows_arc_refusal" (defArgs s_shows_arc_refusal) (defBody s_shows_arc_refusal) (defScope s_shows_arc_refusal) .none kV10 dc10 pm10 an10 (.ref c10) ct10), sl10⟩)
    (d10 : PySem.W.codeIn K (.ref c10) "shows_arc_refusal" = true)
    (k10 : PySem.W.keepIn K (.ref f10) = true)
    (a11 : PySem.W.nsIn K mainGlobals "_is_arc_step" = some (some (.ref f11)))
    (l11 : K.lookup f11 = some ⟨oc11, od11, .func (PySem.W.fnOf "_is_arc_step" "_is_arc_step" (defArgs s_is_arc_step) (defBody s_is_arc_step) (defScope s_is_arc_step) .none kV11 dc11 pm11 an11 (.ref c11) ct11), sl11⟩)
    (d11 : PySem.W.codeIn K (.ref c11) "_is_arc_step" = true)
    (k11 : PySem.W.keepIn K (.ref f11) = true)
    (a12 : PySem.W.nsIn K mainGlobals "_takes_value" = some (some (.ref f12)))
    (l12 : K.lookup f12 = some ⟨oc12, od12, .func (PySem.W.fnOf "_takes_value" "_takes_value" (defArgs s_takes_value) (defBody s_takes_value) (defScope s_takes_value) .none kV12 dc12 pm12 an12 (.ref c12) ct12), sl12⟩)
    (d12 : PySem.W.codeIn K (.ref c12) "_takes_value" = true)
    (k12 : PySem.W.keepIn K (.ref f12) = true)
    (a13 : PySem.W.nsIn K mainGlobals "values_of" = some (some (.ref f13)))
    (l13 : K.lookup f13 = some ⟨oc13, od13, .func (PySem.W.fnOf "values_of" "values_of" (defArgs s_values_of) (defBody s_values_of) (defScope s_values_of) .none kV13 dc13 pm13 an13 (.ref c13) ct13), sl13⟩)
    (d13 : PySem.W.codeIn K (.ref c13) "values_of" = true)
    (k13 : PySem.W.keepIn K (.ref f13) = true)
    (a14 : PySem.W.nsIn K mainGlobals "arc_domains" = some (some (.ref f14)))
    (l14 : K.lookup f14 = some ⟨oc14, od14, .func (PySem.W.fnOf "arc_domains" "arc_domains" (defArgs s_arc_domains) (defBody s_arc_domains) (defScope s_arc_domains) .none kV14 dc14 pm14 an14 (.ref c14) ct14), sl14⟩)
    (d14 : PySem.W.codeIn K (.ref c14) "arc_domains" = true)
    (k14 : PySem.W.keepIn K (.ref f14) = true)
    (a15 : PySem.W.nsIn K mainGlobals "_law_taken" = some (some (.ref f15)))
    (l15 : K.lookup f15 = some ⟨oc15, od15, .func (PySem.W.fnOf "_law_taken" "_law_taken" (defArgs s_law_taken) (defBody s_law_taken) (defScope s_law_taken) .none kV15 dc15 pm15 an15 (.ref c15) ct15), sl15⟩)
    (d15 : PySem.W.codeIn K (.ref c15) "_law_taken" = true)
    (k15 : PySem.W.keepIn K (.ref f15) = true)
    (a16 : PySem.W.nsIn K mainGlobals "_law_pick" = some (some (.ref f16)))
    (l16 : K.lookup f16 = some ⟨oc16, od16, .func (PySem.W.fnOf "_law_pick" "_law_pick" (defArgs s_law_pick) (defBody s_law_pick) (defScope s_law_pick) .none kV16 dc16 pm16 an16 (.ref c16) ct16), sl16⟩)
    (d16 : PySem.W.codeIn K (.ref c16) "_law_pick" = true)
    (k16 : PySem.W.keepIn K (.ref f16) = true)
    (a17 : PySem.W.nsIn K mainGlobals "_law_alike" = some (some (.ref f17)))
    (l17 : K.lookup f17 = some ⟨oc17, od17, .func (PySem.W.fnOf "_law_alike" "_law_alike" (defArgs s_law_alike) (defBody s_law_alike) (defScope s_law_alike) .none kV17 dc17 pm17 an17 (.ref c17) ct17), sl17⟩)
    (d17 : PySem.W.codeIn K (.ref c17) "_law_alike" = true)
    (k17 : PySem.W.keepIn K (.ref f17) = true)
    (a18 : PySem.W.nsIn K mainGlobals "_law_whole" = some (some (.ref f18)))
    (l18 : K.lookup f18 = some ⟨oc18, od18, .func (PySem.W.fnOf "_law_whole" "_law_whole" (defArgs s_law_whole) (defBody s_law_whole) (defScope s_law_whole) .none kV18 dc18 pm18 an18 (.ref c18) ct18), sl18⟩)
    (d18 : PySem.W.codeIn K (.ref c18) "_law_whole" = true)
    (k18 : PySem.W.keepIn K (.ref f18) = true)
    (a19 : PySem.W.nsIn K mainGlobals "_law_rows" = some (some (.ref f19)))
    (l19 : K.lookup f19 = some ⟨oc19, od19, .func (PySem.W.fnOf "_law_rows" "_law_rows" (defArgs s_law_rows) (defBody s_law_rows) (defScope s_law_rows) .none kV19 dc19 pm19 an19 (.ref c19) ct19), sl19⟩)
    (d19 : PySem.W.codeIn K (.ref c19) "_law_rows" = true)
    (k19 : PySem.W.keepIn K (.ref f19) = true)
    (a20 : PySem.W.nsIn K mainGlobals "_law_tuples" = some (some (.ref f20)))
    (l20 : K.lookup f20 = some ⟨oc20, od20, .func (PySem.W.fnOf "_law_tuples" "_law_tuples" (defArgs s_law_tuples) (defBody s_law_tuples) (defScope s_law_tuples) .none kV20 dc20 pm20 an20 (.ref c20) ct20), sl20⟩)
    (d20 : PySem.W.codeIn K (.ref c20) "_law_tuples" = true)
    (k20 : PySem.W.keepIn K (.ref f20) = true)
    (a21 : PySem.W.nsIn K mainGlobals "_law_value" = some (some (.ref f21)))
    (l21 : K.lookup f21 = some ⟨oc21, od21, .func (PySem.W.fnOf "_law_value" "_law_value" (defArgs s_law_value) (defBody s_law_value) (defScope s_law_value) .none kV21 dc21 pm21 an21 (.ref c21) ct21), sl21⟩)
    (d21 : PySem.W.codeIn K (.ref c21) "_law_value" = true)
    (k21 : PySem.W.keepIn K (.ref f21) = true)
    (a22 : PySem.W.nsIn K mainGlobals "_law_carried" = some (some (.ref f22)))
    (l22 : K.lookup f22 = some ⟨oc22, od22, .func (PySem.W.fnOf "_law_carried" "_law_carried" (defArgs s_law_carried) (defBody s_law_carried) (defScope s_law_carried) .none kV22 dc22 pm22 an22 (.ref c22) ct22), sl22⟩)
    (d22 : PySem.W.codeIn K (.ref c22) "_law_carried" = true)
    (k22 : PySem.W.keepIn K (.ref f22) = true)
    (a23 : PySem.W.nsIn K mainGlobals "_law_closed" = some (some (.ref f23)))
    (l23 : K.lookup f23 = some ⟨oc23, od23, .func (PySem.W.fnOf "_law_closed" "_law_closed" (defArgs s_law_closed) (defBody s_law_closed) (defScope s_law_closed) .none kV23 dc23 pm23 an23 (.ref c23) ct23), sl23⟩)
    (d23 : PySem.W.codeIn K (.ref c23) "_law_closed" = true)
    (k23 : PySem.W.keepIn K (.ref f23) = true)
    (a24 : PySem.W.nsIn K mainGlobals "_law_kept" = some (some (.ref f24)))
    (l24 : K.lookup f24 = some ⟨oc24, od24, .func (PySem.W.fnOf "_law_kept" "_law_kept" (defArgs s_law_kept) (defBody s_law_kept) (defScope s_law_kept) .none kV24 dc24 pm24 an24 (.ref c24) ct24), sl24⟩)
    (d24 : PySem.W.codeIn K (.ref c24) "_law_kept" = true)
    (k24 : PySem.W.keepIn K (.ref f24) = true)
    (a25 : PySem.W.nsIn K mainGlobals "_law_named" = some (some (.ref f25)))
    (l25 : K.lookup f25 = some ⟨oc25, od25, .func (PySem.W.fnOf "_law_named" "_law_named" (defArgs s_law_named) (defBody s_law_named) (defScope s_law_named) .none kV25 dc25 pm25 an25 (.ref c25) ct25), sl25⟩)
    (d25 : PySem.W.codeIn K (.ref c25) "_law_named" = true)
    (k25 : PySem.W.keepIn K (.ref f25) = true)
    (a26 : PySem.W.nsIn K mainGlobals "_law_some_rows" = some (some (.ref f26)))
    (l26 : K.lookup f26 = some ⟨oc26, od26, .func (PySem.W.fnOf "_law_some_rows" "_law_some_rows" (defArgs s_law_some_rows) (defBody s_law_some_rows) (defScope s_law_some_rows) .none kV26 dc26 pm26 an26 (.ref c26) ct26), sl26⟩)
    (d26 : PySem.W.codeIn K (.ref c26) "_law_some_rows" = true)
    (k26 : PySem.W.keepIn K (.ref f26) = true)
    (a27 : PySem.W.nsIn K mainGlobals "_law_relation" = some (some (.ref f27)))
    (l27 : K.lookup f27 = some ⟨oc27, od27, .func (PySem.W.fnOf "_law_relation" "_law_relation" (defArgs s_law_relation) (defBody s_law_relation) (defScope s_law_relation) .none kV27 dc27 pm27 an27 (.ref c27) ct27), sl27⟩)
    (d27 : PySem.W.codeIn K (.ref c27) "_law_relation" = true)
    (k27 : PySem.W.keepIn K (.ref f27) = true)
    (a28 : PySem.W.nsIn K mainGlobals "_law_template" = some (some (.ref f28)))
    (l28 : K.lookup f28 = some ⟨oc28, od28, .func (PySem.W.fnOf "_law_template" "_law_template" (defArgs s_law_template) (defBody s_law_template) (defScope s_law_template) .none kV28 dc28 pm28 an28 (.ref c28) ct28), sl28⟩)
    (d28 : PySem.W.codeIn K (.ref c28) "_law_template" = true)
    (k28 : PySem.W.keepIn K (.ref f28) = true)
    (a29 : PySem.W.nsIn K mainGlobals "_law_instance" = some (some (.ref f29)))
    (l29 : K.lookup f29 = some ⟨oc29, od29, .func (PySem.W.fnOf "_law_instance" "_law_instance" (defArgs s_law_instance) (defBody s_law_instance) (defScope s_law_instance) .none kV29 dc29 pm29 an29 (.ref c29) ct29), sl29⟩)
    (d29 : PySem.W.codeIn K (.ref c29) "_law_instance" = true)
    (k29 : PySem.W.keepIn K (.ref f29) = true)
    (a30 : PySem.W.nsIn K mainGlobals "_law_taken_away" = some (some (.ref f30)))
    (l30 : K.lookup f30 = some ⟨oc30, od30, .func (PySem.W.fnOf "_law_taken_away" "_law_taken_away" (defArgs s_law_taken_away) (defBody s_law_taken_away) (defScope s_law_taken_away) .none kV30 dc30 pm30 an30 (.ref c30) ct30), sl30⟩)
    (d30 : PySem.W.codeIn K (.ref c30) "_law_taken_away" = true)
    (k30 : PySem.W.keepIn K (.ref f30) = true)
    (a31 : PySem.W.nsIn K mainGlobals "law" = some (some (.ref f31)))
    (l31 : K.lookup f31 = some ⟨oc31, od31, .func (PySem.W.fnOf "law" "law" (defArgs s_law) (defBody s_law) (defScope s_law) .none kV31 dc31 pm31 an31 (.ref c31) ct31), sl31⟩)
    (d31 : PySem.W.codeIn K (.ref c31) "law" = true)
    (k31 : PySem.W.keepIn K (.ref f31) = true)
    (m2 : K.lookup c2 = some ⟨e2, dd2, .fields vs2, ss2⟩)
    (v2 : vs2[11]? = some (.ref P2))
    (h2 : PySem.W.codeHdIn K c2 P2 = true)
    (n2 : K.lookup P2 = none)
    (m3 : K.lookup c3 = some ⟨e3, dd3, .fields vs3, ss3⟩)
    (v3 : vs3[11]? = some (.ref P3))
    (h3 : PySem.W.codeHdIn K c3 P3 = true)
    (n3 : K.lookup P3 = none)
    (m4 : K.lookup c4 = some ⟨e4, dd4, .fields vs4, ss4⟩)
    (v4 : vs4[11]? = some (.ref P4))
    (h4 : PySem.W.codeHdIn K c4 P4 = true)
    (n4 : K.lookup P4 = none)
    (K0A : PySem.W.nsIn K mainGlobals "Narrowing" = some (some (.ref K0C)))
    (K0m0a : PySem.W.findIn K (.ref K0C) "__init__" = some (some (.ref K0m0f)))
    (K0m0i : PySem.W.isFn K (.ref K0m0f) = true)
    (K0m0l : K.lookup K0m0f = some ⟨K0m0oc, K0m0od, .func (PySem.W.fnOf "__init__" "Narrowing.__init__" (defArgs s_Narrowing_init) (defBody s_Narrowing_init) (defScope s_Narrowing_init) .none K0m0kV K0m0dc K0m0pm K0m0an K0m0cd K0m0ct), K0m0sl⟩)
    (K0m0c : PySem.W.codeIn K K0m0cd "Narrowing.__init__" = true)
    (K0m0k : PySem.W.keepIn K (.ref K0m0f) = true)
    (K0m1a : PySem.W.findIn K (.ref K0C) "run" = some (some (.ref K0m1f)))
    (K0m1i : PySem.W.isFn K (.ref K0m1f) = true)
    (K0m1l : K.lookup K0m1f = some ⟨K0m1oc, K0m1od, .func (PySem.W.fnOf "run" "Narrowing.run" (defArgs s_Narrowing_run) (defBody s_Narrowing_run) (defScope s_Narrowing_run) .none K0m1kV K0m1dc K0m1pm K0m1an K0m1cd K0m1ct), K0m1sl⟩)
    (K0m1c : PySem.W.codeIn K K0m1cd "Narrowing.run" = true)
    (K0m1k : PySem.W.keepIn K (.ref K0m1f) = true)
    (K0m2a : PySem.W.findIn K (.ref K0C) "_follow" = some (some (.ref K0m2f)))
    (K0m2i : PySem.W.isFn K (.ref K0m2f) = true)
    (K0m2l : K.lookup K0m2f = some ⟨K0m2oc, K0m2od, .func (PySem.W.fnOf "_follow" "Narrowing._follow" (defArgs s_Narrowing_follow) (defBody s_Narrowing_follow) (defScope s_Narrowing_follow) .none K0m2kV K0m2dc K0m2pm K0m2an K0m2cd K0m2ct), K0m2sl⟩)
    (K0m2c : PySem.W.codeIn K K0m2cd "Narrowing._follow" = true)
    (K0m2k : PySem.W.keepIn K (.ref K0m2f) = true)
    (K0pg : PySem.W.plainGet K K0C Str.empty = true) (K0hd : PySem.W.hasDictIn K K0C = true) (K0po : PySem.W.plainOver K K0C = true) (K0sa : PySem.W.findIn K (.ref K0C) "__setattr__" = some (some (.builtin "object.__setattr__"))) (K0mk : PySem.W.makesIn K K0C = true) (K0kc : PySem.W.keepIn K (.ref K0C) = true)
    (K0nscopes : PySem.W.findIn K (.ref K0C) "scopes" = some none)
    (K0nrows : PySem.W.findIn K (.ref K0C) "rows" = some none)
    (K0nmasks : PySem.W.findIn K (.ref K0C) "masks" = some none)
    (K0nsteps : PySem.W.findIn K (.ref K0C) "steps" = some none)
    (K0nfailed : PySem.W.findIn K (.ref K0C) "failed" = some none)
    (qMOST_PLACES : PySem.W.nsIn K mainGlobals "MOST_PLACES" = some (some (.int 4 tMOST_PLACES)))
    (qMOST_RELATIONS : PySem.W.nsIn K mainGlobals "MOST_RELATIONS" = some (some (.int 6 tMOST_RELATIONS)))
    (qMOST_VARIABLES : PySem.W.nsIn K mainGlobals "MOST_VARIABLES" = some (some (.int 16 tMOST_VARIABLES)))
    (qMOST_CONSTRAINTS : PySem.W.nsIn K mainGlobals "MOST_CONSTRAINTS" = some (some (.int 200 tMOST_CONSTRAINTS)))
    (zall : PySem.W.nsIn K mainGlobals "all" = some none)
    (zbool : PySem.W.nsIn K mainGlobals "bool" = some none)
    (zenumerate : PySem.W.nsIn K mainGlobals "enumerate" = some none)
    (zint : PySem.W.nsIn K mainGlobals "int" = some none)
    (zisinstance : PySem.W.nsIn K mainGlobals "isinstance" = some none)
    (zlen : PySem.W.nsIn K mainGlobals "len" = some none)
    (zlist : PySem.W.nsIn K mainGlobals "list" = some none)
    (zmax : PySem.W.nsIn K mainGlobals "max" = some none)
    (zmin : PySem.W.nsIn K mainGlobals "min" = some none)
    (zrange : PySem.W.nsIn K mainGlobals "range" = some none)
    (zsorted : PySem.W.nsIn K mainGlobals "sorted" = some none)
    (zstr : PySem.W.nsIn K mainGlobals "str" = some none)
    (ztuple : PySem.W.nsIn K mainGlobals "tuple" = some none)
    (zzip : PySem.W.nsIn K mainGlobals "zip" = some none) : LamX.LawAtS l w K CX0 11 63 "script" mg fa h := by
  have e : f31 = fa := by
    have z := (PySem.W.mg_of X G a31).symm.trans hfa
    cases z
    rfl
  subst e
  have F0 : FunC K "is_integer" s_is_integer f0 (PySem.W.fnOf "is_integer" "is_integer" (defArgs s_is_integer) (defBody s_is_integer) (defScope s_is_integer) .none kV0 dc0 pm0 an0 (.ref c0) ct0) c0 := ⟨⟨oc0, od0, kV0, dc0, pm0, an0, ct0, sl0, rfl, l0, d0⟩, k0⟩
  have b0 := F0.binds (ps := p_is_integer) fun _ _ _ _ _ _ us hl => match us, hl with | [_, _, _], _ => rfl
  have F1 : FunC K "is_tuple" s_is_tuple f1 (PySem.W.fnOf "is_tuple" "is_tuple" (defArgs s_is_tuple) (defBody s_is_tuple) (defScope s_is_tuple) .none kV1 dc1 pm1 an1 (.ref c1) ct1) c1 := ⟨⟨oc1, od1, kV1, dc1, pm1, an1, ct1, sl1, rfl, l1, d1⟩, k1⟩
  have b1 := F1.binds (ps := p_is_tuple) fun _ _ _ _ _ _ us hl => match us, hl with | [_, _, _], _ => rfl
  have F2 : FunC K "is_row" s_is_row f2 (PySem.W.fnOf "is_row" "is_row" (defArgs s_is_row) (defBody s_is_row) (defScope s_is_row) .none kV2 dc2 pm2 an2 (.ref c2) ct2) c2 := ⟨⟨oc2, od2, kV2, dc2, pm2, an2, ct2, sl2, rfl, l2, d2⟩, k2⟩
  have b2 := F2.binds (ps := p_is_row) fun _ _ _ _ _ _ us hl => match us, hl with | [_, _, _], _ => rfl
  have F3 : FunC K "is_relation" s_is_relation f3 (PySem.W.fnOf "is_relation" "is_relation" (defArgs s_is_relation) (defBody s_is_relation) (defScope s_is_relation) .none kV3 dc3 pm3 an3 (.ref c3) ct3) c3 := ⟨⟨oc3, od3, kV3, dc3, pm3, an3, ct3, sl3, rfl, l3, d3⟩, k3⟩
  have b3 := F3.binds (ps := p_is_relation) fun _ _ _ _ _ _ us hl => match us, hl with | [_, _], _ => rfl
  have F4 : FunC K "are_places" s_are_places f4 (PySem.W.fnOf "are_places" "are_places" (defArgs s_are_places) (defBody s_are_places) (defScope s_are_places) .none kV4 dc4 pm4 an4 (.ref c4) ct4) c4 := ⟨⟨oc4, od4, kV4, dc4, pm4, an4, ct4, sl4, rfl, l4, d4⟩, k4⟩
  have b4 := F4.binds (ps := p_are_places) fun _ _ _ _ _ _ us hl => match us, hl with | [_, _, _, _], _ => rfl
  have F5 : FunC K "rows_left" s_rows_left f5 (PySem.W.fnOf "rows_left" "rows_left" (defArgs s_rows_left) (defBody s_rows_left) (defScope s_rows_left) .none kV5 dc5 pm5 an5 (.ref c5) ct5) c5 := ⟨⟨oc5, od5, kV5, dc5, pm5, an5, ct5, sl5, rfl, l5, d5⟩, k5⟩
  have b5 := F5.binds (ps := p_rows_left) fun _ _ _ _ _ _ us hl => match us, hl with | [_, _, _], _ => rfl
  have F6 : FunC K "check_template" s_check_template f6 (PySem.W.fnOf "check_template" "check_template" (defArgs s_check_template) (defBody s_check_template) (defScope s_check_template) .none kV6 dc6 pm6 an6 (.ref c6) ct6) c6 := ⟨⟨oc6, od6, kV6, dc6, pm6, an6, ct6, sl6, rfl, l6, d6⟩, k6⟩
  have b6 := F6.binds (ps := p_check_template) fun _ _ _ _ _ _ us hl => match us, hl with | [_], _ => rfl
  have F7 : FunC K "check_instance" s_check_instance f7 (PySem.W.fnOf "check_instance" "check_instance" (defArgs s_check_instance) (defBody s_check_instance) (defScope s_check_instance) .none kV7 dc7 pm7 an7 (.ref c7) ct7) c7 := ⟨⟨oc7, od7, kV7, dc7, pm7, an7, ct7, sl7, rfl, l7, d7⟩, k7⟩
  have b7 := F7.binds (ps := p_check_instance) fun _ _ _ _ _ _ us hl => match us, hl with | [_, _], _ => rfl
  have F8 : FunC K "is_constraint" s_is_constraint f8 (PySem.W.fnOf "is_constraint" "is_constraint" (defArgs s_is_constraint) (defBody s_is_constraint) (defScope s_is_constraint) .none kV8 dc8 pm8 an8 (.ref c8) ct8) c8 := ⟨⟨oc8, od8, kV8, dc8, pm8, an8, ct8, sl8, rfl, l8, d8⟩, k8⟩
  have b8 := F8.binds (ps := p_is_constraint) fun _ _ _ _ _ _ us hl => match us, hl with | [_, _, _], _ => rfl
  have F9 : FunC K "arc_refusal" s_arc_refusal f9 (PySem.W.fnOf "arc_refusal" "arc_refusal" (defArgs s_arc_refusal) (defBody s_arc_refusal) (defScope s_arc_refusal) .none kV9 dc9 pm9 an9 (.ref c9) ct9) c9 := ⟨⟨oc9, od9, kV9, dc9, pm9, an9, ct9, sl9, rfl, l9, d9⟩, k9⟩
  have b9 := F9.binds (ps := p_arc_refusal) fun _ _ _ _ _ _ us hl => match us, hl with | [_, _], _ => rfl
  have F10 : FunC K "shows_arc_refusal" s_shows_arc_refusal f10 (PySem.W.fnOf "shows_arc_refusal" "shows_arc_refusal" (defArgs s_shows_arc_refusal) (defBody s_shows_arc_refusal) (defScope s_shows_arc_refusal) .none kV10 dc10 pm10 an10 (.ref c10) ct10) c10 := ⟨⟨oc10, od10, kV10, dc10, pm10, an10, ct10, sl10, rfl, l10, d10⟩, k10⟩
  have b10 := F10.binds (ps := p_shows_arc_refusal) fun _ _ _ _ _ _ us hl => match us, hl with | [_, _, _], _ => rfl
  have F11 : FunC K "_is_arc_step" s_is_arc_step f11 (PySem.W.fnOf "_is_arc_step" "_is_arc_step" (defArgs s_is_arc_step) (defBody s_is_arc_step) (defScope s_is_arc_step) .none kV11 dc11 pm11 an11 (.ref c11) ct11) c11 := ⟨⟨oc11, od11, kV11, dc11, pm11, an11, ct11, sl11, rfl, l11, d11⟩, k11⟩
  have b11 := F11.binds (ps := p_is_arc_step) fun _ _ _ _ _ _ us hl => match us, hl with | [_, _, _], _ => rfl
  have F12 : FunC K "_takes_value" s_takes_value f12 (PySem.W.fnOf "_takes_value" "_takes_value" (defArgs s_takes_value) (defBody s_takes_value) (defScope s_takes_value) .none kV12 dc12 pm12 an12 (.ref c12) ct12) c12 := ⟨⟨oc12, od12, kV12, dc12, pm12, an12, ct12, sl12, rfl, l12, d12⟩, k12⟩
  have b12 := F12.binds (ps := p_takes_value) fun _ _ _ _ _ _ us hl => match us, hl with | [_, _, _, _], _ => rfl
  have F13 : FunC K "values_of" s_values_of f13 (PySem.W.fnOf "values_of" "values_of" (defArgs s_values_of) (defBody s_values_of) (defScope s_values_of) .none kV13 dc13 pm13 an13 (.ref c13) ct13) c13 := ⟨⟨oc13, od13, kV13, dc13, pm13, an13, ct13, sl13, rfl, l13, d13⟩, k13⟩
  have b13 := F13.binds (ps := p_values_of) fun _ _ _ _ _ _ us hl => match us, hl with | [_], _ => rfl
  have F14 : FunC K "arc_domains" s_arc_domains f14 (PySem.W.fnOf "arc_domains" "arc_domains" (defArgs s_arc_domains) (defBody s_arc_domains) (defScope s_arc_domains) .none kV14 dc14 pm14 an14 (.ref c14) ct14) c14 := ⟨⟨oc14, od14, kV14, dc14, pm14, an14, ct14, sl14, rfl, l14, d14⟩, k14⟩
  have b14 := F14.binds (ps := p_arc_domains) fun _ _ _ _ _ _ us hl => match us, hl with | [_, _], _ => rfl
  have F15 : FunC K "_law_taken" s_law_taken f15 (PySem.W.fnOf "_law_taken" "_law_taken" (defArgs s_law_taken) (defBody s_law_taken) (defScope s_law_taken) .none kV15 dc15 pm15 an15 (.ref c15) ct15) c15 := ⟨⟨oc15, od15, kV15, dc15, pm15, an15, ct15, sl15, rfl, l15, d15⟩, k15⟩
  have b15 := F15.binds (ps := p_law_taken) fun _ _ _ _ _ _ us hl => match us, hl with | [_, _], _ => rfl
  have F16 : FunC K "_law_pick" s_law_pick f16 (PySem.W.fnOf "_law_pick" "_law_pick" (defArgs s_law_pick) (defBody s_law_pick) (defScope s_law_pick) .none kV16 dc16 pm16 an16 (.ref c16) ct16) c16 := ⟨⟨oc16, od16, kV16, dc16, pm16, an16, ct16, sl16, rfl, l16, d16⟩, k16⟩
  have b16 := F16.binds (ps := p_law_pick) fun _ _ _ _ _ _ us hl => match us, hl with | [_, _], _ => rfl
  have F17 : FunC K "_law_alike" s_law_alike f17 (PySem.W.fnOf "_law_alike" "_law_alike" (defArgs s_law_alike) (defBody s_law_alike) (defScope s_law_alike) .none kV17 dc17 pm17 an17 (.ref c17) ct17) c17 := ⟨⟨oc17, od17, kV17, dc17, pm17, an17, ct17, sl17, rfl, l17, d17⟩, k17⟩
  have b17 := F17.binds (ps := p_law_alike) fun _ _ _ _ _ _ us hl => match us, hl with | [_, _], _ => rfl
  have F18 : FunC K "_law_whole" s_law_whole f18 (PySem.W.fnOf "_law_whole" "_law_whole" (defArgs s_law_whole) (defBody s_law_whole) (defScope s_law_whole) .none kV18 dc18 pm18 an18 (.ref c18) ct18) c18 := ⟨⟨oc18, od18, kV18, dc18, pm18, an18, ct18, sl18, rfl, l18, d18⟩, k18⟩
  have b18 := F18.binds (ps := p_law_whole) fun _ _ _ _ _ _ us hl => match us, hl with | [_, _, _], _ => rfl
  have F19 : FunC K "_law_rows" s_law_rows f19 (PySem.W.fnOf "_law_rows" "_law_rows" (defArgs s_law_rows) (defBody s_law_rows) (defScope s_law_rows) .none kV19 dc19 pm19 an19 (.ref c19) ct19) c19 := ⟨⟨oc19, od19, kV19, dc19, pm19, an19, ct19, sl19, rfl, l19, d19⟩, k19⟩
  have b19 := F19.binds (ps := p_law_rows) fun _ _ _ _ _ _ us hl => match us, hl with | [_, _], _ => rfl
  have F20 : FunC K "_law_tuples" s_law_tuples f20 (PySem.W.fnOf "_law_tuples" "_law_tuples" (defArgs s_law_tuples) (defBody s_law_tuples) (defScope s_law_tuples) .none kV20 dc20 pm20 an20 (.ref c20) ct20) c20 := ⟨⟨oc20, od20, kV20, dc20, pm20, an20, ct20, sl20, rfl, l20, d20⟩, k20⟩
  have b20 := F20.binds (ps := p_law_tuples) fun _ _ _ _ _ _ us hl => match us, hl with | [_, _], _ => rfl
  have F21 : FunC K "_law_value" s_law_value f21 (PySem.W.fnOf "_law_value" "_law_value" (defArgs s_law_value) (defBody s_law_value) (defScope s_law_value) .none kV21 dc21 pm21 an21 (.ref c21) ct21) c21 := ⟨⟨oc21, od21, kV21, dc21, pm21, an21, ct21, sl21, rfl, l21, d21⟩, k21⟩
  have b21 := F21.binds (ps := p_law_value) fun _ _ _ _ _ _ us hl => match us, hl with | [_, _, _], _ => rfl
  have F22 : FunC K "_law_carried" s_law_carried f22 (PySem.W.fnOf "_law_carried" "_law_carried" (defArgs s_law_carried) (defBody s_law_carried) (defScope s_law_carried) .none kV22 dc22 pm22 an22 (.ref c22) ct22) c22 := ⟨⟨oc22, od22, kV22, dc22, pm22, an22, ct22, sl22, rfl, l22, d22⟩, k22⟩
  have b22 := F22.binds (ps := p_law_carried) fun _ _ _ _ _ _ us hl => match us, hl with | [_, _, _], _ => rfl
  have F23 : FunC K "_law_closed" s_law_closed f23 (PySem.W.fnOf "_law_closed" "_law_closed" (defArgs s_law_closed) (defBody s_law_closed) (defScope s_law_closed) .none kV23 dc23 pm23 an23 (.ref c23) ct23) c23 := ⟨⟨oc23, od23, kV23, dc23, pm23, an23, ct23, sl23, rfl, l23, d23⟩, k23⟩
  have b23 := F23.binds (ps := p_law_closed) fun _ _ _ _ _ _ us hl => match us, hl with | [_, _, _, _], _ => rfl
  have F24 : FunC K "_law_kept" s_law_kept f24 (PySem.W.fnOf "_law_kept" "_law_kept" (defArgs s_law_kept) (defBody s_law_kept) (defScope s_law_kept) .none kV24 dc24 pm24 an24 (.ref c24) ct24) c24 := ⟨⟨oc24, od24, kV24, dc24, pm24, an24, ct24, sl24, rfl, l24, d24⟩, k24⟩
  have b24 := F24.binds (ps := p_law_kept) fun _ _ _ _ _ _ us hl => match us, hl with | [_, _, _, _], _ => rfl
  have F25 : FunC K "_law_named" s_law_named f25 (PySem.W.fnOf "_law_named" "_law_named" (defArgs s_law_named) (defBody s_law_named) (defScope s_law_named) .none kV25 dc25 pm25 an25 (.ref c25) ct25) c25 := ⟨⟨oc25, od25, kV25, dc25, pm25, an25, ct25, sl25, rfl, l25, d25⟩, k25⟩
  have b25 := F25.binds (ps := p_law_named) fun _ _ _ _ _ _ us hl => match us, hl with | [_], _ => rfl
  have F26 : FunC K "_law_some_rows" s_law_some_rows f26 (PySem.W.fnOf "_law_some_rows" "_law_some_rows" (defArgs s_law_some_rows) (defBody s_law_some_rows) (defScope s_law_some_rows) .none kV26 dc26 pm26 an26 (.ref c26) ct26) c26 := ⟨⟨oc26, od26, kV26, dc26, pm26, an26, ct26, sl26, rfl, l26, d26⟩, k26⟩
  have b26 := F26.binds (ps := p_law_some_rows) fun _ _ _ _ _ _ us hl => match us, hl with | [_, _, _, _], _ => rfl
  have F27 : FunC K "_law_relation" s_law_relation f27 (PySem.W.fnOf "_law_relation" "_law_relation" (defArgs s_law_relation) (defBody s_law_relation) (defScope s_law_relation) .none kV27 dc27 pm27 an27 (.ref c27) ct27) c27 := ⟨⟨oc27, od27, kV27, dc27, pm27, an27, ct27, sl27, rfl, l27, d27⟩, k27⟩
  have b27 := F27.binds (ps := p_law_relation) fun _ _ _ _ _ _ us hl => match us, hl with | [_, _, _, _], _ => rfl
  have F28 : FunC K "_law_template" s_law_template f28 (PySem.W.fnOf "_law_template" "_law_template" (defArgs s_law_template) (defBody s_law_template) (defScope s_law_template) .none kV28 dc28 pm28 an28 (.ref c28) ct28) c28 := ⟨⟨oc28, od28, kV28, dc28, pm28, an28, ct28, sl28, rfl, l28, d28⟩, k28⟩
  have b28 := F28.binds (ps := p_law_template) fun _ _ _ _ _ _ us hl => match us, hl with | [_, _, _, _, _], _ => rfl
  have F29 : FunC K "_law_instance" s_law_instance f29 (PySem.W.fnOf "_law_instance" "_law_instance" (defArgs s_law_instance) (defBody s_law_instance) (defScope s_law_instance) .none kV29 dc29 pm29 an29 (.ref c29) ct29) c29 := ⟨⟨oc29, od29, kV29, dc29, pm29, an29, ct29, sl29, rfl, l29, d29⟩, k29⟩
  have b29 := F29.binds (ps := p_law_instance) fun _ _ _ _ _ _ us hl => match us, hl with | [_, _, _, _], _ => rfl
  have F30 : FunC K "_law_taken_away" s_law_taken_away f30 (PySem.W.fnOf "_law_taken_away" "_law_taken_away" (defArgs s_law_taken_away) (defBody s_law_taken_away) (defScope s_law_taken_away) .none kV30 dc30 pm30 an30 (.ref c30) ct30) c30 := ⟨⟨oc30, od30, kV30, dc30, pm30, an30, ct30, sl30, rfl, l30, d30⟩, k30⟩
  have b30 := F30.binds (ps := p_law_taken_away) fun _ _ _ _ _ _ us hl => match us, hl with | [_, _, _], _ => rfl
  have F31 : FunC K "law" s_law f31 (PySem.W.fnOf "law" "law" (defArgs s_law) (defBody s_law) (defScope s_law) .none kV31 dc31 pm31 an31 (.ref c31) ct31) c31 := ⟨⟨oc31, od31, kV31, dc31, pm31, an31, ct31, sl31, rfl, l31, d31⟩, k31⟩
  have b31 := F31.binds (ps := p_law) fun _ _ _ _ _ _ us hl => match us, hl with | [_], _ => rfl
  have w2 : h.get? P2 = some { cls := .none, data := .fields #[] } := own "is_row" (by simp [tabNames]) f2 (PySem.W.mg_of X G a2) c2 P2 _ _ _ _ _ _ l2 rfl rfl m2 v2
  have w3 : h.get? P3 = some { cls := .none, data := .fields #[] } := own "is_relation" (by simp [tabNames]) f3 (PySem.W.mg_of X G a3) c3 P3 _ _ _ _ _ _ l3 rfl rfl m3 v3
  have w4 : h.get? P4 = some { cls := .none, data := .fields #[] } := own "are_places" (by simp [tabNames]) f4 (PySem.W.mg_of X G a4) c4 P4 _ _ _ _ _ _ l4 rfl rfl m4 v4
  have three : ∀ {R : Addr × Addr → Prop}, R (c2, P2) → R (c3, P3) → R (c4, P4) → ∀ p ∈ ([(c2, P2), (c3, P3), (c4, P4)] : List (Addr × Addr)), R p := fun r2 r3 r4 p hp => by
    simp only [List.mem_cons, List.not_mem_nil, or_false] at hp
    rcases hp with rfl | rfl | rfl
    · exact r2
    · exact r3
    · exact r4
  refine ⟨(PySem.W.fnOf "law" "law" (defArgs s_law) (defBody s_law) (defScope s_law) .none kV31 dc31 pm31 an31 (.ref c31) ct31), [(c2, P2), (c3, P3), (c4, P4)], fun vs H Q _ => ∃ (c : Addr) (ns : List Int), vs = [.ref c] ∧ SqL K H c (ns.map V.int) ∧ (H c ≠ none ∨ SqL K (fun _ => none) c (ns.map V.int)) ∧ TT [P2, P3, P4] H ∧ ∀ H', Q (.bl true) H', three w2 w3 w4, three n2 n3 n4, three (PySem.W.codeHd_of_K X h2) (PySem.W.codeHd_of_K X h3) (PySem.W.codeHd_of_K X h4), fun s v => .of_eq rfl, fun H a ns _ _ hH hS => ⟨a, ns, rfl, hS, ?_, ?_, fun _ => rfl⟩, fun base kb nb hT => ?_⟩
  · rcases hS with (hS | ⟨o', hS⟩) | hS
    · exact .inl (by rw [hS]; intro z; cases z)
    · exact .inl (by rw [hS]; intro z; cases z)
    · exact .inr (.inr hS)
  · intro P hP
    obtain ⟨p, hp, rfl⟩ : ∃ p ∈ ([(c2, P2), (c3, P3), (c4, P4)] : List (Addr × Addr)), p.2 = P := by
      simp only [List.mem_cons, List.not_mem_nil, or_false] at hP
      rcases hP with rfl | rfl | rfl
      · exact ⟨_, List.mem_cons_self, rfl⟩
      · exact ⟨_, (List.mem_cons_of_mem _ List.mem_cons_self), rfl⟩
      · exact ⟨_, (List.mem_cons_of_mem _ (List.mem_cons_of_mem _ List.mem_cons_self)), rfl⟩
    exact ⟨#[], hH p hp, by first | exact trivial | constructor⟩
  · exact ok_law (P := l.prog) (w := w) {
      is_integer := { f := f0, fd := _, c := c0, F := F0, b := b0, g := PySem.W.mg_of X G a0 }
      is_tuple := { f := f1, fd := _, c := c1, F := F1, b := b1, g := PySem.W.mg_of X G a1 }
      is_row := { f := f2, fd := _, c := c2, F := F2, b := b2, g := PySem.W.mg_of X G a2, P := P2, TB := hT (c2, P2) (List.mem_cons_self) }
      is_relation := { f := f3, fd := _, c := c3, F := F3, b := b3, g := PySem.W.mg_of X G a3, P := P3, TB := hT (c3, P3) ((List.mem_cons_of_mem _ List.mem_cons_self)) }
      are_places := { f := f4, fd := _, c := c4, F := F4, b := b4, g := PySem.W.mg_of X G a4, P := P4, TB := hT (c4, P4) ((List.mem_cons_of_mem _ (List.mem_cons_of_mem _ List.mem_cons_self))) }
      rows_left := { f := f5, fd := _, c := c5, F := F5, b := b5, g := PySem.W.mg_of X G a5 }
      check_template := { f := f6, fd := _, c := c6, F := F6, b := b6, g := PySem.W.mg_of X G a6 }
      check_instance := { f := f7, fd := _, c := c7, F := F7, b := b7, g := PySem.W.mg_of X G a7 }
      is_constraint := { f := f8, fd := _, c := c8, F := F8, b := b8, g := PySem.W.mg_of X G a8 }
      arc_refusal := { f := f9, fd := _, c := c9, F := F9, b := b9, g := PySem.W.mg_of X G a9 }
      shows_arc_refusal := { f := f10, fd := _, c := c10, F := F10, b := b10, g := PySem.W.mg_of X G a10 }
      is_arc_step := { f := f11, fd := _, c := c11, F := F11, b := b11, g := PySem.W.mg_of X G a11 }
      takes_value := { f := f12, fd := _, c := c12, F := F12, b := b12, g := PySem.W.mg_of X G a12 }
      values_of := { f := f13, fd := _, c := c13, F := F13, b := b13, g := PySem.W.mg_of X G a13 }
      arc_domains := { f := f14, fd := _, c := c14, F := F14, b := b14, g := PySem.W.mg_of X G a14 }
      law_taken := { f := f15, fd := _, c := c15, F := F15, b := b15, g := PySem.W.mg_of X G a15 }
      law_pick := { f := f16, fd := _, c := c16, F := F16, b := b16, g := PySem.W.mg_of X G a16 }
      law_alike := { f := f17, fd := _, c := c17, F := F17, b := b17, g := PySem.W.mg_of X G a17 }
      law_whole := { f := f18, fd := _, c := c18, F := F18, b := b18, g := PySem.W.mg_of X G a18 }
      law_rows := { f := f19, fd := _, c := c19, F := F19, b := b19, g := PySem.W.mg_of X G a19 }
      law_tuples := { f := f20, fd := _, c := c20, F := F20, b := b20, g := PySem.W.mg_of X G a20 }
      law_value := { f := f21, fd := _, c := c21, F := F21, b := b21, g := PySem.W.mg_of X G a21 }
      law_carried := { f := f22, fd := _, c := c22, F := F22, b := b22, g := PySem.W.mg_of X G a22 }
      law_closed := { f := f23, fd := _, c := c23, F := F23, b := b23, g := PySem.W.mg_of X G a23 }
      law_kept := { f := f24, fd := _, c := c24, F := F24, b := b24, g := PySem.W.mg_of X G a24 }
      law_named := { f := f25, fd := _, c := c25, F := F25, b := b25, g := PySem.W.mg_of X G a25 }
      law_some_rows := { f := f26, fd := _, c := c26, F := F26, b := b26, g := PySem.W.mg_of X G a26 }
      law_relation := { f := f27, fd := _, c := c27, F := F27, b := b27, g := PySem.W.mg_of X G a27 }
      law_template := { f := f28, fd := _, c := c28, F := F28, b := b28, g := PySem.W.mg_of X G a28 }
      law_instance := { f := f29, fd := _, c := c29, F := F29, b := b29, g := PySem.W.mg_of X G a29 }
      law_taken_away := { f := f30, fd := _, c := c30, F := F30, b := b30, g := PySem.W.mg_of X G a30 }
      law := { f := f31, fd := _, c := c31, F := F31, b := b31, g := PySem.W.mg_of X G a31 }
      Narrowing := { C := K0C, g := PySem.W.mg_of X G K0A, cl := ⟨K0pg, K0hd, K0po, K0sa⟩, f_init := K0m0f, fd_init := _, F_init := fun_mk (st := s_Narrowing_init) K0m0l K0m0c K0m0k, b_init := (fun_mk (st := s_Narrowing_init) K0m0l K0m0c K0m0k).binds (ps := p_Narrowing_init) fun _ _ _ _ _ _ us hl => match us, hl with | [_, _, _], _ => rfl, make := ⟨K0mk, K0m0a, K0m0i, K0kc⟩, f_run := K0m1f, fd_run := _, F_run := fun_mk (st := s_Narrowing_run) K0m1l K0m1c K0m1k, b_run := (fun_mk (st := s_Narrowing_run) K0m1l K0m1c K0m1k).binds (ps := p_Narrowing_run) fun _ _ _ _ _ _ us hl => match us, hl with | [_], _ => rfl, h_run := ⟨K0m1a, K0m1i, K0m1k⟩, f_follow := K0m2f, fd_follow := _, F_follow := fun_mk (st := s_Narrowing_follow) K0m2l K0m2c K0m2k, b_follow := (fun_mk (st := s_Narrowing_follow) K0m2l K0m2c K0m2k).binds (ps := p_Narrowing_follow) fun _ _ _ _ _ _ us hl => match us, hl with | [_, _, _], _ => rfl, h_follow := ⟨K0m2a, K0m2i, K0m2k⟩, n_scopes := K0nscopes, n_rows := K0nrows, n_masks := K0nmasks, n_steps := K0nsteps, n_failed := K0nfailed }
      c_MOST_PLACES := ⟨_, PySem.W.mg_of X G qMOST_PLACES⟩
      c_MOST_RELATIONS := ⟨_, PySem.W.mg_of X G qMOST_RELATIONS⟩
      c_MOST_VARIABLES := ⟨_, PySem.W.mg_of X G qMOST_VARIABLES⟩
      c_MOST_CONSTRAINTS := ⟨_, PySem.W.mg_of X G qMOST_CONSTRAINTS⟩
      b_all := PySem.W.mg_none_of X G zall
      b_bool := PySem.W.mg_none_of X G zbool
      b_enumerate := PySem.W.mg_none_of X G zenumerate
      b_int := PySem.W.mg_none_of X G zint
      b_isinstance := PySem.W.mg_none_of X G zisinstance
      b_len := PySem.W.mg_none_of X G zlen
      b_list := PySem.W.mg_none_of X G zlist
      b_max := PySem.W.mg_none_of X G zmax
      b_min := PySem.W.mg_none_of X G zmin
      b_range := PySem.W.mg_none_of X G zrange
      b_sorted := PySem.W.mg_none_of X G zsorted
      b_str := PySem.W.mg_none_of X G zstr
      b_tuple := PySem.W.mg_none_of X G ztuple
      b_zip := PySem.W.mg_none_of X G zzip
    }
end K15

set_option Elab.async false
set_option linter.all false
open PySem PySem.W PyProof.Rows
set_option maxRecDepth 100000 in
set_option maxHeartbeats 0 in
theorem PySem.Challenge.cw_templates_k15_whole_arc_refusals_holds : PySem.Challenge.rw_templates_k15_whole_arc_refusals.Holds := by
  w_on; o_law; k_head; (case hw => w_witness2)
  k_fill
  refine K15.walk_ofAll (l := PySem.Challenge.rw_templates_k15_whole_arc_refusals) (n := 63) (k := 11) (x := "script") (CX := fun _ => L2.CX0) K15.tabNames rfl (by decide) rfl ⟨rfl, by decide, by decide⟩ (by decide +kernel) (fun w h Y => PySem.W.kIn_of Y) ?F (fun _ _ _ _ _ h => h)
  case F =>
    intro w mg fa h Y KX G hmg own
    refine' K15.law_at KX G hmg own ?a0 ?l0 ?d0 ?k0 ?a1 ?l1 ?d1 ?k1 ?a2 ?l2 ?d2 ?k2 ?a3 ?l3 ?d3 ?k3 ?a4 ?l4 ?d4 ?k4 ?a5 ?l5 ?d5 ?k5 ?a6 ?l6 ?d6 ?k6 ?a7 ?l7 ?d7 ?k7 ?a8 ?l8 ?d8 ?k8 ?a9 ?l9 ?d9 ?k9 ?a10 ?l10 ?d10 ?k10 ?a11 ?l11 ?d11 ?k11 ?a12 ?l12 ?d12 ?k12 ?a13 ?l13 ?d13 ?k13 ?a14 ?l14 ?d14 ?k14 ?a15 ?l15 ?d15 ?k15 ?a16 ?l16 ?d16 ?k16 ?a17 ?l17 ?d17 ?k17 ?a18 ?l18 ?d18 ?k18 ?a19 ?l19 ?d19 ?k19 ?a20 ?l20 ?d20 ?k20 ?a21 ?l21 ?d21 ?k21 ?a22 ?l22 ?d22 ?k22 ?a23 ?l23 ?d23 ?k23 ?a24 ?l24 ?d24 ?k24 ?a25 ?l25 ?d25 ?k25 ?a26 ?l26 ?d26 ?k26 ?a27 ?l27 ?d27 ?k27 ?a28 ?l28 ?d28 ?k28 ?a29 ?l29 ?d29 ?k29 ?a30 ?l30 ?d30 ?k30 ?a31 ?l31 ?d31 ?k31 ?m2 ?v2 ?h2 ?n2 ?m3 ?v3 ?h3 ?n3 ?m4 ?v4 ?h4 ?n4 ?K0A ?K0m0a ?K0m0i ?K0m0l ?K0m0c ?K0m0k ?K0m1a ?K0m1i ?K0m1l ?K0m1c ?K0m1k ?K0m2a ?K0m2i ?K0m2l ?K0m2c ?K0m2k ?K0pg ?K0hd ?K0po ?K0sa ?K0mk ?K0kc ?K0nscopes ?K0nrows ?K0nmasks ?K0nsteps ?K0nfailed ?qMOST_PLACES ?qMOST_RELATIONS ?qMOST_VARIABLES ?qMOST_CONSTRAINTS ?zall ?zbool ?zenumerate ?zint ?zisinstance ?zlen ?zlist ?zmax ?zmin ?zrange ?zsorted ?zstr ?ztuple ?zzip
    (case a0 => k_is); (case l0 => k_is); (case d0 => k_is); (case k0 => k_is); (case a1 => k_is); (case l1 => k_is); (case d1 => k_is); (case k1 => k_is); (case a2 => k_is); (case l2 => k_is); (case d2 => k_is); (case k2 => k_is); (case a3 => k_is); (case l3 => k_is); (case d3 => k_is); (case k3 => k_is); (case a4 => k_is); (case l4 => k_is); (case d4 => k_is); (case k4 => k_is); (case a5 => k_is); (case l5 => k_is); (case d5 => k_is); (case k5 => k_is); (case a6 => k_is); (case l6 => k_is); (case d6 => k_is); (case k6 => k_is); (case a7 => k_is); (case l7 => k_is); (case d7 => k_is); (case k7 => k_is); (case a8 => k_is); (case l8 => k_is); (case d8 => k_is); (case k8 => k_is); (case a9 => k_is); (case l9 => k_is); (case d9 => k_is); (case k9 => k_is); (case a10 => k_is); (case l10 => k_is); (case d10 => k_is); (case k10 => k_is); (case a11 => k_is); (case l11 => k_is); (case d11 => k_is); (case k11 => k_is); (case a12 => k_is); (case l12 => k_is); (case d12 => k_is); (case k12 => k_is); (case a13 => k_is); (case l13 => k_is); (case d13 => k_is); (case k13 => k_is); (case a14 => k_is); (case l14 => k_is); (case d14 => k_is); (case k14 => k_is); (case a15 => k_is); (case l15 => k_is); (case d15 => k_is); (case k15 => k_is); (case a16 => k_is); (case l16 => k_is); (case d16 => k_is); (case k16 => k_is); (case a17 => k_is); (case l17 => k_is); (case d17 => k_is); (case k17 => k_is); (case a18 => k_is); (case l18 => k_is); (case d18 => k_is); (case k18 => k_is); (case a19 => k_is); (case l19 => k_is); (case d19 => k_is); (case k19 => k_is); (case a20 => k_is); (case l20 => k_is); (case d20 => k_is); (case k20 => k_is); (case a21 => k_is); (case l21 => k_is); (case d21 => k_is); (case k21 => k_is); (case a22 => k_is); (case l22 => k_is); (case d22 => k_is); (case k22 => k_is); (case a23 => k_is); (case l23 => k_is); (case d23 => k_is); (case k23 => k_is); (case a24 => k_is); (case l24 => k_is); (case d24 => k_is); (case k24 => k_is); (case a25 => k_is); (case l25 => k_is); (case d25 => k_is); (case k25 => k_is); (case a26 => k_is); (case l26 => k_is); (case d26 => k_is); (case k26 => k_is); (case a27 => k_is); (case l27 => k_is); (case d27 => k_is); (case k27 => k_is); (case a28 => k_is); (case l28 => k_is); (case d28 => k_is); (case k28 => k_is); (case a29 => k_is); (case l29 => k_is); (case d29 => k_is); (case k29 => k_is); (case a30 => k_is); (case l30 => k_is); (case d30 => k_is); (case k30 => k_is); (case a31 => k_is); (case l31 => k_is); (case d31 => k_is); (case k31 => k_is); (case m2 => k_is); (case v2 => rfl); (case h2 => first | kernel_rfl | rfl); (case n2 => first | kernel_rfl | rfl); (case m3 => k_is); (case v3 => rfl); (case h3 => first | kernel_rfl | rfl); (case n3 => first | kernel_rfl | rfl); (case m4 => k_is); (case v4 => rfl); (case h4 => first | kernel_rfl | rfl); (case n4 => first | kernel_rfl | rfl); (case K0A => k_is); (case K0m0a => k_is); (case K0m0i => k_is); (case K0m0l => k_is); (case K0m0c => k_is); (case K0m0k => k_is); (case K0m1a => k_is); (case K0m1i => k_is); (case K0m1l => k_is); (case K0m1c => k_is); (case K0m1k => k_is); (case K0m2a => k_is); (case K0m2i => k_is); (case K0m2l => k_is); (case K0m2c => k_is); (case K0m2k => k_is); (case K0pg => k_is); (case K0hd => k_is); (case K0po => k_is); (case K0sa => k_is); (case K0mk => k_is); (case K0kc => k_is); (case K0nscopes => k_is); (case K0nrows => k_is); (case K0nmasks => k_is); (case K0nsteps => k_is); (case K0nfailed => k_is); (case qMOST_PLACES => k_is); (case qMOST_RELATIONS => k_is); (case qMOST_VARIABLES => k_is); (case qMOST_CONSTRAINTS => k_is); (case zall => k_is); (case zbool => k_is); (case zenumerate => k_is); (case zint => k_is); (case zisinstance => k_is); (case zlen => k_is); (case zlist => k_is); (case zmax => k_is); (case zmin => k_is); (case zrange => k_is); (case zsorted => k_is); (case zstr => k_is); (case ztuple => k_is); (case zzip => k_is)
