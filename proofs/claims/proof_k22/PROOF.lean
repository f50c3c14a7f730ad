import PyProof.Rows.All
import Wide.All
import OpenK.AllK
import Wide.FinOn
import HandS.GenList
import HandS.AnyAll
import HandS.Comp
import HandS.ForMost
import PyProof.ConsumeS
import HandS.ForExc
import HandS.IsInst
import HandS.ExcInit
import HandS.ExcValue
import KE.KExcInit
import KE.KExcIs
import KE.KIsAll
import HandS.TupAny
import HandS.TupMul
import HandS.CallLocal
import HandS.EndTab
import HandS.Wide
import HandS.Conv
import PyProof.StrBlock2
import HandS.Text
import HandS.DeepEq
import HandS.Words
import PySem.Challenge.RW_readagain_k22_errors
import KE.KExcLine
import KE.RegKIsAll
set_option Elab.async false
set_option linter.all false
set_option maxRecDepth 100000
set_option maxHeartbeats 2000000
namespace GA
open PySem PySem.Spec PyProof.Rows L2 GenW

/-- a generator expression's block running: A' its around, s, H where it was made, fp its iterator's objects -/
abbrev gx (X : Cx) (A' : Around) (s : Shared) (H : Hp) (scope : Scope) (cenv : Env) (fp : List Addr) (pn : List (Addr × Obj)) : Cx :=
  { X with A := A', s_0 := s, H_0 := H, env := cenv, outer := X.stack, stack := cenv :: X.stack, ex := fp, fn := fun x => scope.names.lookup x == some .cell, pn := pn, xe := fun _ _ => False }
section
variable {X : Cx} {pins : List (Addr × Obj)} {σ : L2.St} {H : Hp} {s : Shared}
theorem gx_start {scope : Scope} {own : List (Str × Nat)} {fp : List Addr} {code : Value} {A' : Around} {pn : List (Addr × Obj)} {s1 : Shared} {m0 : Str → Option Value} {cenv : Env}
    (hce : genEnv scope (cloFrom X.env.cells scope.names []) s.heap.objs.size code builtinsNs X.env = cenv)
    (I : Inv X pins σ H s) (ok : BlkOk X.N X.env.scope scope own) (hcell : ∀ y ∈ scope.names, y.2 ≠ .cell) (hN : X.N.Nodup) (hfp : ∀ b ∈ fp, FpOk X pins H b ∧ b < s.heap.objs.size)
    (hA : A'.frames = some (cenv :: X.stack)) (hh : A'.handled = none) (hos : s1.os = s.os) (hb : AllBare s1.gens) (hk : ∀ b o, s.heap.get? b = some o → s1.heap.get? b = some o) (hn : s1.heap.Ns s.heap.objs.size m0)
    (hpn : ∀ p ∈ pn, s1.heap.get? p.1 = some p.2 ∧ s.heap.objs.size < p.1 ∧ ∀ v, p.2.data ≠ .cell v) :
    Inv (gx X A' s H scope cenv fp pn) [] (wipe σ (own.map (·.2))) H s1 := by
  have hfree : ∀ y ∈ scope.names, y.2 = .free → ∃ c, X.env.cells.lookup y.1 = some c := fun y hy e => by
    rcases ok.free y hy e with k | k
    · exact I.ok.has _ (.inl k)
    · exact I.ok.has _ (.inr k)
  have hL : cenv.locals = s.heap.objs.size := by rw [← hce]; rfl
  have hcl : cenv.cells = cloFrom X.env.cells scope.names [] := by rw [← hce]; rfl
  have hsc : cenv.scope = scope := by rw [← hce]; rfl
  have mem : ∀ {y c}, cenv.cells.lookup y = some c → X.env.cells.lookup y = some c ∧ c < s.heap.objs.size := fun {y c} e => by
    rw [hcl] at e
    have hm := PySem.mem_of_lookup e
    rcases cloFrom_mem hm with hm | ⟨h1, rfl⟩
    · cases hm
    · obtain ⟨c, hc⟩ := hfree _ h1 rfl
      rw [hc]
      obtain ⟨w, z⟩ := I.cell _ _ hc
      exact ⟨rfl, z.lt⟩
  have look : ∀ {y}, scope.names.lookup y = some .free → ∃ c, cenv.cells.lookup y = some c ∧ X.env.cells.lookup y = some c := fun {y} hl => by
    have hy : (y, NameKind.free) ∈ scope.names := PySem.mem_of_lookup hl
    obtain ⟨c', e'⟩ := mem_lookup (cloFrom_has (cells := X.env.cells) (acc := []) hy)
    rw [← hcl] at e'
    exact ⟨c', e', (mem e').1⟩
  have nocell : ∀ {y}, scope.names.lookup y ≠ some .cell := fun {y} e => hcell _ (PySem.mem_of_lookup e) rfl
  have okB : (gx X A' s H scope cenv fp pn).Ok := by
    refine ⟨I.ok.mod, by show cenv.scope.kind = _; rw [hsc]; exact ok.kind, by show cenv.globals = _; rw [← hce]; exact I.ok.glob, by show cenv.builtins = _; rw [← hce]; rfl, by show s.heap.objs.size ≤ cenv.locals; rw [hL]; exact Nat.le_refl _,
      fun y z c e1 e2 => I.ok.inj y z c (mem e1).1 (mem e2).1, fun y hy => ?_, fun y c z e => ?_, fun _ => hh, hA, .inr ⟨rfl, by rw [← hce]; rfl⟩, fun b hb => ⟨?_, fun y c e z => ?_⟩, I.bs, Nat.le_trans I.ok.bsz I.sz, fun b o e hb => ?_, fun b hb z => ?_, I.stack, I.stkFree⟩
    · have hy : cenv.scope.names.lookup y = some .cell ∨ cenv.scope.names.lookup y = some .free := hy
      rw [hsc] at hy
      rcases hy with hy | hy
      · exact absurd hy nocell
      · obtain ⟨c, h1, _⟩ := look hy
        exact ⟨c, h1⟩
    · have z : (scope.names.lookup y == some NameKind.cell) = true := z
      have z : scope.names.lookup y = some .cell := by simpa using z
      exact absurd z nocell
    · show b ≠ cenv.locals
      rw [hL]; exact Nat.ne_of_lt (hfp b hb).2
    · exact (hfp b hb).1.2.2.2.2.1 y c (mem e).1 z
    · rcases (hfp b hb).1.2.2.2.1 with z | z
      · exact I.ok.noex b o e z
      · exact absurd (Nat.lt_of_lt_of_le (Heap.lt_size e) (Nat.le_trans I.ok.bsz z)) (Nat.lt_irrefl _)
    · rcases List.mem_cons.mp (I.stkSub b z) with z | z
      · exact (hfp b hb).1.2.1 z
      · exact (hfp b hb).1.2.2.1 z
  refine ⟨okB, hos, hb, Un.kept hk, ⟨m0, ?_, fun i y av e1 e2 e3 => ?_⟩, fun y c e => ?_, ?_, fun y c e => ?_, fun p hp => ?_, I.hok.kept hk, by rw [wipe_length]; exact I.len⟩
  · show Heap.Ns _ cenv.locals _
    rw [hL]
    exact hn
  · obtain ⟨e2, hne⟩ := wipe_some e2
    have e3 : Vis cenv.scope y := e3
    rw [hsc] at e3
    have no : ∀ k, scope.names.lookup y = some k → (k = .local ∨ k = .cell) → False := fun k hk hh => by
      rcases ok.own _ (PySem.mem_of_lookup hk) hh with e' | e'
      · obtain ⟨p, hp, hpy⟩ := List.mem_map.mp e'
        have e3 := ok.ix p hp
        have : p.1 = y := hpy
        rw [this] at e3
        exact hne (List.mem_map.mpr ⟨p, hp, nodup_ix hN e3 e1⟩)
      · exact e' (List.mem_of_getElem? e1)
    have hfr : scope.names.lookup y = some .free := by
      rcases e3 with e3 | e3 | e3
      · exact (no _ e3 (.inl rfl)).elim
      · exact (no _ e3 (.inr rfl)).elim
      · exact e3
    obtain ⟨m, hn', hl⟩ := I.loc
    have hvis : Vis X.env.scope y := (ok.free _ (PySem.mem_of_lookup hfr) rfl).elim (fun k => .inr (.inl k)) (fun k => .inr (.inr k))
    obtain ⟨w, r, q⟩ := hl i y av e1 e2 hvis
    refine ⟨w, r, .inr ⟨.inr (by show cenv.scope.names.lookup y = _; rw [hsc]; exact hfr), ?_⟩⟩
    obtain ⟨c, h1, h2⟩ := look hfr
    rcases q with ⟨k, _⟩ | ⟨_, c', e', z⟩
    · have k : X.env.scope.names.lookup y = some .local := k
      rcases ok.free _ (PySem.mem_of_lookup hfr) rfl with k' | k' <;> rw [show X.env.scope.names.lookup y = _ from k'] at k <;> cases k
    · rw [h2] at e'; cases e'
      exact ⟨c, h1, z.keeps hk⟩
  · obtain ⟨w, z⟩ := I.cell y c (mem e).1
    exact ⟨w, z.keeps hk⟩
  · show H cenv.locals = none
    rw [hL]; exact I.hok.fresh (Nat.le_refl _)
  · exact I.freeC y c (mem e).1
  · have hp : p ∈ pn := by simpa using hp
    obtain ⟨p1, p2, p3⟩ := hpn p hp
    refine ⟨p1, I.hok.fresh (Nat.le_of_lt p2), ?_, fun hb => (List.mem_cons.mp (I.stkSub _ hb)).elim (fun z => absurd (Nat.lt_trans p2 (by rw [z]; exact I.lt)) (Nat.lt_irrefl _)) (I.nofs (Nat.le_of_lt p2)), p3⟩
    show p.1 ≠ cenv.locals
    rw [hL]; exact Nat.ne_of_gt p2
end
end GA
set_option linter.all false
set_option maxRecDepth 100000
set_option maxHeartbeats 2000000
namespace GA
open PySem PySem.Spec PyProof.Rows L2 GenW

structure Dozed (s s' : Shared) : Prop where
  os : s'.os = s.os
  bare : AllBare s'.gens
  keep : ∀ b o, s.heap.get? b = some o → s'.heap.get? b = some o

theorem Inv.dozed {X : Cx} {pins : List (Addr × Obj)} {σ : L2.St} {H : Hp} {s s' : Shared} (I : Inv X pins σ H s) (d : Dozed s s') : Inv X pins σ H s' :=
  I.call' (ch := []) d.os (Un.kept d.keep) (I.hok.kept d.keep) d.bare fun b z => by simp at z

/-- what the walk of a generator expression for all asks -/
def AllW (J : It) (g : TG) (te : TE) (σw : L2.St) (vs : List Nat) (n₀ : Nat) (QT QF : Hp → Prop) (W : Nat → Hp → Prop) : Prop :=
  ∀ i H, W i H → (i = n₀ ∧ J.stop i H ∧ QT H) ∨ (i < n₀ ∧ J.go i H ∧ ∀ x H', J.yld i H x H' → g x σw H' fun σ2 H2 => wipe σ2 vs = σw ∧ te σ2 H2 fun y H3 => ∃ c, y = .bl c ∧ (c = false → QF H3) ∧ (c = true → W (i + 1) H3))

def YA (G : Cx) (QF : Hp → Prop) : Protocol := fun n s₀ v s1 kap =>
  ∃ (σ' : L2.St) (H' : Hp) (c : Bool) (pins : List (Addr × Obj)), v = .bool c ∧ Inv G pins σ' H' s1 ∧ (c = false → QF H') ∧ (c = true → ∀ s', Dozed s1 s' → kap (.send .none) s')
def FA (G : Cx) (QT : Hp → Prop) (n : Nat) (s₀ s1 : Shared) : Prop := ∃ (σ' : L2.St) (H' : Hp), Inv G [] σ' H' s1 ∧ QT H'
def RA (G : Cx) (QT : Hp → Prop) : GenEnd := fun n s₀ r s1 => ((r = .ok (.ret .none) ∨ r = .ok .next) ∧ FA G QT n s₀ s1) ∨ ∃ e, r = .error e ∧ (fun _ _ => False : Value → Shared → Prop) e s1

section
variable {X : Cx} {σ : L2.St} {s4 : Shared} {H4 : Hp} {scope : Scope} {cenv : Env} {fp : List Addr} {pn : List (Addr × Obj)} {A : Around} {elt tg iter : Expr} {pos : Pos} {it : Addr} {J : It} {tn : Nat → Heap → Prop} {g : TG} {te : TE} {vs : List Nat} {n₀ : Nat} {QT QF : Hp → Prop} {W : Nat → Hp → Prop}

theorem seg_loop (G : Cx) (hG : gx X (A.over (.compLoop (.GeneratorExp elt [⟨tg, iter, [], 0⟩] scope pos) 0 (.ref it) .none cenv) []) s4 H4 scope cenv fp pn = G)
    (hc : X.calm = true) (hco : cenv.scope.isCoroutine = false) (T : Turn X.prog X.w X.K tg J fp it tn) (pg : PG G tg g) (pe : PE G elt te)
    (hpn : ∀ p ∈ pn, ∀ b ∈ fp, p.1 ≠ b) (hw : (wipe σ vs).length = σ.length)
    (hW : AllW J g te (wipe σ vs) vs n₀ QT QF W) :
    ∀ (k i : Nat) (s₀ s : Shared) (H : Hp), n₀ - i = k → W i H → Inv G [] (wipe σ vs) H s → tn i s.heap → (∀ b ∈ fp, H b = none) →
      Seg (model X.prog X.w) A (RA G QT) (YA G QF) k s₀ (.compLoop (.GeneratorExp elt [⟨tg, iter, [], 0⟩] scope pos) 0 (.ref it) .none cenv)
        ((model X.prog X.w).den (.compLoop (.GeneratorExp elt [⟨tg, iter, [], 0⟩] scope pos) 0 (.ref it) .none cenv)) [] s := by
  have hAg : A.over (.compLoop (.GeneratorExp elt [⟨tg, iter, [], 0⟩] scope pos) 0 (.ref it) .none cenv) [] = G.A := by rw [← hG]
  have hGe : G.env = cenv := by rw [← hG]
  have hGp : G.prog = X.prog := by rw [← hG]
  have hGw : G.w = X.w := by rw [← hG]
  have hGK : G.K = X.K := by rw [← hG]
  have hGc : G.calm = true := by rw [← hG]; exact hc
  have hGx : G.xe = fun _ _ => False := by rw [← hG]
  have hGex : G.ex = fp := by rw [← hG]
  have hGpn : G.pn = pn := by rw [← hG]
  have stat : ∀ {σ' : L2.St} {H' : Hp} {s' : Shared}, Inv G [] σ' H' s' → (∀ b ∈ fp, H' b = none) → ∀ b ∈ fp, FpOk G [] H' b := fun {σ' H' s'} I' hn b hb => by
    have hb' : b ∈ G.ex := by rw [hGex]; exact hb
    refine ⟨hn b hb, (I'.ok.exf b hb').1, I'.ok.exfs b hb', .inl hb', fun x c e => (I'.ok.exf b hb').2 x c e, fun p hp => hpn p ?_ b hb⟩
    rw [hGpn] at hp
    simpa using hp
  intro k
  induction k with
  | zero =>
    intro i s₀ s H hk hw0 I st nf
    rcases hW i H hw0 with ⟨hi, hstop, hq⟩ | ⟨hi, _⟩
    · show Seg _ A _ _ _ s₀ _ ((compTurn (.GeneratorExp elt [⟨tg, iter, [], 0⟩] scope pos) 0 (.ref it) .none cenv).onRaise (leaving cenv)) [] s
      rw [compTurn_gen, Sem.onRaise_eq_wrap]
      refine seg_bind_wrap (wpAny_standAt ?_)
      have td := T.done G hGp hGw hGK hGc i [] s _ H (fun _ _ => False) I (stat I nf) st hstop
      refine seg_bind_wrap ?_
      rw [hAg]
      refine wpAny_mono td (fun r s6 ⟨hr, I6⟩ => ?_) fun _ _ z => z.elim
      subst hr
      exact seg_end (.ok .next) (.inl ⟨.inr rfl, _, H, I6, hq⟩)
    · omega
  | succ k ih =>
    intro i s₀ s H hk hw0 I st nf
    rcases hW i H hw0 with ⟨hi, hstop, hq⟩ | ⟨hi, hgo, step⟩
    · omega
    · show Seg _ A _ _ _ s₀ _ ((compTurn (.GeneratorExp elt [⟨tg, iter, [], 0⟩] scope pos) 0 (.ref it) .none cenv).onRaise (leaving cenv)) [] s
      rw [compTurn_gen, Sem.onRaise_eq_wrap]
      refine seg_bind_wrap (wpAny_standAt ?_)
      have ti := T.item G hGp hGw hGK hGc i [] s _ H (fun _ _ => False) I (stat I nf) st hgo
      refine seg_bind_wrap ?_
      rw [hAg]
      refine wpAny_mono ti (fun r s6 ⟨u, hr, h6⟩ => ?_) fun _ _ z => z.elim
      subst hr
      refine seg_bind_wrap ?_
      rw [hAg]
      refine wpAny_mono h6 (fun _ s7 ⟨x, H7, I7, r7, y7, st7, n7⟩ => ?_) fun _ _ z => z.elim
      have I7' := I7.pinned (stat I7 n7) (T.obj _ _ st7)
      refine seg_bind_wrap ?_
      rw [hAg]
      have pgr := pg.run _ s7 _ H7 x u _ I7' r7 (step x H7 y7)
      rw [hGe, hGp, hGw, hGx] at pgr
      refine wpAny_mono pgr (fun _ s8 ⟨σ8, H8, I8, hw8, q8⟩ => ?_) fun _ _ z => z.elim
      simp only [List.forIn_nil]
      refine seg_bind_wrap (wpAny_pure ?_)
      simp only [if_true]
      have hy : ∀ v, yieldOut cenv v = yieldValue v := fun v => by simp only [yieldOut, hco, Bool.false_eq_true, if_false]
      simp only [hy]
      rw [Sem.bind_eq_wrap', Sem.bind_eq_wrap', Sem.wrap_wrap, Sem.wrap_wrap]
      refine seg_wrap ?_
      rw [hAg]
      have per := pe.run _ s8 σ8 H8 _ I8 q8
      rw [hGe, hGp, hGw, hGx] at per
      refine wpAny_mono per (fun v s9 ⟨y, H9, I9, r9, c, hyc, q0, q1⟩ => ?_) fun _ _ z => z.elim
      subst hyc
      have ev : v = Value.bool c := r9
      subst ev
      refine seg_at (seg_yield rfl rfl rfl ⟨σ8, H9, c, _, rfl, I9, q0, fun hct s' dz => ?_⟩)
      have I10 := Inv.dozed I9 dz
      have pin' : ∀ b ∈ fp, ∀ o, s7.heap.get? b = some o → s'.heap.get? b = some o ∧ H9 b = none := fun b hb o e =>
        let z := I10.pin (b, o) (List.mem_append_right _ (List.mem_append_right _ (mem_pinsAt hb e)))
        ⟨z.1, z.2.1⟩
      have hl : (wipe σ vs).length = σ8.length := by rw [← hw8, wipe_length]
      refine seg_again rfl (ih (i + 1) s' s' H9 (by omega) (q1 hct) ((I10.unpinned (pins := [])).weak hl fun j v e => ?_) (T.keep _ _ _ st7 fun b hb o e => (pin' b hb o e).1) fun b hb => ?_)
      · rw [← hw8] at e
        exact (wipe_some e).1
      · obtain ⟨o, e, _⟩ := T.obj _ _ st7 b hb
        exact (pin' b hb o e).2
end
end GA
set_option linter.all false
set_option maxRecDepth 100000
set_option maxHeartbeats 2000000
namespace GA
open PySem PySem.Spec PyProof.Rows L2 GenW

theorem all_loop {P : Program} {w : World} {G : Cx} {QT QF : Hp → Prop} {A : Around} {R : Result → Shared → Prop} {a : Addr} {g : Nat}
    (hh : A.handled = none) (hd : A.depth < recursionLimit)
    (hT : ∀ s' s1 σ' H', Inv G [] σ' H' s1 → QT H' → Dozed s1 s' → R (.ok (.ret (.bool true))) s')
    (hF : ∀ s' s1 pins σ' H', Inv G pins σ' H' s1 → QF H' → Dozed s1 s' → R (.ok (.ret (.bool false))) s')
    (hG : ∀ s1 pins σ' H', Inv G pins σ' H' s1 → s1.heap.IsGen a g) :
    ∀ (m : Nat) (s : Shared), s.heap.IsGen a g → s.heap.NoLimit →
      (∃ gs, s.gens[g]? = some gs ∧ gs.Goes (model P w) A.in1.in1 (RA G QT) (YA G QF) m (.send .none) (s.setGen g .running)) →
      codeAny (model P w) A (.builtin "all.loop" ⟨[.ref a], []⟩) R s := by
  intro m
  induction m with
  | zero =>
    intro s hg hl ⟨gs, hgs, hgo⟩
    refine codeAny_builtin F.entry_all_loop ?_
    rw [Around.under_plainId F.plain_all_loop _]
    show wpAny _ A.in1 (pyNext (.ref a) >>= _) _ _ s
    refine wpAny_bind (next_genG (A := A.in1) (F := FA G QT) (Er := fun _ _ => False) hh hl hd hg hgs hgo (fun v s₁ gs' hbare hv => ?_) (fun s₁ hp h' hk => ?_) fun e s₁ he => he.elim)
    · obtain ⟨σ', H', c, pins, rfl, I, q0, q1⟩ := hv
      refine wpAny_bind (wpAny_holding (wpAny_truthy_bool ?_))
      refine wpAny_bind (wpAny_letGo ?_)
      cases c with
      | true => exact (q1 rfl s₁ ⟨rfl, I.bare, fun _ _ e => e⟩).elim
      | false =>
        simp only [Bool.false_eq_true, if_false]
        refine wpAny_bind (wpAny_rule (wpAny_pure ?_))
        exact hF _ _ _ _ _ I (q0 rfl) ⟨rfl, allBare_setGen I.bare hbare, fun _ _ e => e⟩
    · obtain ⟨σ', H', I, q⟩ := hp
      refine wpAny_bind (wpAny_rule (wpAny_pure ?_))
      exact hT _ _ _ _ I q ⟨rfl, allBare_setGen I.bare rfl, hk⟩
  | succ m ih =>
    intro s hg hl ⟨gs, hgs, hgo⟩
    have hgl : g < s.gens.size := (Array.getElem?_eq_some_iff.mp hgs).1
    refine codeAny_builtin F.entry_all_loop ?_
    rw [Around.under_plainId F.plain_all_loop _]
    show wpAny _ A.in1 (pyNext (.ref a) >>= _) _ _ s
    refine wpAny_bind (wpAny_gsz (n := g + 1) hgl (next_genG (A := A.in1) (F := FA G QT) (Er := fun _ _ => False) hh hl hd hg hgs hgo (fun v s₁ gs' hbare hv => ?_) (fun s₁ hp h' hk => ?_) fun e s₁ he => he.elim))
    · intro hsz
      obtain ⟨σ', H', c, pins, rfl, I, q0, q1⟩ := hv
      refine wpAny_bind (wpAny_holding (wpAny_truthy_bool ?_))
      refine wpAny_bind (wpAny_letGo ?_)
      cases c with
      | true =>
        simp only [if_true]
        have hsz1 : g < s₁.gens.size := by
          have q : (s₁.setGen g gs').gens.size = s₁.gens.size := setGen_size _ _ _
          have hsz' : g + 1 ≤ (s₁.setGen g gs').gens.size := hsz
          omega
        refine wpAny_pure ⟨plainId_quiet F.plain_all_loop _, ih (s₁.setGen g gs') (hG s₁ pins σ' H' I) I.nolimit ⟨gs', setGen_at hsz1, ?_⟩⟩
        exact q1 rfl _ ⟨rfl, allBare_setGen (s := s₁.setGen g gs') (allBare_setGen I.bare hbare) rfl, fun _ _ e => e⟩
      | false =>
        simp only [Bool.false_eq_true, if_false]
        refine wpAny_bind (wpAny_rule (wpAny_pure ?_))
        exact hF _ _ _ _ _ I (q0 rfl) ⟨rfl, allBare_setGen I.bare hbare, fun _ _ e => e⟩
    · intro hsz
      obtain ⟨σ', H', I, q⟩ := hp
      refine wpAny_bind (wpAny_rule (wpAny_pure ?_))
      exact hT _ _ _ _ I q ⟨rfl, allBare_setGen I.bare rfl, hk⟩
end GA
set_option linter.all false
set_option maxRecDepth 100000
set_option maxHeartbeats 4000000
namespace GA
open PySem PySem.Spec PyProof.Rows L2 GenW GxR

/-- the generator expression's own scope -/
structure GenO (X : Cx) (scope : Scope) (own : List (Str × Nat)) : Prop where
  blk : BlkOk X.N X.env.scope scope own
  co : scope.isCoroutine = false
  cell : ∀ y ∈ scope.names, y.2 ≠ .cell
  dot : scope.names.lookup (".0" : Str) = some NameKind.local

abbrev ag (A : Around) (elt tg iter : Expr) (scope : Scope) (pos : Pos) (it : Addr) (cenv : Env) : Around :=
  A.in1.in1.over (.compLoop (.GeneratorExp elt [⟨tg, iter, [], 0⟩] scope pos) 0 (.ref it) .none cenv) []
theorem room_ag {A : Around} {elt tg iter : Expr} {scope : Scope} {pos : Pos} {it : Addr} {cenv : Env} {k : Nat} (r : Room (k + 1) A) : Room k (ag A elt tg iter scope pos it cenv) := by
  refine ⟨r.hd, ?_, ?_⟩
  · have := r.dp
    have e : (ag A elt tg iter scope pos it cenv).depth ≤ A.depth + 1 := Nat.le_of_eq rfl
    omega
  · have := r.un
    have e : (ag A elt tg iter scope pos it cenv).units ≤ A.units + 5 := Nat.le_of_eq rfl
    omega
theorem frames_ag {A : Around} {elt tg iter : Expr} {scope : Scope} {pos : Pos} {it : Addr} {cenv : Env} {l : List Env} (h : A.frames = some l) : (ag A elt tg iter scope pos it cenv).frames = some (cenv :: l) := by
  have e : (ag A elt tg iter scope pos it cenv).frames = pushEnvs [cenv] (pushEnvs [] A.frames) := by first | rfl | simp [ag, Around.over, Code.envs, Code.isFrame, Code.env?, envsOf]
  rw [e, h]
  rfl

def tAllG (P : Addr) (wi : TI) (g : TG) (te : TE) (vs : List Nat) : TE := fun σ H Q => wi σ H fun J H1 => TabG H1 P ∧ ∀ H2, Tabbed P H1 H2 → ∃ (n₀ : Nat) (W : Nat → Hp → Prop), W 0 H2 ∧
  AllW J g te (wipe σ vs) vs n₀ (fun H' => Q (.bl true) H') (fun H' => Q (.bl false) H') W

section
variable {X : Cx} {P c : Addr} {elt tg iter : Expr} {p pos gpos : Pos} {scope : Scope} {own : List (Str × Nat)} {k : Nat} {wi : TI} {g : TG} {te : TE}
theorem pe_allG (hc : X.calm = true) (hN : X.N.Nodup) (hr : Room (k + 1) X.A) (hg : Gl X "all") (hm : X.mg "all" = none) (hb : bootBuiltins "all" = some (.builtin "all")) (TB : TabB X.base X.mg c P) (hcode : X.env.code = .ref c)
    (S : GenO X scope own) (hi : PI X tg iter wi)
    (hpg : ∀ (A' : Around) (s : Shared) (H : Hp) (C : Addr) (cl : List (Str × Addr)) (code : Value) (fp : List Addr) (pn : List (Addr × Obj)), PG (gx X A' s H scope (genEnv scope cl C code builtinsNs X.env) fp pn) tg g)
    (hpe : ∀ (A' : Around) (s : Shared) (H : Hp) (C : Addr) (cl : List (Str × Addr)) (code : Value) (fp : List Addr) (pn : List (Addr × Obj)), Room k A' → PE (gx X A' s H scope (genEnv scope cl C code builtinsNs X.env) fp pn) elt te)
    (hs : ∀ v, genFold iter X.env v = pure v)
    (he : starEach [.GeneratorExp elt [⟨tg, iter, [], 0⟩] scope gpos] X.env = (false, eval (.GeneratorExp elt [⟨tg, iter, [], 0⟩] scope gpos) X.env) :: starEach [] X.env := by rfl) :
    PE X (.Call (.Name "all" p) [.GeneratorExp elt [⟨tg, iter, [], 0⟩] scope gpos] [] pos) (tAllG P wi g te (own.map (·.2))) := by
  refine ⟨fun pins s σ H Q I h => ?_⟩
  have hfree : ∀ y ∈ scope.names, y.2 = .free → ∃ c, X.env.cells.lookup y.1 = some c := fun y hy e => by
    rcases S.blk.free y hy e with k | k
    · exact I.ok.has _ (.inl k)
    · exact I.ok.has _ (.inr k)
  refine wpAny_Call_Name_kw (ld_blt I hg hm hb ?_)
  refine PyProof.Rows.callWith_builtin1 ?_ he (by rfl)
  rw [he]
  show wpAny _ _ (spliced ((false, eval (.GeneratorExp elt [⟨tg, iter, [], 0⟩] scope gpos) X.env) :: backTo pos (starEach [] X.env))) _ _ s
  refine Calls.spliced_cons ?_
  refine wpAny_GeneratorExp_make S.co (closure_ok hfree) S.cell S.dot S.blk.kind (by have := hr.dp; omega) ?_ hs
  refine thn (hi.run pins s σ H _ I h) fun xv s1 hx => thn hx fun itv s2 h2 => ?_
  obtain ⟨it, fp, tn, J, H2, e, I2, T, st2, f2, q⟩ := h2
  subst e
  obtain ⟨⟨ps, hP, ht⟩, q⟩ := q
  refine ⟨I2.nolimit, ?_⟩
  have hPs : s2.heap.get? P = some { cls := .none, data := .fields ps } := I2.hok P _ hP
  have hPlt : P < s2.heap.objs.size := Heap.lt_size hPs
  have cd : PySem.W.CodeHd s2.heap c P := TB.code.keeps fun b u e => I2.bk b u e
  have sz : ∀ b ∈ fp, b < s2.heap.objs.size := fun b hb => by
    obtain ⟨o, e, _⟩ := T.obj _ _ st2 b hb
    exact Heap.lt_size e
  have nP : ∀ b ∈ fp, b ≠ P := fun b hb z => by
    have e := (f2 b hb).1
    rw [z, hP] at e
    cases e
  have cont : ∀ (code : Value) (h3 : Heap) (tk : Nat) (ps' : Array Value), Heap.ExtBut P s2.heap h3 → s2.heap.objs.size ≤ h3.objs.size → h3.get? P = some { cls := .none, data := .fields ps' } → (∃ more, ps' = ps ++ more) → TriplesOk ps'.toList →
      wpAny (model X.prog X.w) X.A (builtinsFor X.env.globals X.env.builtins) (fun bi s₄ =>
        ∀ h', h'.Ns s₄.heap.objs.size (fun y => if y = ".0" then some (.ref it) else none) → Heap.SameBut s₄.heap.objs.size (s₄.heap.push { cls := .type "frame", data := .dict #[] }) h' →
          wpAny (model X.prog X.w) X.A (spliced (backTo pos (starEach [] X.env))) (fun us s₅ => wpAny (model X.prog X.w) X.A (call (.builtin "all") ([] ++ (.ref h'.objs.size :: us))) (EP X pins σ Q) X.xe s₅) X.xe
            { s₄ with
            gens := s₄.gens.push (.fresh (.compStart (.GeneratorExp elt [⟨tg, iter, [], 0⟩] scope gpos) 0 (.ref it) .none (genEnv scope (cloFrom X.env.cells scope.names []) s₄.heap.objs.size code bi X.env))),
            toks := s₄.toks + 1 + 1 + 1,
            heap := h'.push { cls := .type "generator", data := .fields #[.int s₄.gens.size 0, .str "<genexpr>" (s₄.toks + 1), .str (X.env.qual ++ "<genexpr>") (s₄.toks + 1 + 1)] } }) X.xe { s2 with heap := h3, toks := tk } := by
    intro code h3 tk ps' hx hsz hP3 hmore ht3
    obtain ⟨bm, ob, e1, e2, e3, e4, e5, e6, e7, e8⟩ := TB.bm
    have keep3 : ∀ b u, b ≠ P → s2.heap.get? b = some u → h3.get? b = some u := fun b u hb e => hx b u hb e
    refine wpAny_builtinsFor (m := X.mg) (by rw [I2.ok.glob]; exact (I2.mod.glob.keeps I2.bk).extBut hx TB.gP) e1 e2 (keep3 _ _ e4 (I2.bk _ _ e5)) e6 e7 e8 ?_
    intro h' hn' hs'
    obtain ⟨more, em⟩ := hmore
    -- the table has grown
    have I3 : Inv X pins σ (upd H2 P (.tbl (ps ++ more))) { s2 with heap := h3, toks := tk } := by
      have J := inv_tab (more := more) (h' := h3) (g' := s2.gens) (d' := s2.drawn) (t' := tk) I2 hP keep3 (by rw [← em]; exact hP3) I2.bare
      exact J
    have tb : Tabbed P H2 (upd H2 P (.tbl (ps ++ more))) := ⟨⟨ps ++ more, upd_same, by rw [← em]; exact ht3⟩, fun b hb => upd_ne hb⟩
    obtain ⟨n₀, W, w0, hW⟩ := q _ tb
    generalize hH3 : upd H2 P (.tbl (ps ++ more)) = H3 at I3 tb w0 hW
    have f3 : ∀ b ∈ fp, FpOk X pins H3 b ∧ b < h3.objs.size := fun b hb => by
      refine ⟨⟨?_, (f2 b hb).2⟩, Nat.lt_of_lt_of_le (sz b hb) hsz⟩
      rw [← hH3, upd_ne (nP b hb)]
      exact (f2 b hb).1
    have st3 : tn 0 h3 := T.keep _ _ _ st2 fun b hb o e => keep3 b o (nP b hb) e
    show wpAny (model X.prog X.w) X.A (spliced (backTo pos (starEach [] X.env))) _ _ _
    refine Calls.spliced_nil ?_
    have hsz' : h'.objs.size = h3.objs.size + 1 := by
      have := hs'.1
      rw [this]
      exact Heap.size_push ..
    have keep' : ∀ b o, h3.get? b = some o → h'.get? b = some o := fun b o e => hs'.extBut b o (Nat.ne_of_lt (Heap.lt_size e)) (Heap.get?_push_of_some _ e)
    generalize hgo : ({ cls := .type "generator", data := .fields #[.int s2.gens.size 0, .str "<genexpr>" (tk + 1), .str (X.env.qual ++ "<genexpr>") (tk + 1 + 1)] } : Obj) = go
    have keep5 : ∀ b o, h3.get? b = some o → (h'.push go).get? b = some o := fun b o e => Heap.get?_push_of_some _ (keep' b o e)
    have hgen : ∀ h : Heap, h.get? h'.objs.size = some go → h.IsGen h'.objs.size s2.gens.size := fun h e => ⟨go, _, _, e, by rw [← hgo], by rw [← hgo], by rw [← hgo]⟩
    have hpush : (h'.push go).get? h'.objs.size = some go := Heap.get?_push_size _ (by rw [← hgo]; rfl)
    have hgd : ∀ v, go.data ≠ .cell v := fun v z => by rw [← hgo] at z; cases z
    generalize hce : genEnv scope (cloFrom X.env.cells scope.names []) h3.objs.size code builtinsNs X.env = cenv
    generalize hs5 : ({ s2 with gens := s2.gens.push (.fresh (.compStart (.GeneratorExp elt [⟨tg, iter, [], 0⟩] scope gpos) 0 (.ref it) .none cenv)), toks := tk + 1 + 1 + 1, heap := h'.push go } : Shared) = s5
    have h5h : s5.heap = h'.push go := by rw [← hs5]
    have h5g : s5.gens = s2.gens.push (.fresh (.compStart (.GeneratorExp elt [⟨tg, iter, [], 0⟩] scope gpos) 0 (.ref it) .none cenv)) := by rw [← hs5]
    have h5o : s5.os = s2.os := by rw [← hs5]
    have g5 : s5.heap.IsGen h'.objs.size s2.gens.size := hgen _ (by rw [h5h]; exact hpush)
    have b5 : AllBare s5.gens := by rw [h5g]; exact I2.bare.push rfl
    refine call_function_tree F.kind_all F.plain_all F.entry_all (F.args_all1 _) ?_
    unfold Builtin.«all»
    refine wpAny_bind (m := oneArg "all" _) (wpAny_pure ?_)
    refine wpAny_bind (wpAny_pyIter_gen g5 ?_)
    refine wpAny_pure ⟨plainId_quiet F.plain_all_loop _, ?_⟩
    generalize hG : gx X (ag X.A elt tg iter scope gpos it cenv) { s2 with heap := h3, toks := tk } H3 scope cenv fp [(h'.objs.size, go)] = G
    have back : ∀ {pins' : List (Addr × Obj)} {σ' : L2.St} {H' : Hp} {s1 s' : Shared}, Inv G pins' σ' H' s1 → Dozed s1 s' → Inv X pins σ H' s' := fun {pins' σ' H' s1 s'} I' d => by
      rw [← hG] at I'
      have I7 : Inv X pins σ H' s1 := I3.call' (ch := fp) I'.os I'.base I'.hok I'.bare fun b hb => ⟨(f3 b hb).1.2.2.2.1, (f3 b hb).1.2.1, (f3 b hb).1.2.2.2.2.1, (f3 b hb).1.2.2.2.2.2⟩
      exact Inv.dozed I7 d
    refine all_loop (G := G) (QT := fun H' => Q (.bl true) H') (QF := fun H' => Q (.bl false) H') hr.hd (by have := hr.dp; omega)
      (fun s' s1 σ' H' I' hq d => ⟨.bl true, H', back I' d, rfl, hq⟩) (fun s' s1 pins' σ' H' I' hq d => ⟨.bl false, H', back I' d, rfl, hq⟩)
      (fun s1 pins' σ' H' I' => hgen _ (by rw [← hG] at I'; exact (I'.pin (h'.objs.size, go) (List.mem_append_left _ (List.mem_singleton.mpr rfl))).1))
      n₀ s5 g5 ?_ ⟨.fresh (.compStart (.GeneratorExp elt [⟨tg, iter, [], 0⟩] scope gpos) 0 (.ref it) .none cenv), by rw [h5g]; exact Array.getElem?_push_size .., rfl, ?_⟩
    · rw [h5h]
      exact I3.nolimit.keeps keep5
    -- the start
    have gset : AllBare (s5.setGen s2.gens.size .running).gens := allBare_setGen b5 rfl
    have IG : Inv G [] (wipe σ (own.map (·.2))) H3 (s5.setGen s2.gens.size .running) := by
      rw [← hG]
      refine gx_start (s := { s2 with heap := h3, toks := tk }) (m0 := fun y => if y = ".0" then some (.ref it) else none) hce I3 S.blk S.cell hN f3 (frames_ag I.ok.frames) hr.hd h5o gset (fun b o e => ?_) ?_ fun p hp => ?_
      · show (s5.setGen s2.gens.size .running).heap.get? b = some o
        have e' : h3.get? b = some o := e
        show s5.heap.get? b = some o
        rw [h5h]; exact keep5 b o e'
      · show s5.heap.Ns h3.objs.size _
        rw [h5h]; exact hn'.push _
      · rw [List.mem_singleton.mp hp]
        refine ⟨?_, ?_, hgd⟩
        · show s5.heap.get? _ = _
          rw [h5h]; exact hpush
        · show h3.objs.size < h'.objs.size
          omega
    have stG : tn 0 (s5.setGen s2.gens.size .running).heap := T.keep _ _ _ st3 fun b hb o e => by
      show s5.heap.get? b = some o
      rw [h5h]; exact keep5 b o e
    have hcoE : cenv.scope.isCoroutine = false := by rw [← hce]; exact S.co
    have hpnf : ∀ p ∈ [(h'.objs.size, go)], ∀ b ∈ fp, p.1 ≠ b := fun p hp b hb z => by
      rw [List.mem_singleton.mp hp] at z
      have h1 : b < h3.objs.size := (f3 b hb).2
      have z' : h'.objs.size = b := z
      rw [← z', hsz'] at h1
      exact Nat.lt_irrefl _ (Nat.lt_of_succ_lt h1)
    have loop := seg_loop (X := X) (A := X.A.in1.in1) (σ := σ) (vs := own.map (·.2)) (n₀ := n₀) (QT := fun H' => Q (.bl true) H') (QF := fun H' => Q (.bl false) H') (pn := [(h'.objs.size, go)]) (te := te) (g := g) (elt := elt) (tg := tg) (iter := iter) (pos := gpos) (scope := scope)
      G hG hc hcoE T (by rw [← hG, ← hce]; exact hpg _ _ _ _ _ _ _ _) (by rw [← hG, ← hce]; exact hpe _ _ _ _ _ _ _ _ (room_ag hr)) hpnf (wipe_length _ _) hW n₀ 0 (s5.setGen s2.gens.size .running) (s5.setGen s2.gens.size .running) H3 (Nat.sub_zero _) w0 IG stG fun b hb => (f3 b hb).1.1
    have hhA : (X.A.in1.in1.over (.compStart (.GeneratorExp elt [⟨tg, iter, [], 0⟩] scope gpos) 0 (.ref it) .none cenv) []).handled = none := hr.hd
    show Seg _ X.A.in1.in1 _ _ _ _ _ ((compStart (.GeneratorExp elt [⟨tg, iter, [], 0⟩] scope gpos) 0 (.ref it) .none cenv).onRaise (leaving cenv)) [] _
    unfold compStart
    rw [Sem.onRaise_eq_wrap]
    show Seg _ X.A.in1.in1 _ _ _ _ _ ((ask >>= _).wrap _ _ _ _) [] _
    refine seg_bind_wrap (wpAny_askSetting ?_)
    split
    · exact seg_again rfl loop
    · first
        | exact seg_bind_wrap (wpAny_rule (seg_bind_wrap (wpAny_standAt (seg_bind_wrap (T.self _ 0 _ _ _ stG (seg_again rfl loop))))))
        | (refine seg_bind_wrap (wpAny_rule ?_); show Seg _ X.A.in1.in1 _ _ _ _ _ ((standAt iter.pos >>= _).wrap _ _ _ _) [] _; exact seg_bind_wrap (wpAny_standAt (seg_bind_wrap (T.self _ 0 _ _ _ stG (seg_again rfl loop)))))
  cases hf : codeAmong gpos ps.toList with
  | none =>
    refine wpAny_genexprCodeX hcode (cd.code hPs ht) (cd.tab hPs) hf fun c' h' tk hx hge hlt hco' _ htab' _ => ?_
    obtain ⟨o1, vs, f1, tf, fl, tg', inF, tx, tt, op, _, _, _, _, _, _, _, _, _, htr, _⟩ := hco'
    exact cont _ h' tk _ hx (Nat.le_trans hge (Nat.le_of_lt hlt)) htab'.2 ⟨_, rfl⟩ htr
  | some cv =>
    refine wpAny_genexprCode_hit hcode (cd.code hPs ht) hf ?_
    exact cont cv s2.heap s2.toks ps (Heap.ExtBut.refl _ _) (Nat.le_refl _) hPs ⟨#[], by simp⟩ ht
end
end GA
set_option linter.all false
set_option maxRecDepth 100000
set_option maxHeartbeats 2000000
/-! Exceptions of the program over Exception, with an own __init__ that stores its arguments: made, kept as values, read. -/
namespace EXO
open PySem PySem.W PySem.Calls PyProof.Rows
open Builtin Builtin.ObjectAttr

abbrev chain : List Value := [.type "Exception", .type "BaseException", .type "object"]
/-- what the written part says of such a class -/
structure ExC (K : Frag) (C : Addr) : Prop where
  ini : excInitIn K C chain "Exception.__new__" = true
  ovr : excOver K C chain = true
  sa : findIn K (.ref C) "__setattr__" = some (some (.builtin "object.__setattr__"))
  ga : findIn K (.ref C) "__getattribute__" = some (some (.builtin "BaseException.__getattribute__"))
  gg : findIn K (.ref C) "__getattr__" = some none
  exC : subIn K (.ref C) (.type "BaseException") = some true
  hd : hasDictIn K C = true
  kC : keepIn K (.ref C) = true
  cl : (clsIn K C).isSome = true
  ha : findIn K (.ref C) "__class__" = some (some (.builtin "object.__class__"))
  hn : specialIn K (.builtin "object.__class__") "__get__" = some (some (.builtin "getset_descriptor.__get__"))
  tk : takesIn K (.builtin "object.__class__") = some true
  mo : mroIn K C (.type "object") = some true

section
variable {prog : Program} {w : World} {A : Around} {R : Result → Shared → Prop} {hp : Heap} {g : Array GenState} {d : Drawn} {t : Nat} {os : OsState} {K : Frag} {C x : Addr} {name : Str} {tk : Tok} {v : Value} {fv : Array Value}
/-- self.name = v, the first one -/
theorem first_store (X : K.In hp) (T : ExC K C) (hno : takerIn K C name = some none) (hx : hp.get? x = some ({ cls := .ref C, data := .fields fv } : Obj))
    (hq : ∀ h' tk' dx, (∀ b o, b ≠ x → hp.get? b = some o → h'.get? b = some o) → hp.objs.size ≤ dx → dx ≠ x →
      h'.get? x = some ({ cls := .ref C, dict := some dx, data := .fields fv } : Obj) → h'.Ns1 dx (fun y => if y = name then some v else none) → R (.ok (.ret .none)) ⟨h', g, d, tk', os⟩) :
    codeAny (model prog w) A (.call (.builtin "object.__setattr__") ⟨[.ref x, .str name tk, v], []⟩) R ⟨hp, g, d, t, os⟩ := by
  have hxs : x ≠ hp.objs.size := Nat.ne_of_lt (Heap.lt_size hx)
  obtain ⟨cd, hc, hh⟩ := any_some T.hd
  have hcls : Looks (model prog w) hp (classData C) cd := looks_clsIn X hc
  refine osa_openX (od := none) F.store_Exception X ⟨hx, rfl, rfl, trivial⟩ T.ovr hno fun b => ?_
  dsimp only
  obtain ⟨nm, bs, mro, ns, qn, hd, sn, sb, ab, col, del⟩ := cd
  dsimp only at hh
  subst hh
  unfold storeInOwnDict ownDictForStores
  repeat (first | with_reducible refine HandSPX.store_in_new ?_ ?_ | with_reducible refine wpAny_loadPart_at hx ?_ | with_reducible refine hcls.at ?_ | wp_step)
  · exact ⟨_, #[], _, (Heap.get?_update_ne _ _ _ _ hxs.symm).trans (Heap.get?_push_at rfl rfl), rfl, fun e he => absurd he (by simp), fun _ => rfl⟩
  · intro h' tk' hn' hs
    have hx1 := Heap.get?_push_of_some ({ cls := .type "dict", data := .dict #[] } : Obj) hx
    exact hq h' tk' hp.objs.size
      (fun b o hb ho => (hs.2 b (Nat.ne_of_lt (Heap.lt_size ho))).trans ((Heap.get?_update_ne _ _ _ _ hb).trans (Heap.get?_push_of_some _ ho)))
      (Nat.le_refl _) hxs.symm ((hs.2 x hxs).trans (Heap.get?_update_self _ hx1 rfl)) hn'

/-- a further one -/
theorem more_store {dx : Addr} {m0 : Str → Option Value} {nl : List Str} (X : K.In hp) (T : ExC K C) (hno : takerIn K C name = some none) (hx : hp.get? x = some ({ cls := .ref C, dict := some dx, data := .fields fv } : Obj))
    (hns : hp.Ns1 dx m0) (hw : Within m0 nl) (hz : nl.length ≤ 1000)
    (hq : ∀ h' tk', (∀ b o, b ≠ dx → hp.get? b = some o → h'.get? b = some o) → h'.Ns1 dx (fun y => if y = name then some v else m0 y) → R (.ok (.ret .none)) ⟨h', g, d, tk', os⟩) :
    codeAny (model prog w) A (.call (.builtin "object.__setattr__") ⟨[.ref x, .str name tk, v], []⟩) R ⟨hp, g, d, t, os⟩ := by
  obtain ⟨oD, esD, epD, hoD, hdD, _⟩ := hns.count hw
  obtain ⟨cd, hc, hh⟩ := any_some T.hd
  have hcls : Looks (model prog w) hp (classData C) cd := looks_clsIn X hc
  refine osa_openX (od := some oD) F.store_Exception X ⟨hx, rfl, rfl, hoD⟩ T.ovr hno fun b => ?_
  dsimp only
  obtain ⟨nm, bs, mro, ns, qn, hd, sn, sb, ab, col, del⟩ := cd
  dsimp only at hh
  subst hh
  unfold storeInOwnDict ownDictForStores
  repeat (first | with_reducible refine OEX.store_in_old hns hw hz ?_ | with_reducible refine wpAny_loadPart_at hx ?_ | with_reducible refine hcls.at ?_ | wp_step)
  intro h' tk' hn' hs
  exact hq h' tk' (fun b o hb ho => (hs.2 b hb).trans ho) hn'
end

/-- fields: names with the places of the arguments -/
def fl {α : Type} (ns : List (Str × Nat)) (us : List α) : List (Str × α) := ns.filterMap fun p => (us[p.2]?).map fun u => (p.1, u)
def mOf : List (Str × Value) → Str → Option Value
  | [] => fun _ => none
  | p :: r => fun y => if y = p.1 then some p.2 else mOf r y
/-- what __init__ leaves of a fresh exception at x -/
structure IniEnd (h h' : Heap) (x C dx t1 : Addr) (fs : List (Str × Value)) : Prop where
  keep : ∀ b o, b ≠ x → h.get? b = some o → h'.get? b = some o
  obj : h'.get? x = some ({ cls := .ref C, dict := some dx, data := .fields #[.ref t1, .none, .none, .none, .bool false, .none] } : Obj)
  dbig : h.objs.size ≤ dx
  dne : dx ≠ x
  ns : h'.Ns1 dx (mOf fs)
/-- __init__ of C stores its k arguments under the names ns -/
def Ini (prog : Program) (w : World) (K : Frag) (C fI : Addr) (k : Nat) (ns : List (Str × Nat)) : Prop :=
  ∀ (A : Around) (R : Result → Shared → Prop) (s : Shared) (x t0 : Addr) (us : List Value), us.length = k → K.In s.heap → s.heap.NoLimit → s.heap.get? x = some (HandSPX.excO C t0) → K.lookup x = none → A.depth < recursionLimit →
    (∀ h' tk dx, IniEnd s.heap h' x C dx t0 (fl ns us) → R (.ok (.ret .none)) { s with heap := h', toks := tk }) → codeAny (model prog w) A (.call (.ref fI) ⟨.ref x :: us, []⟩) R s
/-- a made exception -/
structure Made (h h' : Heap) (e C d : Addr) (fs : List (Str × Value)) : Prop where
  keep : ∀ b o, h.get? b = some o → h'.get? b = some o
  new : h.objs.size ≤ e
  obj : ∃ t1 : Addr, h'.get? e = some ({ cls := .ref C, dict := some d, data := .fields #[.ref t1, .none, .none, .none, .bool false, .none] } : Obj)
  dbig : h.objs.size ≤ d
  dne : d ≠ e
  ns : h'.Ns1 d (mOf fs)
section
variable {prog : Program} {w : World} {A : Around} {E : Value → Shared → Prop} {R : Result → Shared → Prop} {s : Shared} {K : Frag} {C fI : Addr} {ns : List (Str × Nat)} {k : Nat}
theorem made (T : ExC K C) (iC : findIn K (.ref C) "__init__" = some (some (.ref fI))) (tC : typeIn K (.ref fI) = some (.type "function")) (J : Ini prog w K C fI k ns) {us : List Value} (hk : us.length = k) (hz : us.length ≤ sizeLine)
    (X : K.In s.heap) (hlim : s.heap.NoLimit) (hroom : A.depth + 1 < recursionLimit)
    (hq : ∀ h' tk e d, Made s.heap h' e C d (fl ns us) → R (.ok (.ret (.ref e))) { s with heap := h', toks := tk }) :
    codeAny (model prog w) A (.call (.ref C) ⟨us, []⟩) R s := by
  obtain ⟨hp, g, dr, tk, os⟩ := s
  obtain ⟨nm, N', qn, bs, bm, hdct, sn, sub, ab, col, dd, k0, k1, k2, k3, k5, hC, hT⟩ := excInit_of (h := hp) X T.ini
  have kk : ∀ b o, hp.get? b = some o → ((hp.push (kdv_tup us)).push (HandSPX.excO C hp.objs.size)).get? b = some o := fun b o e => Heap.get?_push_of_some _ (Heap.get?_push_of_some _ e)
  have hget : ((hp.push (kdv_tup us)).push (HandSPX.excO C hp.objs.size)).get? (hp.objs.size + 1) = some (HandSPX.excO C hp.objs.size) := by heap_get
  have hnx : K.lookup (hp.objs.size + 1) = none := by
    cases e : K.lookup (hp.objs.size + 1) with
    | none => rfl
    | some o => exact absurd (Nat.lt_of_succ_lt (Heap.lt_size (X _ _ e))) (Nat.lt_irrefl _)
  refine HandSPX.call_own F.excBase_Exception hT hC (looks_findIn X iC) (fun self => bind_fn X self tC) hz ?_
  refine J _ _ ⟨(hp.push (kdv_tup us)).push (HandSPX.excO C hp.objs.size), g, dr, tk, os⟩ (hp.objs.size + 1) hp.objs.size us hk (X.keeps kk) (hlim.keeps kk) hget hnx hroom fun h' tk' dx ⟨k', hx, dn, dne, hns⟩ => ?_
  have z : hp.objs.size + 1 + 1 ≤ dx := by
    first
      | (simpa only [Heap.size_push] using dn)
      | exact dn
      | (have q := dn; rw [Heap.size_push, Heap.size_push] at q; exact q)
  exact ⟨rfl, hq h' tk' (hp.objs.size + 1) dx ⟨fun b o e => k' b o (Nat.ne_of_lt (Nat.lt_succ_of_lt (Heap.lt_size e))) (kk b o e), Nat.le_succ _, ⟨_, hx⟩, Nat.le_trans (Nat.le_trans (Nat.le_succ _) (Nat.le_succ _)) z, dne, hns⟩⟩
end
end EXO
set_option linter.all false
set_option maxRecDepth 100000
set_option maxHeartbeats 2000000
/-! The own __init__ of such a class: one field, or two. -/
namespace EXO
open PySem PySem.W PySem.Calls PyProof.Rows
open Builtin Builtin.ObjectAttr
def iA1 (p : String) (p1 p2 : Pos) : Arguments := { posonlyargs := [], args := [{ arg := "self", annotation := none, pos := p1 }, { arg := .ofString p, annotation := none, pos := p2 }], vararg := none, kwonlyargs := [], kw_defaults := [], kwarg := none, defaults := [] }
def iB1 (p : String) (q1 q2 q3 q4 : Pos) : List Stmt := [.Assign [.Attribute (.Name "self" q1) (.ofString p) q2] (.Name (.ofString p) q3) q4]
def iS1 (p : String) : Scope := { kind := .function, names := [(Str.ofString "self", .local), (.ofString p, .local)], isGenerator := false, isCoroutine := false, more := [] }
def iA2 (p r : String) (p1 p2 p3 : Pos) : Arguments := { posonlyargs := [], args := [{ arg := "self", annotation := none, pos := p1 }, { arg := .ofString p, annotation := none, pos := p2 }, { arg := .ofString r, annotation := none, pos := p3 }], vararg := none, kwonlyargs := [], kw_defaults := [], kwarg := none, defaults := [] }
def iB2 (p r : String) (q1 q2 q3 q4 r1 r2 r3 r4 : Pos) : List Stmt := [.Assign [.Attribute (.Name "self" q1) (.ofString p) q2] (.Name (.ofString p) q3) q4, .Assign [.Attribute (.Name "self" r1) (.ofString r) r2] (.Name (.ofString r) r3) r4]
def iS2 (p r : String) : Scope := { kind := .function, names := [(Str.ofString "self", .local), (.ofString p, .local), (.ofString r, .local)], isGenerator := false, isCoroutine := false, more := [] }
/-- what the written part says of C's __init__, at fI: one field -/
structure Tx1 (K : Frag) (C fI : Addr) (p : String) : Prop where
  iC : findIn K (.ref C) "__init__" = some (some (.ref fI))
  tC : typeIn K (.ref fI) = some (.type "function")
  no : takerIn K C (.ofString p) = some none
  nf : findIn K (.ref C) (.ofString p) = some none
  fn : ∃ (qn : Str) (oc : Value) (od : Option Addr) (doc pm : Value) (an : Option Addr) (cdv ct : Value) (osl : Array (Option Value)) (p1 p2 q1 q2 q3 q4 : Pos),
    K.lookup fI = some ⟨oc, od, .func (fnOf "__init__" qn (iA1 p p1 p2) (iB1 p q1 q2 q3 q4) (iS1 p) .none .none doc pm an cdv ct), osl⟩ ∧ codeIn K cdv qn = true
/-- two fields -/
structure Tx2 (K : Frag) (C fI : Addr) (p r : String) : Prop where
  iC : findIn K (.ref C) "__init__" = some (some (.ref fI))
  tC : typeIn K (.ref fI) = some (.type "function")
  no : takerIn K C (.ofString p) = some none
  nf : findIn K (.ref C) (.ofString p) = some none
  no' : takerIn K C (.ofString r) = some none
  nf' : findIn K (.ref C) (.ofString r) = some none
  fn : ∃ (qn : Str) (oc : Value) (od : Option Addr) (doc pm : Value) (an : Option Addr) (cdv ct : Value) (osl : Array (Option Value)) (p1 p2 p3 q1 q2 q3 q4 r1 r2 r3 r4 : Pos),
    K.lookup fI = some ⟨oc, od, .func (fnOf "__init__" qn (iA2 p r p1 p2 p3) (iB2 p r q1 q2 q3 q4 r1 r2 r3 r4) (iS2 p r) .none .none doc pm an cdv ct), osl⟩ ∧ codeIn K cdv qn = true
theorem ldN {M : Model} {A : Around} {E : Value → Shared → Prop} {s : Shared} {name : Str} {scope : Scope} {L a : Addr} {cd : Value} {m : Str → Option Value} {x : Str} {pos : Pos} {v : Value} {Q : Value → Shared → Prop} (hn : s.heap.Ns L m) (hv : m x = some v) (h : Q v s)
    (hk : scope.kind = .function := by rfl) (hl : (envOfC name scope L a cd).kindOf x = some .local := by rfl) (hd : (x == ("__debug__" : Str)) = false := by decide) :
    wpAny M A (eval (.Name x pos) (envOfC name scope L a cd)) Q E s := wpAny_Name (wpAny_loadName_local hk hl hn hv h) hd
section
variable {prog : Program} {w : World} {K : Frag} {C fI : Addr}
theorem ini_thing (T : ExC K C) (D : Tx1 K C fI "thing") : Ini prog w K C fI 1 [("thing", 0)] := by
  intro A R s x t0 us hk X hlim hx hnx hroom hq
  obtain ⟨v, rfl⟩ : ∃ v, us = [v] := match us, hk with | [v], _ => ⟨v, rfl⟩
  obtain ⟨qn, oc, od, doc, pm, an, cdv, ct, osl, p1, p2, q1, q2, q3, q4, ho, hcd⟩ := D.fn
  refine Att.call_fn (binds := [("self", .ref x), ("thing", v)]) X hlim ho hcd hroom (BindsTo.of_eq (by first | rfl | with_unfolding_all rfl)) (by first | rfl | decide | with_unfolding_all rfl) (fun s1 IC => ?_) rfl rfl rfl
  obtain ⟨h1, tk1, rfl⟩ := IC.toInCall.same
  have k := IC.toInCall.keep
  have hn := IC.toInCall.ns
  have X1 : K.In h1 := X.keeps k
  have hx1 := k _ _ hx
  show wpAny _ _ (execs _ _) _ _ _
  refine wpAny_execs_cons (plainObj_wpAny_Assign_Attribute ?_)
  refine ldN (v := v) hn (by first | rfl | with_unfolding_all rfl | kernel_rfl) (ldN (v := .ref x) hn (by first | rfl | with_unfolding_all rfl | kernel_rfl) ?_)
  refine set_plain X1 (ox := HandSPX.excO C t0) (od := none) ⟨hx1, rfl, rfl, trivial⟩ T.sa ?_
  refine first_store X1 T D.no hx1 fun h3 tk3 dx k3 dn dne hx3 hn3 => ?_
  show wpAny _ _ (execs _ _) _ _ _
  exact wpAny_execs_nil (hq h3 tk3 dx ⟨fun b o hb e => k3 b o hb (k b o e), hx3, Nat.le_of_lt (Nat.lt_of_lt_of_le hn.lt dn), dne, hn3⟩)
theorem ini_place (T : ExC K C) (D : Tx1 K C fI "place") : Ini prog w K C fI 1 [("place", 0)] := by
  intro A R s x t0 us hk X hlim hx hnx hroom hq
  obtain ⟨v, rfl⟩ : ∃ v, us = [v] := match us, hk with | [v], _ => ⟨v, rfl⟩
  obtain ⟨qn, oc, od, doc, pm, an, cdv, ct, osl, p1, p2, q1, q2, q3, q4, ho, hcd⟩ := D.fn
  refine Att.call_fn (binds := [("self", .ref x), ("place", v)]) X hlim ho hcd hroom (BindsTo.of_eq (by first | rfl | with_unfolding_all rfl)) (by first | rfl | decide | with_unfolding_all rfl) (fun s1 IC => ?_) rfl rfl rfl
  obtain ⟨h1, tk1, rfl⟩ := IC.toInCall.same
  have k := IC.toInCall.keep
  have hn := IC.toInCall.ns
  have X1 : K.In h1 := X.keeps k
  have hx1 := k _ _ hx
  show wpAny _ _ (execs _ _) _ _ _
  refine wpAny_execs_cons (plainObj_wpAny_Assign_Attribute ?_)
  refine ldN (v := v) hn (by first | rfl | with_unfolding_all rfl | kernel_rfl) (ldN (v := .ref x) hn (by first | rfl | with_unfolding_all rfl | kernel_rfl) ?_)
  refine set_plain X1 (ox := HandSPX.excO C t0) (od := none) ⟨hx1, rfl, rfl, trivial⟩ T.sa ?_
  refine first_store X1 T D.no hx1 fun h3 tk3 dx k3 dn dne hx3 hn3 => ?_
  show wpAny _ _ (execs _ _) _ _ _
  exact wpAny_execs_nil (hq h3 tk3 dx ⟨fun b o hb e => k3 b o hb (k b o e), hx3, Nat.le_of_lt (Nat.lt_of_lt_of_le hn.lt dn), dne, hn3⟩)
theorem ini_text (T : ExC K C) (D : Tx1 K C fI "text") : Ini prog w K C fI 1 [("text", 0)] := by
  intro A R s x t0 us hk X hlim hx hnx hroom hq
  obtain ⟨v, rfl⟩ : ∃ v, us = [v] := match us, hk with | [v], _ => ⟨v, rfl⟩
  obtain ⟨qn, oc, od, doc, pm, an, cdv, ct, osl, p1, p2, q1, q2, q3, q4, ho, hcd⟩ := D.fn
  refine Att.call_fn (binds := [("self", .ref x), ("text", v)]) X hlim ho hcd hroom (BindsTo.of_eq (by first | rfl | with_unfolding_all rfl)) (by first | rfl | decide | with_unfolding_all rfl) (fun s1 IC => ?_) rfl rfl rfl
  obtain ⟨h1, tk1, rfl⟩ := IC.toInCall.same
  have k := IC.toInCall.keep
  have hn := IC.toInCall.ns
  have X1 : K.In h1 := X.keeps k
  have hx1 := k _ _ hx
  show wpAny _ _ (execs _ _) _ _ _
  refine wpAny_execs_cons (plainObj_wpAny_Assign_Attribute ?_)
  refine ldN (v := v) hn (by first | rfl | with_unfolding_all rfl | kernel_rfl) (ldN (v := .ref x) hn (by first | rfl | with_unfolding_all rfl | kernel_rfl) ?_)
  refine set_plain X1 (ox := HandSPX.excO C t0) (od := none) ⟨hx1, rfl, rfl, trivial⟩ T.sa ?_
  refine first_store X1 T D.no hx1 fun h3 tk3 dx k3 dn dne hx3 hn3 => ?_
  show wpAny _ _ (execs _ _) _ _ _
  exact wpAny_execs_nil (hq h3 tk3 dx ⟨fun b o hb e => k3 b o hb (k b o e), hx3, Nat.le_of_lt (Nat.lt_of_lt_of_le hn.lt dn), dne, hn3⟩)
theorem ini_most (T : ExC K C) (D : Tx1 K C fI "most") : Ini prog w K C fI 1 [("most", 0)] := by
  intro A R s x t0 us hk X hlim hx hnx hroom hq
  obtain ⟨v, rfl⟩ : ∃ v, us = [v] := match us, hk with | [v], _ => ⟨v, rfl⟩
  obtain ⟨qn, oc, od, doc, pm, an, cdv, ct, osl, p1, p2, q1, q2, q3, q4, ho, hcd⟩ := D.fn
  refine Att.call_fn (binds := [("self", .ref x), ("most", v)]) X hlim ho hcd hroom (BindsTo.of_eq (by first | rfl | with_unfolding_all rfl)) (by first | rfl | decide | with_unfolding_all rfl) (fun s1 IC => ?_) rfl rfl rfl
  obtain ⟨h1, tk1, rfl⟩ := IC.toInCall.same
  have k := IC.toInCall.keep
  have hn := IC.toInCall.ns
  have X1 : K.In h1 := X.keeps k
  have hx1 := k _ _ hx
  show wpAny _ _ (execs _ _) _ _ _
  refine wpAny_execs_cons (plainObj_wpAny_Assign_Attribute ?_)
  refine ldN (v := v) hn (by first | rfl | with_unfolding_all rfl | kernel_rfl) (ldN (v := .ref x) hn (by first | rfl | with_unfolding_all rfl | kernel_rfl) ?_)
  refine set_plain X1 (ox := HandSPX.excO C t0) (od := none) ⟨hx1, rfl, rfl, trivial⟩ T.sa ?_
  refine first_store X1 T D.no hx1 fun h3 tk3 dx k3 dn dne hx3 hn3 => ?_
  show wpAny _ _ (execs _ _) _ _ _
  exact wpAny_execs_nil (hq h3 tk3 dx ⟨fun b o hb e => k3 b o hb (k b o e), hx3, Nat.le_of_lt (Nat.lt_of_lt_of_le hn.lt dn), dne, hn3⟩)
theorem ini_why (T : ExC K C) (D : Tx1 K C fI "why") : Ini prog w K C fI 1 [("why", 0)] := by
  intro A R s x t0 us hk X hlim hx hnx hroom hq
  obtain ⟨v, rfl⟩ : ∃ v, us = [v] := match us, hk with | [v], _ => ⟨v, rfl⟩
  obtain ⟨qn, oc, od, doc, pm, an, cdv, ct, osl, p1, p2, q1, q2, q3, q4, ho, hcd⟩ := D.fn
  refine Att.call_fn (binds := [("self", .ref x), ("why", v)]) X hlim ho hcd hroom (BindsTo.of_eq (by first | rfl | with_unfolding_all rfl)) (by first | rfl | decide | with_unfolding_all rfl) (fun s1 IC => ?_) rfl rfl rfl
  obtain ⟨h1, tk1, rfl⟩ := IC.toInCall.same
  have k := IC.toInCall.keep
  have hn := IC.toInCall.ns
  have X1 : K.In h1 := X.keeps k
  have hx1 := k _ _ hx
  show wpAny _ _ (execs _ _) _ _ _
  refine wpAny_execs_cons (plainObj_wpAny_Assign_Attribute ?_)
  refine ldN (v := v) hn (by first | rfl | with_unfolding_all rfl | kernel_rfl) (ldN (v := .ref x) hn (by first | rfl | with_unfolding_all rfl | kernel_rfl) ?_)
  refine set_plain X1 (ox := HandSPX.excO C t0) (od := none) ⟨hx1, rfl, rfl, trivial⟩ T.sa ?_
  refine first_store X1 T D.no hx1 fun h3 tk3 dx k3 dn dne hx3 hn3 => ?_
  show wpAny _ _ (execs _ _) _ _ _
  exact wpAny_execs_nil (hq h3 tk3 dx ⟨fun b o hb e => k3 b o hb (k b o e), hx3, Nat.le_of_lt (Nat.lt_of_lt_of_le hn.lt dn), dne, hn3⟩)
theorem ini_line_column (T : ExC K C) (D : Tx2 K C fI "line" "column") : Ini prog w K C fI 2 [("column", 1), ("line", 0)] := by
  intro A R s x t0 us hk X hlim hx hnx hroom hq
  obtain ⟨v, u, rfl⟩ : ∃ v u, us = [v, u] := match us, hk with | [v, u], _ => ⟨v, u, rfl⟩
  obtain ⟨qn, oc, od, doc, pm, an, cdv, ct, osl, p1, p2, p3, q1, q2, q3, q4, r1, r2, r3, r4, ho, hcd⟩ := D.fn
  refine Att.call_fn (binds := [("self", .ref x), ("line", v), ("column", u)]) X hlim ho hcd hroom (BindsTo.of_eq (by first | rfl | with_unfolding_all rfl)) (by first | rfl | decide | with_unfolding_all rfl) (fun s1 IC => ?_) rfl rfl rfl
  obtain ⟨h1, tk1, rfl⟩ := IC.toInCall.same
  have k := IC.toInCall.keep
  have hn := IC.toInCall.ns
  have X1 : K.In h1 := X.keeps k
  have hx1 := k _ _ hx
  have hxL : s.heap.objs.size ≠ x := Nat.ne_of_gt (Heap.lt_size hx)
  show wpAny _ _ (execs _ _) _ _ _
  refine wpAny_execs_cons (plainObj_wpAny_Assign_Attribute ?_)
  refine ldN (v := v) hn (by first | rfl | with_unfolding_all rfl | kernel_rfl) (ldN (v := .ref x) hn (by first | rfl | with_unfolding_all rfl | kernel_rfl) ?_)
  refine set_plain X1 (ox := HandSPX.excO C t0) (od := none) ⟨hx1, rfl, rfl, trivial⟩ T.sa ?_
  refine first_store X1 T D.no hx1 fun h3 tk3 dx k3 dn dne hx3 hn3 => ?_
  have hn3' := hn.at fun o e => k3 _ _ hxL e
  have X3 : K.In h3 := fun a o e => k3 a o (fun z => by rw [z, hnx] at e; cases e) (X1 a o e)
  have hw : Within (fun y => if y = (Str.ofString "line") then some v else none) [Str.ofString "line"] := Within.cons _ _ Within.nil
  obtain ⟨oD, esD, epD, hoD, hdD, _⟩ := hn3.count hw
  show wpAny _ _ (execs _ _) _ _ _
  refine wpAny_execs_cons (plainObj_wpAny_Assign_Attribute ?_)
  refine ldN (v := u) hn3' (by first | rfl | with_unfolding_all rfl | kernel_rfl) (ldN (v := .ref x) hn3' (by first | rfl | with_unfolding_all rfl | kernel_rfl) ?_)
  refine set_plain X3 (ox := { cls := .ref C, dict := some dx, data := .fields #[.ref t0, .none, .none, .none, .bool false, .none] }) (od := some oD) ⟨hx3, rfl, rfl, hoD⟩ T.sa ?_
  refine more_store X3 T D.no' hx3 hn3 hw (by simp) fun h4 tk4 k4 hn4 => ?_
  have old : ∀ {b : Addr} {o : Obj}, s.heap.get? b = some o → b ≠ dx := fun {b o} e => Nat.ne_of_lt (Nat.lt_of_lt_of_le (Heap.lt_size (k b o e)) dn)
  show wpAny _ _ (execs _ _) _ _ _
  exact wpAny_execs_nil (hq h4 tk4 dx ⟨fun b o hb e => k4 b o (old e) (k3 b o hb (k b o e)), k4 _ _ (Ne.symm dne) hx3, Nat.le_of_lt (Nat.lt_of_lt_of_le hn.lt dn), dne, hn4⟩)
end
end EXO
set_option linter.all false
set_option maxRecDepth 100000
set_option maxHeartbeats 2000000
/-! Such exceptions as values of ours: made, a field read, isinstance. -/
namespace EXO
open PySem PySem.Spec PyProof.Rows L2
theorem vals_get : ∀ {vs : List V} {us : List Value} {i : Nat} {v : V}, Vals vs us → vs[i]? = some v → ∃ u, us[i]? = some u ∧ RelV v u
  | _, _, i, _, .nil, e => by simp at e
  | _, _, 0, _, .cons r k, e => by
    simp at e
    subst e
    exact ⟨_, rfl, r⟩
  | _, _, i + 1, _, .cons r k, e => by
    obtain ⟨u, a, b⟩ := vals_get (i := i) k (by simpa using e)
    exact ⟨u, by simpa using a, b⟩
theorem fl_len {α : Type} (ns : List (Str × Nat)) (us : List α) : (fl ns us).length ≤ ns.length := List.length_filterMap_le _ _
theorem fl_rel {vs : List V} {us : List Value} (r : Vals vs us) : ∀ (ns : List (Str × Nat)) (f : Str), RelO ((fl ns vs).lookup f) (mOf (fl ns us) f)
  | [], f => True.intro
  | (n, i) :: ns, f => by
    have ih := fl_rel r ns f
    have hl := r.length
    cases hv : vs[i]? with
    | none =>
      have hu : us[i]? = none := by
        rw [List.getElem?_eq_none_iff] at hv ⊢
        omega
      have e1 : fl ((n, i) :: ns) vs = fl ns vs := by unfold fl; rw [List.filterMap_cons_none]; simp [hv]
      have e2 : fl ((n, i) :: ns) us = fl ns us := by unfold fl; rw [List.filterMap_cons_none]; simp [hu]
      rw [e1, e2]
      exact ih
    | some v =>
      obtain ⟨u, hu, ru⟩ := vals_get r hv
      have e1 : fl ((n, i) :: ns) vs = (n, v) :: fl ns vs := by unfold fl; rw [List.filterMap_cons_some]; simp [hv]
      have e2 : fl ((n, i) :: ns) us = (n, u) :: fl ns us := by unfold fl; rw [List.filterMap_cons_some]; simp [hu]
      rw [e1, e2, lookup_put]
      show RelO _ (if f = n then some u else mOf (fl ns us) f)
      by_cases h : f = n
      · rw [if_pos h, if_pos h]
        exact ru
      · rw [if_neg h, if_neg h]
        exact ih
section
variable {X : Cx} {e : Expr} {es : List Expr} {ta : TA} {te : TE} {x : Str} {C fI : Addr} {k : Nat} {ns : List (Str × Nat)} {p pos : Pos} {f : Str}
/-- C(e, ..) -/
def tMkX (C : Addr) (k : Nat) (ns : List (Str × Nat)) (ta : TA) : TE := fun σ H Q => ta σ H fun vs H1 => vs.length = k ∧ ∀ a d, H1 a = none → H1 d = none → a ≠ d → Q (.ref a) (upd (upd H1 d (exd d (fl ns vs))) a (exo a C (some d)))
theorem pe_mkx (T : ExC X.K C) (iC : PySem.W.findIn X.K (.ref C) "__init__" = some (some (.ref fI))) (tC : PySem.W.typeIn X.K (.ref fI) = some (.type "function")) (J : Ini X.prog X.w X.K C fI k ns) (hk : k ≤ 1000) (hr : Room 1 X.A)
    (hg : Gl X x) (hm : X.mg x = some (.ref C)) (ha : PA X (e :: es) ta) (hdb : (x == ("__debug__" : Str)) = false := by decide)
    (he : starEach (e :: es) X.env = (false, eval e X.env) :: starEach es X.env := by rfl) (hpl : (backTo pos (starEach es X.env)).any (·.1) = false := by rfl) :
    PE X (.Call (.Name x p) (e :: es) [] pos) (tMkX C k ns ta) := by
  refine ⟨fun pins s σ H Q I h => ?_⟩
  refine wpAny_Call_Name_kw (ld_glob I hg hm ?_ hdb)
  refine PySem.W.callWith_K (h₀ := X.base) I.ok.mod.kin T.kC (thn (ha.run pos pins s σ H _ I h) fun us s1 ⟨vs, H1, I1, r1, hl, q⟩ => ⟨I1.kIn, ?_⟩) he hpl
  have hul : us.length = k := r1.length.symm.trans hl
  show wpAny _ _ (call (.ref C) us) _ _ _
  have hlim := I1.nolimit
  obtain ⟨hp, g, dr, tk, os⟩ := s1
  refine wpAny_call (made (s := ⟨hp, g, dr, tk, os⟩) T iC tC J hul (by rw [hul, sizeLine_eq]; omega) I1.kIn hlim (by have := hr.dp; omega) fun h' tk' e d M => ?_)
  obtain ⟨G', g1, g2⟩ := restrict h' fun b => decide (b ≠ e)
  have gk : ∀ b, b ≠ e → G'.get? b = h'.get? b := fun b hb => g1 b (decide_eq_true hb)
  have ge : G'.get? e = none := g2 e (by simp)
  have old : ∀ b o, hp.get? b = some o → G'.get? b = some o := fun b o q => (gk b (Nat.ne_of_lt (Nat.lt_of_lt_of_le (Heap.lt_size q) M.new))).trans (M.keep b o q)
  have ob : ObjOk X.prog X.w (upd H1 d (exd d (fl ns vs))) G' d (exd d (fl ns vs)) := exd_ok (M.ns.at fun o q => (gk d M.dne).trans q) (fl_rel r1 ns)
  have J1 : Inv X pins σ (upd H1 d (exd d (fl ns vs))) ⟨G', g, dr, tk', os⟩ := I1.laid (t' := tk') old M.dbig ob
  have hfe : H1 e = none := I1.hok.fresh M.new
  have hfd : H1 d = none := I1.hok.fresh M.dbig
  obtain ⟨t1, hob⟩ := M.obj
  have J2 : Inv X pins σ (upd (upd H1 d (exd d (fl ns vs))) e (exo e C (some d))) ⟨h', g, dr, tk', os⟩ :=
    J1.laidN (t' := tk') (fun b o q => by
      by_cases hb : b = e
      · rw [hb] at q
        have q' : G'.get? e = some o := q
        rw [ge] at q'; cases q'
      · exact (gk b hb).symm.trans q) ge (by rw [upd_ne (Ne.symm M.dne)]; exact hfe) (exo_ok hob)
  exact ⟨.ref e, _, J2, rfl, q e d hfe hfd (Ne.symm M.dne)⟩
/-- e.f -/
def tAtX (K : PySem.W.Frag) (f : Str) (te : TE) : TE := fun σ H Q => te σ H fun x H1 => ∃ (a C d : Addr) (fs : List (Str × V)) (v : V), x = .ref a ∧ ExC K C ∧ PySem.W.findIn K (.ref C) f = some none ∧ H1 a = some (exo a C (some d)) ∧ H1 d = some (exd d fs) ∧ fs.lookup f = some v ∧ Q v H1
/-- where such an exception stands -/
theorem inst_at {K : PySem.W.Frag} {P : Program} {w : World} {H : Hp} {h : Heap} {a C d : Addr} {fs : List (Str × V)} (hok : HOk P w H h) (ea : H a = some (exo a C (some d))) (ed : H d = some (exd d fs)) :
    ∃ (ox od : Obj) (mA : Str → Option Value), PySem.W.InstAt h a ox C (some od) ∧ (∀ n, PySem.W.lookIn n od = some (mA n)) ∧ ∀ n, RelO (fs.lookup n) (mA n) := by
  obtain ⟨t1, hoe⟩ := exo_at hok ea
  obtain ⟨mA, hns, rel⟩ := exd_at hok ed
  obtain ⟨od, ho, hl⟩ := lookIn_ns hns
  exact ⟨_, od, mA, ⟨hoe, rfl, rfl, ho⟩, hl, rel⟩
theorem pe_atx (he : PE X e te) (hb : attributeBase e f X.env (eval e X.env) = eval e X.env := by rfl) : PE X (.Attribute e f pos) (tAtX X.K f te) := by
  refine ⟨fun pins s σ H Q I h => ?_⟩
  refine attr_of hb (thn (he.run pins s σ H _ I h) fun u s1 ⟨x, H1, I1, rx, a, C, d, fs, v, ex, T, hno, ea, ed, hl, q⟩ => ?_)
  subst ex
  obtain rfl : u = Value.ref a := rx
  obtain ⟨ox, od, mA, J, hli, rel⟩ := inst_at (K := X.K) I1.hok ea ed
  obtain ⟨u, hu, ru⟩ := RelO.some_of (v := v) (o := mA f) (by rw [← hl]; exact rel f)
  exact HandSPX.exc_get I1.kIn J T.ga T.gg T.exC (PySem.W.findObj_own T.hd hno rfl (by rw [hli, hu])) (handed_of ru) ⟨v, H1, I1.tok _, ru, q⟩
/-- isinstance(x, c), x such an exception -/
def rIsx (K : PySem.W.Frag) : List V → Hp → VK → Prop := fun xs H Q => ∃ (a C d : Addr) (fs : List (Str × V)) (c : V) (u : Value) (b : Bool), xs = [.ref a, c] ∧ ClsV c u ∧ ExC K C ∧ H a = some (exo a C (some d)) ∧ H d = some (exd d fs) ∧ PySem.W.kitOne K (.ref C) u = some b ∧ Q (.bl b) H
theorem call_isx : CallR X (.builtin "isinstance") (rIsx X.K) := by
  intro pins s σ H xs us Q I r h
  obtain ⟨a, C, d, fs, c, u, b, rfl, k, T, ea, ed, e, q⟩ := h
  obtain ⟨u1, u2, rfl, r1, r2⟩ := vals2 r
  have e2 := k.eq r2
  subst e2
  obtain rfl : u1 = Value.ref a := r1
  obtain ⟨ox, od, mA, J, _, _⟩ := inst_at (K := X.K) I.hok ea ed
  exact PySem.W.kia_one (PySem.W.kitx_exc T.cl T.ga T.gg T.exC T.ha T.hn T.tk T.mo) I.kIn J e (fun z => nomatch z) fun tk => ⟨.bl b, H, I.tok tk, rfl, q⟩
end
end EXO
set_option linter.all false
set_option maxRecDepth 100000
set_option maxHeartbeats 2000000
/-! A functional reading of defs: values as trees, expressions as functions of the slots and of the one list that changes. -/
namespace FL
open PySem PySem.Spec PyProof.Rows L2 GxR GA

inductive T where
  | non | bl (b : Bool) | int (i : Int) | str (cs : List Nat) | tup (ts : List T) | lst (ts : List T) | fls (ts : List T) | ref | exo (i : Nat) (ns : List Str) (ts : List T)
  deriving Inhabited

structure Pm where
  K : PySem.W.Frag
  d : Option Addr
  tabs : List Addr
  ex : List Addr
  cl : List Addr
/-- neither the list that changes nor one that is being made -/
def Fre (p : Pm) (a : Addr) : Prop := p.d ≠ some a ∧ a ∉ p.ex

/-- a list that nobody changes -/
def SqF (p : Pm) (H : Hp) (a : Addr) (xs : List V) : Prop := (Rd H a (.lst xs) ∧ Fre p a) ∨
    ∃ (o : Obj) (its : Array Value) (n : Nat), p.K.lookup a = some o ∧ o.cls = .type "list" ∧ o.dict = none ∧ o.data = .seq its n ∧ its.size ≤ sizeLine ∧ Vals xs its.toList
theorem SqF.sq {p : Pm} {H : Hp} {a : Addr} {xs : List V} (h : SqF p H a xs) : SqL p.K H a xs := h.elim (fun q => .inl q.1) .inr
mutual
def Rep (p : Pm) (H : Hp) : T → V → Prop
  | .non, v => v = .non
  | .bl b, v => v = .bl b
  | .int i, v => v = .int i
  | .str cs, v => ∃ x : Str, v = .str x ∧ x.cps.toList = cs
  | .tup ts, v => ∃ a vs, v = .ref a ∧ SqT p.K H a vs ∧ Reps p H ts vs
  | .lst ts, v => ∃ a vs, v = .ref a ∧ H a = some (.lst vs) ∧ Fre p a ∧ Reps p H ts vs
  | .fls ts, v => ∃ a vs, v = .ref a ∧ SqF p H a vs ∧ Reps p H ts vs
  | .ref, v => ∃ a, p.d = some a ∧ v = .ref a
  | .exo i ns ts, v => ∃ C a d vs, p.cl[i]? = some C ∧ v = .ref a ∧ H a = some (exo a C (some d)) ∧ H d = some (exd d (ns.zip vs)) ∧ Reps p H ts vs
def Reps (p : Pm) (H : Hp) : List T → List V → Prop
  | [], vs => vs = []
  | t :: ts, vs => ∃ v r, vs = v :: r ∧ Rep p H t v ∧ Reps p H ts r
end

/-- what a run keeps: all but the list that changes; the tables grow -/
structure Ext (p : Pm) (H H' : Hp) : Prop where
  tup : ∀ a xs, H a = some (.tup xs) → H' a = some (.tup xs)
  frz : ∀ a o u, H a = some (.frz o u) → H' a = some (.frz o u)
  lst : ∀ a xs, p.d ≠ some a → H a = some (.lst xs) → H' a = some (.lst xs)
  tab : ∀ P, TabG H P → TabG H' P
  ext : ∀ a φ, H a = some (.ext φ) → H' a = some (.ext φ)
theorem Ext.refl {p : Pm} {H : Hp} : Ext p H H := ⟨fun _ _ h => h, fun _ _ _ h => h, fun _ _ _ h => h, fun _ h => h, fun _ _ h => h⟩
theorem Ext.trans {p : Pm} {H H1 H2 : Hp} (a : Ext p H H1) (b : Ext p H1 H2) : Ext p H H2 :=
  ⟨fun c xs h => b.tup c xs (a.tup c xs h), fun c o u h => b.frz c o u (a.frz c o u h), fun c xs n h => b.lst c xs n (a.lst c xs n h), fun P h => b.tab P (a.tab P h), fun c φ h => b.ext c φ (a.ext c φ h)⟩
theorem Ext.same {p : Pm} {H H' : Hp} (s : Same H H') : Ext p H H' := ⟨fun a xs h => s _ _ h, fun a o u h => s _ _ h, fun a xs _ h => s _ _ h, fun P ⟨ps, h, t⟩ => ⟨ps, s _ _ h, t⟩, fun a φ h => s _ _ h⟩
theorem same_new {H : Hp} {p : Addr} (h : H p = none) (o : HO) : Same H (upd H p o) := fun b u q => by rw [upd_ne (ne_of_none q h)]; exact q
theorem Ext.tabbed {p : Pm} {H H' : Hp} {P : Addr} (h : TabG H P) (t : Tabbed P H H') : Ext p H H' := by
  obtain ⟨ps, hP, _⟩ := h
  have ne : ∀ a u, H a = some u → (∀ q, u ≠ .tbl q) → a ≠ P := fun a u e q z => by rw [z, hP] at e; exact q ps (Option.some.inj e).symm
  refine ⟨fun a xs h => ?_, fun a o u h => ?_, fun a xs _ h => ?_, fun Q h => ?_, fun a φ h => ?_⟩
  · rw [t.2 a (ne a _ h fun q z => by cases z)]; exact h
  · rw [t.2 a (ne a _ h fun q z => by cases z)]; exact h
  · rw [t.2 a (ne a _ h fun q z => by cases z)]; exact h
  · by_cases e : Q = P
    · rw [e]; exact t.1
    · obtain ⟨qs, hq, ht⟩ := h
      exact ⟨qs, by rw [t.2 Q e]; exact hq, ht⟩
  · rw [t.2 a (ne a _ h fun q z => by cases z)]; exact h

theorem Ext.sqT {p : Pm} {H H' : Hp} (e : Ext p H H') {a : Addr} {xs : List V} (h : SqT p.K H a xs) : SqT p.K H' a xs := by
  rcases h with (h | ⟨o, h⟩) | h
  · exact .inl (.inl (e.tup _ _ h))
  · exact .inl (.inr ⟨o, e.frz _ _ _ h⟩)
  · exact .inr h
theorem Ext.sqF {p : Pm} {H H' : Hp} (e : Ext p H H') {a : Addr} {xs : List V} (h : SqF p H a xs) : SqF p H' a xs := by
  rcases h with ⟨h | ⟨o, h⟩, n⟩ | h
  · exact .inl ⟨.inl (e.lst _ _ n.1 h), n⟩
  · exact .inl ⟨.inr ⟨o, e.frz _ _ _ h⟩, n⟩
  · exact .inr h
mutual
theorem Rep.ext {p : Pm} {H H' : Hp} (e : Ext p H H') : ∀ {t : T} {v : V}, Rep p H t v → Rep p H' t v
  | .non, _, h => h
  | .bl _, _, h => h
  | .int _, _, h => h
  | .str _, _, h => h
  | .tup ts, _, h => by
    obtain ⟨a, vs, rfl, s, r⟩ := h
    exact ⟨a, vs, rfl, e.sqT s, Reps.ext e r⟩
  | .lst ts, _, h => by
    obtain ⟨a, vs, rfl, s, n, r⟩ := h
    exact ⟨a, vs, rfl, e.lst _ _ n.1 s, n, Reps.ext e r⟩
  | .fls ts, _, h => by
    obtain ⟨a, vs, rfl, s, r⟩ := h
    exact ⟨a, vs, rfl, e.sqF s, Reps.ext e r⟩
  | .ref, _, h => h
  | .exo C ns ts, _, h => by
    obtain ⟨c, a, d, vs, hc, rfl, s, n, r⟩ := h
    exact ⟨c, a, d, vs, hc, rfl, e.ext _ _ s, e.ext _ _ n, Reps.ext e r⟩
theorem Reps.ext {p : Pm} {H H' : Hp} (e : Ext p H H') : ∀ {ts : List T} {vs : List V}, Reps p H ts vs → Reps p H' ts vs
  | [], _, h => h
  | t :: ts, _, h => by
    obtain ⟨v, r, rfl, a, b⟩ := h
    exact ⟨v, r, rfl, Rep.ext e a, Reps.ext e b⟩
end
theorem Reps.length {p : Pm} {H : Hp} : ∀ {ts : List T} {vs : List V}, Reps p H ts vs → vs.length = ts.length
  | [], _, h => by rw [show _ = [] from h]; rfl
  | t :: ts, _, h => by
    obtain ⟨v, r, rfl, _, b⟩ := h
    rw [List.length_cons, List.length_cons, Reps.length b]
theorem Reps.get {p : Pm} {H : Hp} : ∀ {ts : List T} {vs : List V} {i : Nat} {t : T}, Reps p H ts vs → ts[i]? = some t → ∃ v, vs[i]? = some v ∧ Rep p H t v
  | [], _, _, _, _, e => by simp at e
  | t :: ts, _, 0, _, h, e => by
    obtain ⟨v, r, rfl, a, _⟩ := h
    simp at e
    subst e
    exact ⟨v, rfl, a⟩
  | t :: ts, _, i + 1, u, h, e => by
    obtain ⟨v, r, rfl, _, b⟩ := h
    obtain ⟨x, q1, q2⟩ := Reps.get (i := i) b (by simpa using e)
    exact ⟨x, by simpa using q1, q2⟩
theorem Reps.getV {p : Pm} {H : Hp} : ∀ {ts : List T} {vs : List V} {i : Nat} {v : V}, Reps p H ts vs → vs[i]? = some v → ∃ t, ts[i]? = some t ∧ Rep p H t v
  | [], _, i, _, h, e => by rw [show _ = [] from h] at e; simp at e
  | t :: ts, _, 0, _, h, e => by
    obtain ⟨v, r, rfl, a, _⟩ := h
    simp at e
    subst e
    exact ⟨t, rfl, a⟩
  | t :: ts, _, i + 1, u, h, e => by
    obtain ⟨v, r, rfl, _, b⟩ := h
    obtain ⟨x, q1, q2⟩ := Reps.getV (i := i) b (by simpa using e)
    exact ⟨x, by simpa using q1, q2⟩
theorem Reps.append {p : Pm} {H : Hp} : ∀ {ts us : List T} {vs ws : List V}, Reps p H ts vs → Reps p H us ws → Reps p H (ts ++ us) (vs ++ ws)
  | [], _, _, _, h, g => by rw [show _ = [] from h]; exact g
  | t :: ts, _, _, _, h, g => by
    obtain ⟨v, r, rfl, a, b⟩ := h
    exact ⟨v, r ++ _, rfl, a, Reps.append b g⟩
theorem Reps.drop {p : Pm} {H : Hp} : ∀ {ts : List T} {vs : List V} (n : Nat), Reps p H ts vs → Reps p H (ts.drop n) (vs.drop n)
  | _, _, 0, h => h
  | [], _, n + 1, h => by rw [show _ = [] from h]; rfl
  | t :: ts, _, n + 1, h => by
    obtain ⟨v, r, rfl, a, b⟩ := h
    exact Reps.drop n b
theorem Reps.take {p : Pm} {H : Hp} : ∀ {ts : List T} {vs : List V} (n : Nat), Reps p H ts vs → Reps p H (ts.take n) (vs.take n)
  | _, _, 0, h => rfl
  | [], _, n + 1, h => by rw [show _ = [] from h]; rfl
  | t :: ts, _, n + 1, h => by
    obtain ⟨v, r, rfl, a, b⟩ := h
    exact ⟨v, r.take n, rfl, a, Reps.take n b⟩
theorem Reps.set {p : Pm} {H : Hp} {t : T} {v : V} (hv : Rep p H t v) : ∀ {ts : List T} {vs : List V} (n : Nat), Reps p H ts vs → Reps p H (ts.set n t) (vs.set n v)
  | [], _, n, h => by rw [show _ = [] from h]; rfl
  | u :: ts, _, 0, h => by
    obtain ⟨w, r, rfl, a, b⟩ := h
    exact ⟨v, r, rfl, hv, b⟩
  | u :: ts, _, n + 1, h => by
    obtain ⟨w, r, rfl, a, b⟩ := h
    exact ⟨w, r.set n v, rfl, a, Reps.set hv n b⟩
theorem Reps.nil {p : Pm} {H : Hp} : Reps p H [] [] := rfl
theorem Reps.cons {p : Pm} {H : Hp} {t : T} {v : V} {ts : List T} {vs : List V} (a : Rep p H t v) (b : Reps p H ts vs) : Reps p H (t :: ts) (v :: vs) := ⟨v, vs, rfl, a, b⟩

/-- the list that changes: what it holds; the tables are there -/
def DrOk (p : Pm) (H : Hp) (dr : List T) : Prop := match p.d with
  | none => True
  | some a => ∃ vs, H a = some (.lst vs) ∧ Reps p H dr vs
def Ok (p : Pm) (H : Hp) (dr : List T) : Prop := DrOk p H dr ∧ (∀ P ∈ p.tabs, TabG H P) ∧ ∀ a ∈ p.ex, p.d ≠ some a ∧ ∃ xs, H a = some (.lst xs)
theorem DrOk.ext {p : Pm} {H H' : Hp} {dr : List T} (e : Ext p H H') (k : ∀ a xs, H a = some (.lst xs) → H' a = some (.lst xs)) (h : DrOk p H dr) : DrOk p H' dr := by
  unfold DrOk at h ⊢
  cases hd : p.d with
  | none => trivial
  | some a =>
    rw [hd] at h
    obtain ⟨vs, h1, h2⟩ := h
    exact ⟨vs, k _ _ h1, h2.ext e⟩
theorem Ok.same {p : Pm} {H H' : Hp} {dr : List T} (s : Same H H') (h : Ok p H dr) : Ok p H' dr :=
  ⟨h.1.ext (.same s) fun a xs q => s _ _ q, fun P hP => (Ext.same (p := p) s).tab P (h.2.1 P hP), fun a ha => ⟨(h.2.2 a ha).1, let ⟨xs, q⟩ := (h.2.2 a ha).2; ⟨xs, s _ _ q⟩⟩⟩
theorem Ok.tabbed {p : Pm} {H H' : Hp} {P : Addr} {dr : List T} (g : TabG H P) (t : Tabbed P H H') (h : Ok p H dr) : Ok p H' dr := by
  have e := Ext.tabbed (p := p) g t
  refine ⟨h.1.ext e fun a xs q => ?_, fun P hP => e.tab P (h.2.1 P hP), fun a ha => ⟨(h.2.2 a ha).1, let ⟨xs, q⟩ := (h.2.2 a ha).2; ⟨xs, e.lst _ _ (h.2.2 a ha).1 q⟩⟩⟩
  obtain ⟨ps, hP, _⟩ := g
  rw [t.2 a fun z => by rw [z, hP] at q; cases q]
  exact q

abbrev Env := List (Option T)
/-- the slots hold what the environment says -/
def RelS (p : Pm) (H : Hp) (σ : L2.St) (env : Env) : Prop := σ.length = env.length ∧ ∀ (i : Nat) (t : T), env[i]? = some (some t) → ∃ v, σ[i]? = some (some v) ∧ Rep p H t v
theorem RelS.ext {p : Pm} {H H' : Hp} {σ : L2.St} {env : Env} (e : Ext p H H') (h : RelS p H σ env) : RelS p H' σ env := ⟨h.1, fun i t q => let ⟨v, a, b⟩ := h.2 i t q; ⟨v, a, b.ext e⟩⟩
theorem RelS.set {p : Pm} {H : Hp} {σ : L2.St} {env : Env} {t : T} {v : V} (h : RelS p H σ env) (r : Rep p H t v) (i : Nat) : RelS p H (σ.set i (some v)) (env.set i (some t)) := by
  refine ⟨by rw [List.length_set, List.length_set]; exact h.1, fun j u q => ?_⟩
  by_cases e : i = j
  · subst e
    have hl : i < env.length := by
      have := (List.getElem?_eq_some_iff.mp q).1
      simpa using this
    rw [List.getElem?_set_self hl] at q
    cases q
    exact ⟨v, List.getElem?_set_self (by rw [h.1]; exact hl), r⟩
  · rw [List.getElem?_set_ne e] at q
    obtain ⟨w, a, b⟩ := h.2 j u q
    exact ⟨w, by rw [List.getElem?_set_ne e]; exact a, b⟩
def wipeE (env : Env) : List Nat → Env
  | [] => env
  | v :: vs => (wipeE env vs).set v none
theorem RelS.wipe {p : Pm} {H : Hp} {σ : L2.St} {env : Env} (h : RelS p H σ env) : ∀ vs : List Nat, RelS p H (wipe σ vs) (wipeE env vs)
  | [] => h
  | i :: vs => by
    have q := RelS.wipe h vs
    unfold L2.wipe wipeE
    refine ⟨by rw [List.length_set, List.length_set]; exact q.1, fun j u z => ?_⟩
    by_cases e : i = j
    · subst e
      have hl : i < (wipeE env vs).length := by
        have := (List.getElem?_eq_some_iff.mp z).1
        simpa using this
      rw [List.getElem?_set_self hl] at z
      cases z
    · rw [List.getElem?_set_ne e] at z
      obtain ⟨w, a, b⟩ := q.2 j u z
      exact ⟨w, by rw [List.getElem?_set_ne e]; exact a, b⟩

/-! ### readings -/
abbrev EF := Env → List T → Option (T × List T)
abbrev TF := Env → List T → Option (Bool × List T)
abbrev AF := Env → List T → Option (List T × List T)
def tE (p : Pm) (f : EF) : TE := fun σ H Q => ∃ env dr t dr', RelS p H σ env ∧ Ok p H dr ∧ f env dr = some (t, dr') ∧ ∀ v H', Ext p H H' → Rep p H' t v → Ok p H' dr' → Q v H'
def tT (p : Pm) (f : TF) : TT := fun σ H Q => ∃ env dr t dr', RelS p H σ env ∧ Ok p H dr ∧ f env dr = some (t, dr') ∧ ∀ H', Ext p H H' → Ok p H' dr' → Q t H'
def tA (p : Pm) (f : AF) : TA := fun σ H Q => ∃ env dr ts dr', RelS p H σ env ∧ Ok p H dr ∧ f env dr = some (ts, dr') ∧ ∀ vs H', Ext p H H' → Reps p H' ts vs → Ok p H' dr' → Q vs H'
abbrev SE (p : Pm) (X : Cx) (e : Expr) (f : EF) : Prop := PE X e (tE p f)
abbrev SB (p : Pm) (X : Cx) (e : Expr) (f : TF) : Prop := PT X e (tT p f)
abbrev SA (p : Pm) (X : Cx) (es : List Expr) (f : AF) : Prop := PA X es (tA p f)

section
variable {X : Cx} {e : Expr} {es : List Expr}
theorem pe_imp {t t' : TE} (h : PE X e t) (hi : ∀ σ H Q, t' σ H Q → t σ H Q) : PE X e t' := ⟨fun pins s σ H Q I q => h.run pins s σ H Q I (hi σ H Q q)⟩
theorem pt_imp {t t' : TT} (h : PT X e t) (hi : ∀ σ H Q, t' σ H Q → t σ H Q) : PT X e t' := ⟨fun pins s σ H Q I q => h.run pins s σ H Q I (hi σ H Q q)⟩
theorem pa_imp {t t' : TA} (h : PA X es t) (hi : ∀ σ H Q, t' σ H Q → t σ H Q) : PA X es t' := ⟨fun pos pins s σ H Q I q => h.run pos pins s σ H Q I (hi σ H Q q)⟩
end
end FL
set_option linter.all false
set_option maxRecDepth 100000
set_option maxHeartbeats 2000000
namespace FL
open PySem PySem.Spec PyProof.Rows L2 GxR GA
def lim : Nat := 1000000
theorem lim_ok {n : Nat} (h : n ≤ lim) : n ≤ sizeLine := Nat.le_trans h (by decide)

section
variable {p : Pm} {X : Cx} {a b c e : Expr} {es : List Expr} {pos : Pos} {f g h : EF} {u : TF} {l : AF}

/-! ### leaves -/
def eVar (i : Nat) : EF := fun env dr => match env[i]? with | some (some t) => some (t, dr) | _ => none
theorem se_var {i : Nat} (h : PE X a (tVar i)) : SE p X a (eVar i) := pe_imp h fun σ H Q ⟨env, dr, t, dr', hR, hO, hf, q⟩ => by
  unfold eVar at hf
  split at hf
  · rename_i u e
    cases hf
    obtain ⟨v, x, y⟩ := hR.2 _ _ e
    exact ⟨v, x, q v H .refl y hO⟩
  · cases hf
def eC (t : T) : EF := fun _ dr => some (t, dr)
/-- a constant: its value hangs on no heap -/
theorem se_c {t : T} {v : V} (h : PE X a (tC v)) (r : ∀ H, Rep p H t v) : SE p X a (eC t) := pe_imp h fun σ H Q ⟨env, dr, t', dr', hR, hO, hf, q⟩ => by
  cases hf
  exact q v H .refl (r H) hO
theorem se_int {i : Int} {j : Nat} : SE p X (.Constant (.int i) j pos) (eC (.int i)) := se_c pe_int fun _ => rfl
theorem se_bl {i : Bool} {j : Nat} : SE p X (.Constant (.bool i) j pos) (eC (.bl i)) := se_c pe_bl fun _ => rfl
theorem se_non {j : Nat} : SE p X (.Constant .none j pos) (eC .non) := se_c pe_non fun _ => rfl
theorem se_str {x : Str} {j : Nat} (cs : List Nat) (hx : x.cps.toList = cs) : SE p X (.Constant (.str x) j pos) (eC (.str cs)) := se_c pe_str fun _ => ⟨x, rfl, hx⟩

/-! ### arguments, tuples, lists -/
def aNil : AF := fun _ dr => some ([], dr)
def aCons (f : EF) (l : AF) : AF := fun env dr => match f env dr with
  | none => none
  | some (x, dr1) => match l env dr1 with
    | none => none
    | some (xs, dr2) => some (x :: xs, dr2)
theorem sa_nil : SA p X [] aNil := pa_imp pa_nil fun σ H Q ⟨env, dr, t', dr', hR, hO, hf, q⟩ => by
  cases hf
  exact q [] H .refl .nil hO
theorem sa_cons (ha : SE p X e f) (hl : SA p X es l) (hs : starEach (e :: es) X.env = (false, eval e X.env) :: starEach es X.env := by rfl) : SA p X (e :: es) (aCons f l) := pa_imp (pa_cons ha hl hs) fun σ H Q ⟨env, dr, t', dr', hR, hO, hf, q⟩ => by
  unfold aCons at hf
  cases h1 : f env dr with
  | none => rw [h1] at hf; cases hf
  | some z =>
    obtain ⟨x, dr1⟩ := z
    rw [h1] at hf
    dsimp only at hf
    cases h2 : l env dr1 with
    | none => rw [h2] at hf; cases hf
    | some z =>
      obtain ⟨xs, dr2⟩ := z
      rw [h2] at hf
      cases hf
      exact ⟨env, dr, x, dr1, hR, hO, h1, fun v H1 e1 r1 o1 => ⟨env, dr1, xs, _, hR.ext e1, o1, h2, fun vs H2 e2 r2 o2 => q _ _ (e1.trans e2) (.cons (r1.ext e2) r2) o2⟩⟩
def eTup (l : AF) : EF := fun env dr => match l env dr with
  | some (xs, dr1) => if xs.length ≤ lim then some (.tup xs, dr1) else none
  | none => none
def eLst (l : AF) : EF := fun env dr => match l env dr with
  | some (xs, dr1) => if xs.length ≤ lim then some (.lst xs, dr1) else none
  | none => none
theorem d_ne {H : Hp} {dr : List T} (hO : Ok p H dr) {q : Addr} (hq : H q = none) : Fre p q := by
  refine ⟨fun z => ?_, fun z => ?_⟩
  · have := hO.1
    unfold DrOk at this
    rw [z] at this
    obtain ⟨vs, h1, _⟩ := this
    rw [hq] at h1
    cases h1
  · obtain ⟨_, xs, h⟩ := hO.2.2 q z
    rw [hq] at h
    cases h
theorem rep_tup {H : Hp} {q : Addr} {ts : List T} {vs : List V} (r : Reps p H ts vs) (hq : H q = none) : Rep p (upd H q (.tup vs)) (.tup ts) (.ref q) :=
  ⟨q, vs, rfl, .inl (.inl upd_same), r.ext (.same (same_new hq _))⟩
theorem rep_lst {H : Hp} {q : Addr} {ts : List T} {vs : List V} (r : Reps p H ts vs) (hq : H q = none) (hd : Fre p q) : Rep p (upd H q (.lst vs)) (.lst ts) (.ref q) :=
  ⟨q, vs, rfl, upd_same, hd, r.ext (.same (same_new hq _))⟩
theorem se_tup {x1} (hl : SA p X es l) : SE p X (.Tuple es x1 pos) (eTup l) := pe_imp (pe_tup hl) fun σ H Q ⟨env, dr, t', dr', hR, hO, hf, q⟩ => by
  unfold eTup at hf
  cases h1 : l env dr with
  | none => rw [h1] at hf; cases hf
  | some z =>
    obtain ⟨xs, dr1⟩ := z
    rw [h1] at hf
    dsimp only at hf
    split at hf
    · rename_i hz
      cases hf
      exact ⟨env, dr, xs, _, hR, hO, h1, fun vs H1 e1 r1 o1 => ⟨by rw [r1.length]; exact lim_ok hz, fun a ha => q _ _ (e1.trans (.same (same_new ha _))) (rep_tup r1 ha) (o1.same (same_new ha _))⟩⟩
    · cases hf
theorem se_lst (hl : SA p X es l) : SE p X (.List es pos) (eLst l) := pe_imp (pe_lst hl) fun σ H Q ⟨env, dr, t', dr', hR, hO, hf, q⟩ => by
  unfold eLst at hf
  cases h1 : l env dr with
  | none => rw [h1] at hf; cases hf
  | some z =>
    obtain ⟨xs, dr1⟩ := z
    rw [h1] at hf
    dsimp only at hf
    split at hf
    · rename_i hz
      cases hf
      exact ⟨env, dr, xs, _, hR, hO, h1, fun vs H1 e1 r1 o1 => ⟨by rw [r1.length]; exact lim_ok hz, fun a ha => q _ _ (e1.trans (.same (same_new ha _))) (rep_lst r1 ha (d_ne o1 ha)) (o1.same (same_new ha _))⟩⟩
    · cases hf

/-! ### two-place operations -/
def NewD (p : Pm) (H : Hp) : Prop := ∀ q, H q = none → Fre p q
theorem Ok.new {H : Hp} {dr : List T} (hO : Ok p H dr) : NewD p H := fun q hq => d_ne hO hq
def OpT (p : Pm) (X : Cx) (o : Value → Value → Sem Value) (h : T → T → Option T) : Prop :=
  OpR X o fun x y H Q => ∃ a b t, Rep p H a x ∧ Rep p H b y ∧ NewD p H ∧ h a b = some t ∧ ∀ v H', Same H H' → Rep p H' t v → Q v H'
theorem opr_imp {o : Value → Value → Sem Value} {r r' : R2} (h : OpR X o r) (hi : ∀ x y H Q, r' x y H Q → r x y H Q) : OpR X o r' := fun pins s σ H x y v u Q I rx ry q => h pins s σ H x y v u Q I rx ry (hi _ _ _ _ q)
theorem OpT.or {o : Value → Value → Sem Value} {h h' : T → T → Option T} (a : OpT p X o h) (b : OpT p X o h') : OpT p X o (fun x y => match h x y with | some t => some t | none => h' x y) := by
  refine opr_imp (OpR.or a b) fun x y H Q ⟨c, d, t, r1, r2, nd, hf, q⟩ => ?_
  dsimp only at hf
  cases hh : h c d with
  | some z => rw [hh] at hf; exact .inl ⟨c, d, t, r1, r2, nd, by rw [hh]; exact hf, q⟩
  | none => rw [hh] at hf; exact .inr ⟨c, d, t, r1, r2, nd, hf, q⟩
def eBin (h : T → T → Option T) (f g : EF) : EF := fun env dr => match f env dr with
  | none => none
  | some (x, dr1) => match g env dr1 with
    | none => none
    | some (y, dr2) => match h x y with
      | none => none
      | some t => some (t, dr2)
theorem bin_in {h : T → T → Option T} {env : Env} {dr dr' : List T} {t : T} (hf : eBin h f g env dr = some (t, dr')) : ∃ x dr1 y, f env dr = some (x, dr1) ∧ g env dr1 = some (y, dr') ∧ h x y = some t := by
  unfold eBin at hf
  cases h1 : f env dr with
  | none => rw [h1] at hf; cases hf
  | some z =>
    obtain ⟨x, dr1⟩ := z
    rw [h1] at hf
    dsimp only at hf
    cases h2 : g env dr1 with
    | none => rw [h2] at hf; cases hf
    | some z =>
      obtain ⟨y, dr2⟩ := z
      rw [h2] at hf
      dsimp only at hf
      cases h3 : h x y with
      | none => rw [h3] at hf; cases hf
      | some t' =>
        rw [h3] at hf
        cases hf
        exact ⟨x, dr1, y, rfl, h2, h3⟩
theorem tOp_bin {h : T → T → Option T} : ∀ σ H Q, tE p (eBin h f g) σ H Q → tOp (fun x y H Q => ∃ a b t, Rep p H a x ∧ Rep p H b y ∧ NewD p H ∧ h a b = some t ∧ ∀ v H', Same H H' → Rep p H' t v → Q v H') (tE p f) (tE p g) σ H Q :=
  fun σ H Q ⟨env, dr, t, dr', hR, hO, hf, q⟩ => by
    obtain ⟨x, dr1, y, h1, h2, h3⟩ := bin_in hf
    exact ⟨env, dr, x, dr1, hR, hO, h1, fun v H1 e1 r1 o1 => ⟨env, dr1, y, dr', hR.ext e1, o1, h2, fun w H2 e2 r2 o2 => ⟨x, y, t, r1.ext e2, r2, o2.new, h3, fun u H3 s3 r3 => q u H3 (e1.trans (e2.trans (.same s3))) r3 (o2.same s3)⟩⟩⟩
theorem se_bin {op : Operator} {h : T → T → Option T} (ho : OpT p X (binaryOp op) h) (ha : SE p X a f) (hb : SE p X b g) : SE p X (.BinOp a op b pos) (eBin h f g) := pe_imp (pe_op ho ha hb) tOp_bin
theorem se_cmp {op : CmpOp} {h : T → T → Option T} (ho : OpT p X (compareOp op) h) (ha : SE p X a f) (hb : SE p X b g) (hm : behindInMarks op b = false := by first | exact nomark _ | rfl) : SE p X (.Compare a [op] [b] pos) (eBin h f g) := pe_imp (pe_cmpR ho ha hb hm) tOp_bin
/-- a value as a test -/
def tB (f : EF) : TF := fun env dr => match f env dr with
  | some (.bl b, dr1) => some (b, dr1)
  | _ => none
theorem tB_in {env : Env} {dr dr' : List T} {b : Bool} (hf : tB f env dr = some (b, dr')) : f env dr = some (.bl b, dr') := by
  unfold tB at hf
  split at hf
  · rename_i h; cases hf; exact h
  · cases hf
theorem sb_cmp {op : CmpOp} {h : T → T → Option T} (ho : OpT p X (compareOp op) h) (ha : SE p X a f) (hb : SE p X b g) (hm : behindInMarks op b = false := by first | exact nomark _ | rfl) : SB p X (.Compare a [op] [b] pos) (tB (eBin h f g)) :=
  pt_imp (pt_cmpR ho ha hb hm) fun σ H Q ⟨env, dr, t, dr', hR, hO, hf, q⟩ => tOp_bin σ H _ ⟨env, dr, .bl t, dr', hR, hO, tB_in hf, fun v H' e r o => ⟨t, r, q H' e o⟩⟩
theorem sb_val (ha : SE p X a f) (he : ∀ whole, isTrue a X.env whole = (do let v ← whole; standAt a.pos; holding [v] (truthy v)) := by intro _; rfl) : SB p X a (tB f) :=
  pt_imp (pt_val ha he) fun σ H Q ⟨env, dr, t, dr', hR, hO, hf, q⟩ => ⟨env, dr, .bl t, dr', hR, hO, tB_in hf, fun v H' e r o => ⟨t, r, q H' e o⟩⟩
def eChain (h h' : T → T → Option T) (f g k : EF) : EF := fun env dr => match f env dr with
  | none => none
  | some (x, dr1) => match g env dr1 with
    | none => none
    | some (y, dr2) => match h x y with
      | some (.bl true) => (match k env dr2 with
        | none => none
        | some (z, dr3) => match h' y z with
          | none => none
          | some t => some (t, dr3))
      | some (.bl false) => some (.bl false, dr2)
      | _ => none
theorem tChain_in {h h' : T → T → Option T} {k : EF} : ∀ σ H Q, tE p (eChain h h' f g k) σ H Q → tChain (fun x y H Q => ∃ a b t, Rep p H a x ∧ Rep p H b y ∧ NewD p H ∧ h a b = some t ∧ ∀ v H', Same H H' → Rep p H' t v → Q v H') (fun x y H Q => ∃ a b t, Rep p H a x ∧ Rep p H b y ∧ NewD p H ∧ h' a b = some t ∧ ∀ v H', Same H H' → Rep p H' t v → Q v H') (tE p f) (tE p g) (tE p k) σ H Q :=
  fun σ H Q ⟨env, dr, t, dr', hR, hO, hf, q⟩ => by
    unfold eChain at hf
    cases h1 : f env dr with
    | none => rw [h1] at hf; cases hf
    | some z =>
      obtain ⟨x, dr1⟩ := z
      rw [h1] at hf
      dsimp only at hf
      cases h2 : g env dr1 with
      | none => rw [h2] at hf; cases hf
      | some z =>
        obtain ⟨y, dr2⟩ := z
        rw [h2] at hf
        dsimp only at hf
        refine ⟨env, dr, x, dr1, hR, hO, h1, fun v H1 e1 r1 o1 => ⟨env, dr1, y, dr2, hR.ext e1, o1, h2, fun w H2 e2 r2 o2 => ?_⟩⟩
        cases h3 : h x y with
        | none => rw [h3] at hf; cases hf
        | some b =>
          rw [h3] at hf
          cases b with
          | bl b =>
            refine ⟨x, y, .bl b, r1.ext e2, r2, o2.new, h3, fun u H3 s3 r3 => ⟨b, r3, ?_⟩⟩
            cases b with
            | false =>
              cases hf
              exact q _ H3 (e1.trans (e2.trans (.same s3))) rfl (o2.same s3)
            | true =>
              dsimp only at hf
              cases h4 : k env dr2 with
              | none => rw [h4] at hf; cases hf
              | some z =>
                obtain ⟨z, dr3⟩ := z
                rw [h4] at hf
                dsimp only at hf
                cases h5 : h' y z with
                | none => rw [h5] at hf; cases hf
                | some t2 =>
                  rw [h5] at hf
                  cases hf
                  exact ⟨env, dr2, z, _, (hR.ext e1).ext (e2.trans (.same s3)), o2.same s3, h4, fun v4 H4 e4 r4 o4 => ⟨y, z, _, (r2.ext (.same s3)).ext e4, r4, o4.new, h5, fun v5 H5 s5 r5 => q _ _ (e1.trans (e2.trans ((Ext.same s3).trans (e4.trans (.same s5))))) r5 (o4.same s5)⟩⟩
          | _ => cases hf
theorem se_chain {o1 o2 : CmpOp} {h h' : T → T → Option T} {k : EF} (ho : OpT p X (compareOp o1) h) (ho' : OpT p X (compareOp o2) h') (ha : SE p X a f) (hb : SE p X b g) (hc : SE p X c k)
    (hm : lastMarks [o1, o2] [b, c] = false := by with_unfolding_all rfl) : SE p X (.Compare a [o1, o2] [b, c] pos) (eChain h h' f g k) := pe_imp (pe_chain ho ho' ha hb hc hm) tChain_in
theorem sb_chain {o1 o2 : CmpOp} {h h' : T → T → Option T} {k : EF} (ho : OpT p X (compareOp o1) h) (ho' : OpT p X (compareOp o2) h') (ha : SE p X a f) (hb : SE p X b g) (hc : SE p X c k)
    (hm : lastMarks [o1, o2] [b, c] = false := by with_unfolding_all rfl) : SB p X (.Compare a [o1, o2] [b, c] pos) (tB (eChain h h' f g k)) := pt_imp (pt_chain ho ho' ha hb hc hm) fun σ H Q ⟨env, dr, t, dr', hR, hO, hf, q⟩ => tChain_in σ H _ ⟨env, dr, .bl t, dr', hR, hO, tB_in hf, fun v H' e r o => ⟨t, r, q H' e o⟩⟩

/-! ### and, or, not, if -/
def eAnd (f g : EF) : EF := fun env dr => match f env dr with
  | some (.bl true, dr1) => g env dr1
  | some (.bl false, dr1) => some (.bl false, dr1)
  | _ => none
def eOr (f g : EF) : EF := fun env dr => match f env dr with
  | some (.bl false, dr1) => g env dr1
  | some (.bl true, dr1) => some (.bl true, dr1)
  | _ => none
def eNot (f : EF) : EF := fun env dr => match f env dr with
  | some (.bl b, dr1) => some (.bl (!b), dr1)
  | _ => none
theorem se_one {op} (ha : SE p X a f) : SE p X (.BoolOp op [a] pos) f := pe_one ha
theorem se_and {rest : List Expr} (ha : SE p X a f) (hb : SE p X (.BoolOp .And (b :: rest) pos) g) : SE p X (.BoolOp .And (a :: b :: rest) pos) (eAnd f g) := pe_imp (pe_and ha hb) fun σ H Q ⟨env, dr, t, dr', hR, hO, hf, q⟩ => by
  unfold eAnd at hf
  split at hf
  · rename_i dr1 h1
    exact ⟨env, dr, _, dr1, hR, hO, h1, fun v H1 e1 r1 o1 => ⟨true, r1, by rw [if_pos rfl]; exact ⟨env, dr1, t, dr', hR.ext e1, o1, hf, fun v2 H2 e2 r2 o2 => q _ _ (e1.trans e2) r2 o2⟩⟩⟩
  · rename_i dr1 h1
    cases hf
    exact ⟨env, dr, _, _, hR, hO, h1, fun v H1 e1 r1 o1 => ⟨false, r1, by rw [if_neg Bool.false_ne_true]; exact q _ _ e1 rfl o1⟩⟩
  · cases hf
theorem se_or {rest : List Expr} (ha : SE p X a f) (hb : SE p X (.BoolOp .Or (b :: rest) pos) g) : SE p X (.BoolOp .Or (a :: b :: rest) pos) (eOr f g) := pe_imp (pe_or ha hb) fun σ H Q ⟨env, dr, t, dr', hR, hO, hf, q⟩ => by
  unfold eOr at hf
  split at hf
  · rename_i dr1 h1
    exact ⟨env, dr, _, dr1, hR, hO, h1, fun v H1 e1 r1 o1 => ⟨false, r1, by rw [if_neg Bool.false_ne_true]; exact ⟨env, dr1, t, dr', hR.ext e1, o1, hf, fun v2 H2 e2 r2 o2 => q _ _ (e1.trans e2) r2 o2⟩⟩⟩
  · rename_i dr1 h1
    cases hf
    exact ⟨env, dr, _, _, hR, hO, h1, fun v H1 e1 r1 o1 => ⟨true, r1, by rw [if_pos rfl]; exact q _ _ e1 rfl o1⟩⟩
  · cases hf
theorem se_not (ha : SE p X a f) : SE p X (.UnaryOp .Not a pos) (eNot f) := pe_imp (pe_not ha) fun σ H Q ⟨env, dr, t, dr', hR, hO, hf, q⟩ => by
  unfold eNot at hf
  split at hf
  · rename_i b dr1 h1
    cases hf
    exact ⟨env, dr, _, _, hR, hO, h1, fun v H1 e1 r1 o1 => ⟨b, r1, q _ _ e1 rfl o1⟩⟩
  · cases hf
def bAnd (f g : TF) : TF := fun env dr => match f env dr with
  | some (true, dr1) => g env dr1
  | some (false, dr1) => some (false, dr1)
  | none => none
def bOr (f g : TF) : TF := fun env dr => match f env dr with
  | some (false, dr1) => g env dr1
  | some (true, dr1) => some (true, dr1)
  | none => none
def bNot (f : TF) : TF := fun env dr => match f env dr with
  | some (b, dr1) => some (!b, dr1)
  | none => none
abbrev SW (p : Pm) (X : Cx) (e : Expr) (f : TF) : Prop := PW X e (tT p f)
theorem pw_imp {t t' : TT} (h : PW X e t) (hi : ∀ σ H Q, t' σ H Q → t σ H Q) : PW X e t' := ⟨fun wh pins s σ H Q I q => h.run wh pins s σ H Q I (hi σ H Q q)⟩
theorem sw_and1 {f : TF} (ha : SB p X a f) : SW p X (.BoolOp .And [a] pos) f := pw_and1 ha
theorem sw_or1 {f : TF} (ha : SB p X a f) : SW p X (.BoolOp .Or [a] pos) f := pw_or1 ha
theorem sw_and {rest : List Expr} {f g : TF} (ha : SB p X a f) (hb : SW p X (.BoolOp .And (b :: rest) pos) g) : SW p X (.BoolOp .And (a :: b :: rest) pos) (bAnd f g) := pw_imp (pw_and ha hb) fun σ H Q ⟨env, dr, t, dr', hR, hO, hf, q⟩ => by
  unfold bAnd at hf
  split at hf
  · rename_i dr1 h1
    exact ⟨env, dr, _, dr1, hR, hO, h1, fun H1 e1 o1 => by refine iteT ?_; exact ⟨env, dr1, t, dr', hR.ext e1, o1, hf, fun H2 e2 o2 => q _ (e1.trans e2) o2⟩⟩
  · rename_i dr1 h1
    cases hf
    exact ⟨env, dr, _, _, hR, hO, h1, fun H1 e1 o1 => by refine iteF ?_; exact q _ e1 o1⟩
  · cases hf
theorem sw_or {rest : List Expr} {f g : TF} (ha : SB p X a f) (hb : SW p X (.BoolOp .Or (b :: rest) pos) g) : SW p X (.BoolOp .Or (a :: b :: rest) pos) (bOr f g) := pw_imp (pw_or ha hb) fun σ H Q ⟨env, dr, t, dr', hR, hO, hf, q⟩ => by
  unfold bOr at hf
  split at hf
  · rename_i dr1 h1
    exact ⟨env, dr, _, dr1, hR, hO, h1, fun H1 e1 o1 => by refine iteF ?_; exact ⟨env, dr1, t, dr', hR.ext e1, o1, hf, fun H2 e2 o2 => q _ (e1.trans e2) o2⟩⟩
  · rename_i dr1 h1
    cases hf
    exact ⟨env, dr, _, _, hR, hO, h1, fun H1 e1 o1 => by refine iteT ?_; exact q _ e1 o1⟩
  · cases hf
theorem sb_w {f : TF} (h : SW p X e f) : SB p X e f := PW.pt h
theorem sb_not {f : TF} (ha : SB p X a f) : SB p X (.UnaryOp .Not a pos) (bNot f) := pt_imp (pt_not ha) fun σ H Q ⟨env, dr, t, dr', hR, hO, hf, q⟩ => by
  unfold bNot at hf
  split at hf
  · rename_i b dr1 h1
    cases hf
    exact ⟨env, dr, _, _, hR, hO, h1, fun H1 e1 o1 => q _ e1 o1⟩
  · cases hf
def eIf (u : TF) (f g : EF) : EF := fun env dr => match u env dr with
  | some (true, dr1) => f env dr1
  | some (false, dr1) => g env dr1
  | none => none
theorem se_if (hu : SB p X c u) (ha : SE p X a f) (hb : SE p X b g) : SE p X (.IfExp c a b pos) (eIf u f g) := pe_imp (pe_ifExp hu ha hb) fun σ H Q ⟨env, dr, t, dr', hR, hO, hf, q⟩ => by
  unfold eIf at hf
  split at hf
  · rename_i dr1 h1
    exact ⟨env, dr, _, dr1, hR, hO, h1, fun H1 e1 o1 => by refine iteT ?_; exact ⟨env, dr1, t, dr', hR.ext e1, o1, hf, fun v H2 e2 r2 o2 => q _ _ (e1.trans e2) r2 o2⟩⟩
  · rename_i dr1 h1
    exact ⟨env, dr, _, dr1, hR, hO, h1, fun H1 e1 o1 => by refine iteF ?_; exact ⟨env, dr1, t, dr', hR.ext e1, o1, hf, fun v H2 e2 r2 o2 => q _ _ (e1.trans e2) r2 o2⟩⟩
  · cases hf
end
end FL
set_option linter.all false
set_option maxRecDepth 100000
set_option maxHeartbeats 2000000
namespace FL
open PySem PySem.Spec PyProof.Rows L2 GxR GA

theorem str_ext {x y : Str} (h : x.cps.toList = y.cps.toList) : x = y := by
  obtain ⟨a⟩ := x
  obtain ⟨b⟩ := y
  have : a = b := Array.ext' h
  rw [this]
theorem str_of {x : Str} {c : Nat} (h : x.cps.toList = [c]) : x = ⟨#[c]⟩ := str_ext h
theorem str_len (x : Str) : x.length = x.cps.toList.length := by
  show x.cps.size = _
  simp
theorem str_app (x y : Str) : (x ++ y).cps.toList = x.cps.toList ++ y.cps.toList := by
  show (x.cps ++ y.cps).toList = _
  simp

section
variable {p : Pm} {X : Cx} (hK : p.K = X.K)

/-! ### arithmetic -/
def addT : T → T → Option T
  | .int i, .int j => some (.int (i + j))
  | .str x, .str y => if x.length + y.length ≤ lim then some (.str (x ++ y)) else none
  | .lst x, .lst y => if x.length + y.length ≤ lim then some (.lst (x ++ y)) else none
  | .tup x, .tup y => if x.length + y.length ≤ lim then some (.tup (x ++ y)) else none
  | _, _ => none
def addI : T → T → Option T
  | .int i, .int j => some (.int (i + j))
  | _, _ => none
def addS : T → T → Option T
  | .str x, .str y => if x.length + y.length ≤ lim then some (.str (x ++ y)) else none
  | _, _ => none
def addL : T → T → Option T
  | .lst x, .lst y => if x.length + y.length ≤ lim then some (.lst (x ++ y)) else none
  | _, _ => none
def addU : T → T → Option T
  | .tup x, .tup y => if x.length + y.length ≤ lim then some (.tup (x ++ y)) else none
  | _, _ => none
theorem ot_imp {o : Value → Value → Sem Value} {h h' : T → T → Option T} (a : OpT p X o h) (i : ∀ x y t, h' x y = some t → h x y = some t) : OpT p X o h' :=
  opr_imp a fun x y H Q ⟨c, d, t, r1, r2, nd, hf, q⟩ => ⟨c, d, t, r1, r2, nd, i _ _ _ hf, q⟩
theorem ot_addI : OpT p X (binaryOp .Add) addI := opr_imp op_add fun x y H Q ⟨a, b, t, r1, r2, _, hf, q⟩ => by
  cases a <;> cases b <;> try (cases hf; done)
  cases hf
  exact ⟨_, _, r1, r2, q _ H (Same.refl H) rfl⟩
theorem ot_addS : OpT p X (binaryOp .Add) addS := opr_imp op_add_str fun x y H Q ⟨a, b, t, r1, r2, _, hf, q⟩ => by
  cases a <;> cases b <;> try (cases hf; done)
  obtain ⟨x, rfl, e1⟩ := r1
  obtain ⟨y, rfl, e2⟩ := r2
  unfold addS at hf
  dsimp only at hf
  split at hf
  · rename_i hz
    cases hf
    refine ⟨x, y, rfl, rfl, lim_ok (by rw [str_len, str_len, e1, e2]; exact hz), q _ H (Same.refl H) ⟨_, rfl, ?_⟩⟩
    rw [str_app, e1, e2]
  · cases hf
theorem ot_addL : OpT p X (binaryOp .Add) addL := opr_imp op_cat fun x y H Q ⟨a, b, t, r1, r2, nd, hf, q⟩ => by
  cases a <;> cases b <;> try (cases hf; done)
  obtain ⟨a1, v1, rfl, h1, n1, s1⟩ := r1
  obtain ⟨a2, v2, rfl, h2, n2, s2⟩ := r2
  unfold addL at hf
  dsimp only at hf
  split at hf
  · rename_i hz
    cases hf
    exact ⟨a1, a2, v1, v2, rfl, rfl, h1, h2, lim_ok (by rw [s1.length, s2.length]; exact hz), fun b hb => q _ _ (same_new hb _) (rep_lst (s1.append s2) hb (nd b hb))⟩
  · cases hf
include hK in
theorem ot_addU : OpT p X (binaryOp .Add) addU := opr_imp op_catA fun x y H Q ⟨a, b, t, r1, r2, nd, hf, q⟩ => by
  cases a <;> cases b <;> try (cases hf; done)
  obtain ⟨a1, v1, rfl, h1, s1⟩ := r1
  obtain ⟨a2, v2, rfl, h2, s2⟩ := r2
  unfold addU at hf
  dsimp only at hf
  split at hf
  · rename_i hz
    cases hf
    refine ⟨a1, a2, v1, v2, rfl, rfl, hK ▸ h1, hK ▸ h2, lim_ok (by rw [s1.length, s2.length]; exact hz), fun e => ?_, fun e1 e2 => ?_, fun e1 e2 b hb => q _ _ (same_new hb _) (rep_tup (s1.append s2) hb)⟩
    · subst e
      have z := s1.length
      refine q _ H (Same.refl H) ⟨a2, v2, rfl, h2, ?_⟩
      rw [List.length_eq_zero_iff.mp z.symm]
      exact s2
    · subst e2
      have z := s2.length
      refine q _ H (Same.refl H) ⟨a1, v1, rfl, h1, ?_⟩
      rw [List.length_eq_zero_iff.mp z.symm, List.append_nil]
      exact s1
  · cases hf
include hK in
theorem ot_add : OpT p X (binaryOp .Add) addT := ot_imp (OpT.or ot_addI (OpT.or ot_addS (OpT.or ot_addL (ot_addU hK)))) fun x y t h => by
  cases x <;> cases y <;> try (cases h; done)
  · exact h
  · unfold addT at h
    dsimp only at h ⊢
    unfold addI addS
    dsimp only
    rw [h]
  · unfold addT at h
    dsimp only at h ⊢
    unfold addI addS addL addU
    dsimp only
    rw [h]
  · unfold addT at h
    dsimp only at h ⊢
    unfold addI addS addL
    dsimp only
    rw [h]
def subT : T → T → Option T
  | .int i, .int j => some (.int (i - j))
  | _, _ => none
theorem ot_sub : OpT p X (binaryOp .Sub) subT := opr_imp op_sub fun x y H Q ⟨a, b, t, r1, r2, _, hf, q⟩ => by
  cases a <;> cases b <;> try (cases hf; done)
  cases hf
  exact ⟨_, _, r1, r2, q _ H (Same.refl H) rfl⟩
def modT : T → T → Option T
  | .int i, .int j => if 0 < j then some (.int (i % j)) else none
  | _, _ => none
theorem ot_mod : OpT p X (binaryOp .Mod) modT := opr_imp op_mod fun x y H Q ⟨a, b, t, r1, r2, _, hf, q⟩ => by
  cases a <;> cases b <;> try (cases hf; done)
  unfold modT at hf
  dsimp only at hf
  split at hf
  · rename_i hz
    cases hf
    exact ⟨_, _, r1, r2, hz, q _ H (Same.refl H) rfl⟩
  · cases hf
def divT : T → T → Option T
  | .int i, .int j => if 0 < j ∧ j.natAbs.log2 < 9000 then some (.int (i / j)) else none
  | _, _ => none
theorem ot_div : OpT p X (binaryOp .FloorDiv) divT := opr_imp op_fdivW fun x y H Q ⟨a, b, t, r1, r2, _, hf, q⟩ => by
  cases a <;> cases b <;> try (cases hf; done)
  unfold divT at hf
  dsimp only at hf
  split at hf
  · rename_i hz
    cases hf
    exact ⟨_, _, r1, r2, hz, q _ H (Same.refl H) rfl⟩
  · cases hf
def powT : T → T → Option T
  | .int i, .int j => if 0 ≤ j ∧ j ≤ 1000 ∧ i.natAbs < 2 ^ 64 then some (.int (i ^ j.toNat)) else none
  | _, _ => none
theorem ot_pow : OpT p X (binaryOp .Pow) powT := opr_imp op_pow fun x y H Q ⟨a, b, t, r1, r2, _, hf, q⟩ => by
  cases a <;> cases b <;> try (cases hf; done)
  unfold powT at hf
  dsimp only at hf
  split at hf
  · rename_i hz
    cases hf
    exact ⟨_, _, r1, r2, ⟨hz.1, by omega, hz.2.2⟩, q _ H (Same.refl H) rfl⟩
  · cases hf
def repL (n : Nat) (xs : List α) : List α := (List.replicate n xs).flatten
def mulI : T → T → Option T
  | .int i, .int j => if i.natAbs.log2 + j.natAbs.log2 < 1000000 then some (.int (i * j)) else none
  | _, _ => none
def mulU : T → T → Option T
  | .tup x, .int k => if x ≠ [] ∧ 2 ≤ k ∧ k ≤ 1000 ∧ x.length ≤ 1000 then some (.tup (repL k.toNat x)) else none
  | _, _ => none
def mulS : T → T → Option T
  | .str x, .int k => if x.length ≤ 1000 ∧ k ≤ 1000 ∧ -1000 ≤ k then some (.str (repL k.toNat x)) else none
  | _, _ => none
instance (x : List T) : Decidable (x ≠ []) := by cases x <;> first | exact isFalse (fun h => h rfl) | exact isTrue (fun h => nomatch h)
theorem ot_mulI : OpT p X (binaryOp .Mult) mulI := opr_imp op_mulW fun x y H Q ⟨a, b, t, r1, r2, _, hf, q⟩ => by
  cases a <;> cases b <;> try (cases hf; done)
  unfold mulI at hf
  dsimp only at hf
  split at hf
  · rename_i hz
    cases hf
    exact ⟨_, _, r1, r2, hz, q _ H (Same.refl H) rfl⟩
  · cases hf
theorem Reps.rep {H : Hp} {ts : List T} {vs : List V} (r : Reps p H ts vs) : ∀ n : Nat, Reps p H (repL n ts) (repL n vs)
  | 0 => rfl
  | n + 1 => by
    unfold repL
    rw [List.replicate_succ, List.flatten_cons, List.replicate_succ, List.flatten_cons]
    exact r.append (Reps.rep r n)
include hK in
theorem ot_mulU : OpT p X (binaryOp .Mult) mulU := opr_imp op_repT fun x y H Q ⟨a, b, t, r1, r2, nd, hf, q⟩ => by
  cases a <;> cases b <;> try (cases hf; done)
  obtain ⟨a1, v1, rfl, h1, s1⟩ := r1
  unfold mulU at hf
  dsimp only at hf
  split at hf
  · rename_i hz
    cases hf
    obtain ⟨z1, z2, z3, z4⟩ := hz
    refine ⟨a1, _, v1, rfl, r2, hK ▸ h1, fun e => ?_, z2, z3, by rw [s1.length]; exact z4, fun b hb => q _ _ (same_new hb _) (rep_tup (s1.rep _) hb)⟩
    have := s1.length
    rw [e] at this
    exact z1 (List.length_eq_zero_iff.mp this.symm)
  · cases hf
theorem rep_txt (x : Str) : ∀ (n : Nat) (acc : Array Nat), ((List.replicate n x.cps).foldl (· ++ ·) acc).toList = acc.toList ++ repL n x.cps.toList
  | 0, acc => by simp [repL]
  | n + 1, acc => by
    rw [List.replicate_succ, List.foldl_cons, rep_txt x n]
    unfold repL
    rw [List.replicate_succ, List.flatten_cons]
    simp
theorem mul_txt (x : Str) (k : Int) : (Txt.mul x k).cps.toList = repL k.toNat x.cps.toList := by
  unfold Txt.mul
  by_cases h : k < 1
  · rw [if_pos h]
    have : k.toNat = 0 := by omega
    rw [this]
    rfl
  · rw [if_neg h]
    by_cases h2 : (k == 1 || x.length == 0) = true
    · rw [if_pos h2]
      simp only [Bool.or_eq_true, beq_iff_eq] at h2
      rcases h2 with h2 | h2
      · subst h2
        simp [repL]
      · have e : x.cps.toList = [] := List.length_eq_zero_iff.mp (by rw [← str_len]; exact h2)
        rw [e]
        unfold repL
        simp
    · rw [if_neg h2]
      have := rep_txt x k.toNat #[]
      simpa using this
theorem ot_mulS : OpT p X (binaryOp .Mult) mulS := by
  intro pins s σ H x y v u Q I rx ry ⟨a, b, t, r1, r2, nd, hf, q⟩
  cases a <;> cases b <;> try (cases hf; done)
  obtain ⟨x, rfl, e1⟩ := r1
  have r2 : y = _ := r2
  subst r2
  obtain ⟨t1, rfl⟩ := rx
  obtain ⟨t2, rfl⟩ := ry
  unfold mulS at hf
  dsimp only at hf
  split at hf
  · rename_i hz
    cases hf
    obtain ⟨z1, z2, z3⟩ := hz
    rename_i k
    have hx : x.length ≤ 1000 := by rw [str_len, e1]; exact z1
    refine SB.mul ⟨?_, fun h1 h2 => ?_, fun h1 h2 => ?_⟩ fun t' kk => ?_
    · simp only [Bool.or_eq_false_iff, decide_eq_false_iff_not]
      omega
    · have h3 : (x.length : Int) * k ≤ 1000 * 1000 := Int.mul_le_mul (by omega) (by omega) (by omega) (by omega)
      have h4 : (x.length : Int) ≤ (2 ^ 63 - 1) / k := Int.le_ediv_of_mul_le (by omega) (by omega)
      omega
    · have h3 : x.length * k.toNat ≤ 1000 * 1000 := Nat.mul_le_mul hx (by omega)
      show decide (_ > sizeLine) = false
      rw [decide_eq_false_iff_not, Nat.not_lt]
      exact Nat.le_trans h3 (by decide)
    · exact ⟨.str _, H, I.tok _, ⟨_, rfl⟩, q _ H (Same.refl H) ⟨_, rfl, by rw [mul_txt, e1]⟩⟩
  · cases hf
def mulT (x y : T) : Option T := match mulI x y with
  | some t => some t
  | none => match mulU x y with
    | some t => some t
    | none => mulS x y
include hK in
theorem ot_mul : OpT p X (binaryOp .Mult) mulT := OpT.or ot_mulI (OpT.or (ot_mulU hK) ot_mulS)
end
end FL
set_option linter.all false
set_option maxRecDepth 100000
set_option maxHeartbeats 2000000
namespace FL
open PySem PySem.Spec PyProof.Rows L2 GxR GA

section
variable {p : Pm} {X : Cx} (hK : p.K = X.K)

/-! ### comparisons -/
/-- == of scalars, where the rule answers -/
def eqT : T → T → Option Bool
  | .non, .non => some true
  | .non, .int _ => some false
  | .int _, .non => some false
  | .non, .bl _ => some false
  | .bl _, .non => some false
  | .non, .str _ => some false
  | .str _, .non => some false
  | .int i, .int j => some (decide (i = j))
  | .bl i, .bl j => some (decide (i = j))
  | .str i, .str j => some (decide (i = j))
  | .int _, .str _ => some false
  | .str _, .int _ => some false
  | .bl _, .str _ => some false
  | .str _, .bl _ => some false
  | _, _ => none
def cEq (x y : T) : Option T := (eqT x y).map .bl
def cNe (x y : T) : Option T := (eqT x y).map fun b => .bl (!b)
theorem eqT_ok {H : Hp} {a b : T} {x y : V} {c : Bool} (r1 : Rep p H a x) (r2 : Rep p H b y) (h : eqT a b = some c) : scal x y = true ∧ decide (x = y) = c := by
  cases a <;> cases b <;> try (cases h; done)
  all_goals cases h
  all_goals first
    | (have r1 : x = _ := r1; have r2 : y = _ := r2; subst r1; subst r2; refine ⟨rfl, ?_⟩; simp; done)
    | (obtain ⟨x', e1, _⟩ := r1; have r2 : y = _ := r2; subst e1; subst r2; exact ⟨rfl, by simp⟩)
    | (obtain ⟨y', e1, _⟩ := r2; have r1 : x = _ := r1; subst e1; subst r1; exact ⟨rfl, by simp⟩)
    | (obtain ⟨x', e1, h1⟩ := r1
       obtain ⟨y', e2, h2⟩ := r2
       subst e1; subst e2; subst h1; subst h2
       refine ⟨rfl, ?_⟩
       rw [Bool.eq_iff_iff, decide_eq_true_iff, decide_eq_true_iff]
       exact ⟨fun z => by cases z; rfl, fun z => by rw [str_ext z]⟩)
theorem ot_eq : OpT p X (compareOp .Eq) cEq := opr_imp op_eq fun x y H Q ⟨a, b, t, r1, r2, _, hf, q⟩ => by
  unfold cEq at hf
  cases h : eqT a b with
  | none => rw [h] at hf; cases hf
  | some c =>
    rw [h] at hf
    cases hf
    obtain ⟨s, e⟩ := eqT_ok r1 r2 h
    exact ⟨s, q _ H (Same.refl H) (by rw [e]; rfl)⟩
theorem ot_ne : OpT p X (compareOp .NotEq) cNe := opr_imp op_ne fun x y H Q ⟨a, b, t, r1, r2, _, hf, q⟩ => by
  unfold cNe at hf
  cases h : eqT a b with
  | none => rw [h] at hf; cases hf
  | some c =>
    rw [h] at hf
    cases hf
    obtain ⟨s, e⟩ := eqT_ok r1 r2 h
    exact ⟨s, q _ H (Same.refl H) (by rw [e]; rfl)⟩
def cLe : T → T → Option T
  | .int i, .int j => some (.bl (decide (i ≤ j)))
  | _, _ => none
def cGe : T → T → Option T
  | .int i, .int j => some (.bl (decide (j ≤ i)))
  | _, _ => none
def cGt : T → T → Option T
  | .int i, .int j => some (.bl (decide (j < i)))
  | _, _ => none
def cLtI : T → T → Option T
  | .int i, .int j => some (.bl (decide (i < j)))
  | _, _ => none
def cLtS : T → T → Option T
  | .str i, .str j => some (.bl (decide (i < j)))
  | _, _ => none
theorem ot_le : OpT p X (compareOp .LtE) cLe := opr_imp op_le fun x y H Q ⟨a, b, t, r1, r2, _, hf, q⟩ => by
  cases a <;> cases b <;> try (cases hf; done)
  cases hf
  exact ⟨_, _, r1, r2, q _ H (Same.refl H) rfl⟩
theorem ot_ge : OpT p X (compareOp .GtE) cGe := opr_imp op_ge fun x y H Q ⟨a, b, t, r1, r2, _, hf, q⟩ => by
  cases a <;> cases b <;> try (cases hf; done)
  cases hf
  exact ⟨_, _, r1, r2, q _ H (Same.refl H) rfl⟩
theorem ot_gt : OpT p X (compareOp .Gt) cGt := opr_imp op_gt fun x y H Q ⟨a, b, t, r1, r2, _, hf, q⟩ => by
  cases a <;> cases b <;> try (cases hf; done)
  cases hf
  exact ⟨_, _, r1, r2, q _ H (Same.refl H) rfl⟩
theorem ot_ltI : OpT p X (compareOp .Lt) cLtI := opr_imp op_lt fun x y H Q ⟨a, b, t, r1, r2, _, hf, q⟩ => by
  cases a <;> cases b <;> try (cases hf; done)
  cases hf
  exact ⟨_, _, r1, r2, q _ H (Same.refl H) rfl⟩
theorem ot_ltS : OpT p X (compareOp .Lt) cLtS := opr_imp op_lt_str fun x y H Q ⟨a, b, t, r1, r2, _, hf, q⟩ => by
  cases a <;> cases b <;> try (cases hf; done)
  cases hf
  obtain ⟨x, rfl, e1⟩ := r1
  obtain ⟨y, rfl, e2⟩ := r2
  subst e1
  subst e2
  exact ⟨_, _, rfl, rfl, q _ H (Same.refl H) rfl⟩
def cLt (x y : T) : Option T := match cLtI x y with
  | some t => some t
  | none => cLtS x y
theorem ot_lt : OpT p X (compareOp .Lt) cLt := OpT.or ot_ltI ot_ltS
def cIs : T → T → Option T
  | .non, .non => some (.bl true)
  | _, .non => some (.bl false)
  | _, _ => none
def cIsNot : T → T → Option T
  | .non, .non => some (.bl false)
  | _, .non => some (.bl true)
  | _, _ => none
def isNon : T → Bool
  | .non => true
  | _ => false
theorem isN {H : Hp} {a : T} {x : V} (r : Rep p H a x) : decide (x = .non) = isNon a := by
  cases a with
  | non => rw [show x = _ from r]; rfl
  | bl b => rw [show x = _ from r]; rfl
  | int b => rw [show x = _ from r]; rfl
  | str b => obtain ⟨z, rfl, _⟩ := r; rfl
  | tup b => obtain ⟨z, _, rfl, _⟩ := r; rfl
  | lst b => obtain ⟨z, _, rfl, _⟩ := r; rfl
  | fls b => obtain ⟨z, _, rfl, _⟩ := r; rfl
  | ref => obtain ⟨z, _, rfl⟩ := r; rfl
  | exo C b c => obtain ⟨_, z, _, _, _, rfl, _⟩ := r; rfl
theorem ot_is : OpT p X (compareOp .Is) cIs := opr_imp op_isN fun x y H Q ⟨a, b, t, r1, r2, _, hf, q⟩ => by
  cases b <;> try (cases a <;> cases hf; done)
  refine ⟨r2, ?_⟩
  rw [isN r1]
  cases a <;> cases hf <;> exact q _ H (Same.refl H) rfl
theorem ot_isNot : OpT p X (compareOp .IsNot) cIsNot := opr_imp op_notN fun x y H Q ⟨a, b, t, r1, r2, _, hf, q⟩ => by
  cases b <;> try (cases a <;> cases hf; done)
  refine ⟨r2, ?_⟩
  rw [isN r1]
  cases a <;> cases hf <;> exact q _ H (Same.refl H) rfl
/-- one sign in a text -/
def cInS : T → T → Option T
  | .str [c], .str cs => some (.bl (decide (c ∈ cs)))
  | _, _ => none
def cNinS : T → T → Option T
  | .str [c], .str cs => some (.bl (!decide (c ∈ cs)))
  | _, _ => none
theorem inS_in {h : T → T → Option T} {a b : T} {t : T} {k : Bool → Bool} (hh : h = fun x y => match x, y with | .str [c], .str cs => some (.bl (k (decide (c ∈ cs)))) | _, _ => none) (hf : h a b = some t) : ∃ c cs, a = .str [c] ∧ b = .str cs ∧ t = .bl (k (decide (c ∈ cs))) := by
  subst hh
  dsimp only at hf
  split at hf
  · cases hf
    exact ⟨_, _, rfl, rfl, rfl⟩
  · cases hf
theorem ot_inS : OpT p X (compareOp .In) cInS := opr_imp op_in_sign fun x y H Q ⟨a, b, t, r1, r2, _, hf, q⟩ => by
  obtain ⟨c, cs, rfl, rfl, rfl⟩ := inS_in (k := fun b => b) rfl hf
  obtain ⟨x, rfl, e1⟩ := r1
  obtain ⟨y, rfl, e2⟩ := r2
  refine ⟨c, y, by rw [str_of e1], rfl, ?_⟩
  rw [e2]
  exact q _ H (Same.refl H) rfl
theorem ot_ninS : OpT p X (compareOp .NotIn) cNinS := opr_imp op_notIn_sign fun x y H Q ⟨a, b, t, r1, r2, _, hf, q⟩ => by
  obtain ⟨c, cs, rfl, rfl, rfl⟩ := inS_in (k := fun b => !b) rfl hf
  obtain ⟨x, rfl, e1⟩ := r1
  obtain ⟨y, rfl, e2⟩ := r2
  refine ⟨c, y, by rw [str_of e1], rfl, ?_⟩
  rw [e2]
  exact q _ H (Same.refl H) rfl
def flatT : T → Bool
  | .non => true
  | .bl _ => true
  | .int _ => true
  | .str _ => true
  | _ => false
def eqF : T → T → Bool
  | .non, .non => true
  | .bl a, .bl b => a == b
  | .bl a, .int b => (if a then 1 else 0) == b
  | .int a, .bl b => a == (if b then 1 else 0)
  | .int a, .int b => a == b
  | .str a, .str b => a == b
  | _, _ => false
theorem flat_ok {H : Hp} {a : T} {x : V} (r : Rep p H a x) (f : flatT a = true) : flatV x = true := by
  cases a with
  | non => rw [show x = _ from r]; rfl
  | bl b => rw [show x = _ from r]; rfl
  | int b => rw [show x = _ from r]; rfl
  | str b => obtain ⟨z, rfl, _⟩ := r; rfl
  | tup b => cases f
  | lst b => cases f
  | fls b => cases f
  | ref => cases f
  | exo C b c => cases f
theorem eqF_ok {H : Hp} {a b : T} {x y : V} (r1 : Rep p H a x) (r2 : Rep p H b y) (f1 : flatT a = true) (f2 : flatT b = true) : eqV x y = eqF a b := by
  cases a <;> cases b <;> try (cases f1; done)
  all_goals try (cases f2; done)
  all_goals first
    | (have r1 : x = _ := r1; have r2 : y = _ := r2; subst r1; subst r2; rfl)
    | (obtain ⟨x', e1, _⟩ := r1; have r2 : y = _ := r2; subst e1; subst r2; rfl)
    | (obtain ⟨y', e1, _⟩ := r2; have r1 : x = _ := r1; subst e1; subst r1; rfl)
    | (obtain ⟨x', e1, h1⟩ := r1
       obtain ⟨y', e2, h2⟩ := r2
       subst e1; subst e2; subst h1; subst h2
       show (x' == y') = (x'.cps.toList == y'.cps.toList)
       rw [Bool.eq_iff_iff, beq_iff_eq, beq_iff_eq]
       exact ⟨fun z => by rw [z], str_ext⟩)
theorem in_ok {H : Hp} {a : T} {x : V} (r : Rep p H a x) (f : flatT a = true) : ∀ {ts : List T} {vs : List V}, Reps p H ts vs → ts.all flatT = true → vs.all flatV = true ∧ inV x vs = ts.any fun t => eqF t a
  | [], _, h, _ => by rw [show _ = [] from h]; exact ⟨rfl, rfl⟩
  | t :: ts, _, h, g => by
    obtain ⟨v, w, rfl, h1, h2⟩ := h
    rw [List.all_cons, Bool.and_eq_true] at g
    obtain ⟨i1, i2⟩ := in_ok r f h2 g.2
    refine ⟨by rw [List.all_cons, flat_ok h1 g.1, i1]; rfl, ?_⟩
    unfold inV at i2 ⊢
    rw [List.any_cons, List.any_cons, i2, eqF_ok h1 r g.1 f]
def cInQ (neg : Bool) (x : T) : T → Option T
  | .tup ts => if flatT x = true ∧ ts.all flatT = true then some (.bl (if neg then !(ts.any fun t => eqF t x) else ts.any fun t => eqF t x)) else none
  | .lst ts => if flatT x = true ∧ ts.all flatT = true then some (.bl (if neg then !(ts.any fun t => eqF t x) else ts.any fun t => eqF t x)) else none
  | _ => none
include hK in
theorem ot_inQ' (neg : Bool) {o : CmpOp} (ho : OpR X (compareOp o) (rIn X.K neg)) : OpT p X (compareOp o) (cInQ neg) := opr_imp ho fun x y H Q ⟨a, b, t, r1, r2, _, hf, q⟩ => by
  cases b with
  | tup ts =>
    unfold cInQ at hf
    dsimp only at hf
    split at hf
    · rename_i hz
      cases hf
      obtain ⟨c, vs, rfl, h1, s1⟩ := r2
      obtain ⟨i1, i2⟩ := in_ok r1 hz.1 s1 hz.2
      refine ⟨c, vs, rfl, .inr (hK ▸ h1), flat_ok r1 hz.1, i1, ?_⟩
      rw [i2]
      exact q _ H (Same.refl H) rfl
    · cases hf
  | lst ts =>
    unfold cInQ at hf
    dsimp only at hf
    split at hf
    · rename_i hz
      cases hf
      obtain ⟨c, vs, rfl, h1, n1, s1⟩ := r2
      obtain ⟨i1, i2⟩ := in_ok r1 hz.1 s1 hz.2
      refine ⟨c, vs, rfl, .inl (.inl (.inl h1)), flat_ok r1 hz.1, i1, ?_⟩
      rw [i2]
      exact q _ H (Same.refl H) rfl
    · cases hf
  | _ => cases hf
def cIn (x y : T) : Option T := match cInS x y with
  | some t => some t
  | none => cInQ false x y
def cNin (x y : T) : Option T := match cNinS x y with
  | some t => some t
  | none => cInQ true x y
include hK in
theorem ot_in : OpT p X (compareOp .In) cIn := OpT.or ot_inS (ot_inQ' hK false op_in_seq)
include hK in
theorem ot_nin : OpT p X (compareOp .NotIn) cNin := OpT.or ot_ninS (ot_inQ' hK true op_notIn_seq)
end
end FL
set_option linter.all false
set_option maxRecDepth 100000
set_option maxHeartbeats 2000000
namespace FL
open PySem PySem.Spec PyProof.Rows L2 GxR GA

section
variable {p : Pm} {X : Cx} (hK : p.K = X.K)

/-! ### built-ins by name -/
def CaT (p : Pm) (X : Cx) (f : Value) (h : List T → Option T) : Prop :=
  CallR X f fun xs H Q => ∃ ts t, Reps p H ts xs ∧ NewD p H ∧ h ts = some t ∧ ∀ v H', Same H H' → Rep p H' t v → Q v H'
theorem cr_imp {f : Value} {r r' : List V → Hp → VK → Prop} (h : CallR X f r) (i : ∀ xs H Q, r' xs H Q → r xs H Q) : CallR X f r' := fun pins s σ H xs us Q I rv q => h pins s σ H xs us Q I rv (i _ _ _ q)
theorem CaT.or {f : Value} {h h' : List T → Option T} (a : CaT p X f h) (b : CaT p X f h') : CaT p X f (fun ts => match h ts with | some t => some t | none => h' ts) := by
  intro pins s σ H xs us Q I rv ⟨ts, t, r, nd, hf, q⟩
  dsimp only at hf
  cases hh : h ts with
  | some z => rw [hh] at hf; exact a pins s σ H xs us Q I rv ⟨ts, t, r, nd, by rw [hh]; exact hf, q⟩
  | none => rw [hh] at hf; exact b pins s σ H xs us Q I rv ⟨ts, t, r, nd, hf, q⟩
def eB (h : List T → Option T) (l : AF) : EF := fun env dr => match l env dr with
  | none => none
  | some (ts, dr1) => match h ts with
    | none => none
    | some t => some (t, dr1)
theorem tB_call {h : List T → Option T} {l : AF} : ∀ σ H Q, tE p (eB h l) σ H Q → tCB (fun xs H Q => ∃ ts t, Reps p H ts xs ∧ NewD p H ∧ h ts = some t ∧ ∀ v H', Same H H' → Rep p H' t v → Q v H') (tA p l) σ H Q :=
  fun σ H Q ⟨env, dr, t, dr', hR, hO, hf, q⟩ => by
    unfold eB at hf
    cases h1 : l env dr with
    | none => rw [h1] at hf; cases hf
    | some z =>
      obtain ⟨ts, dr1⟩ := z
      rw [h1] at hf
      dsimp only at hf
      cases h2 : h ts with
      | none => rw [h2] at hf; cases hf
      | some t' =>
        rw [h2] at hf
        cases hf
        exact ⟨env, dr, ts, _, hR, hO, h1, fun vs H1 e1 r1 o1 => ⟨ts, _, r1, o1.new, h2, fun v H2 s2 r2 => q v H2 (e1.trans (.same s2)) r2 (o1.same s2)⟩⟩
theorem se_callB {e : Expr} {es : List Expr} {x : Str} {pp pos : Pos} {id : String} {h : List T → Option T} {l : AF} (hc : CaT p X (.builtin id) h) (hm : X.mg x = none) (hv : bootBuiltins x = some (.builtin id)) (ha : SA p X (e :: es) l) (hg : Gl X x := by rfl)
    (hn : x ≠ "__name__" := by decide) (hdb : (x == ("__debug__" : Str)) = false := by decide)
    (he : starEach (e :: es) X.env = (false, eval e X.env) :: starEach es X.env := by rfl) (hpl : (backTo pos (starEach es X.env)).any (·.1) = false := by rfl) : SE p X (.Call (.Name x pp) (e :: es) [] pos) (eB h l) :=
  pe_imp (pe_callB hc hg hm hv ha hn hdb he hpl) tB_call
theorem se_callT {e : Expr} {es : List Expr} {x : Str} {pp pos : Pos} {id : String} {h : List T → Option T} {l : AF} (hc : CaT p X (.type id) h) (hm : X.mg x = none) (hv : bootBuiltins x = some (.type id)) (ha : SA p X (e :: es) l) (hg : Gl X x := by rfl)
    (hn : x ≠ "__name__" := by decide) (hdb : (x == ("__debug__" : Str)) = false := by decide)
    (he : starEach (e :: es) X.env = (false, eval e X.env) :: starEach es X.env := by rfl) (hpl : (backTo pos (starEach es X.env)).any (·.1) = false := by rfl) : SE p X (.Call (.Name x pp) (e :: es) [] pos) (eB h l) :=
  pe_imp (pe_callTy hc hg hm hv ha hn hdb he hpl) tB_call

/-- a sequence's items as it is read -/
def seqT : T → Option (List T)
  | .tup ts => some ts
  | .lst ts => some ts
  | .fls ts => some ts
  | _ => none
theorem seq_ok {H : Hp} {a : T} {x : V} {ts : List T} (r : Rep p H a x) (h : seqT a = some ts) : ∃ c vs, x = .ref c ∧ (SqL p.K H c vs ∨ SqT p.K H c vs) ∧ Reps p H ts vs := by
  cases a <;> cases h
  · obtain ⟨c, vs, rfl, h1, s1⟩ := r
    exact ⟨c, vs, rfl, .inr h1, s1⟩
  · obtain ⟨c, vs, rfl, h1, n1, s1⟩ := r
    exact ⟨c, vs, rfl, .inl (.inl (.inl h1)), s1⟩
  · obtain ⟨c, vs, rfl, h1, s1⟩ := r
    exact ⟨c, vs, rfl, .inl h1.sq, s1⟩
theorem rep1 {H : Hp} {ts : List T} {vs : List V} {a : T} (h : Reps p H (a :: []) vs) : ∃ v, vs = [v] ∧ Rep p H a v := by
  obtain ⟨v, r, rfl, h1, h2⟩ := h
  rw [show r = [] from h2]
  exact ⟨v, rfl, h1⟩
def lenQ : List T → Option T
  | [a] => (seqT a).map fun ts => .int ts.length
  | _ => none
def lenS : List T → Option T
  | [.str cs] => if cs.length ≤ lim then some (.int cs.length) else none
  | _ => none
include hK in
theorem ca_lenQ : CaT p X (.builtin "len") lenQ := cr_imp call_len_seq fun xs H Q ⟨ts, t, r, nd, hf, q⟩ => by
  unfold lenQ at hf
  split at hf
  · rename_i a
    obtain ⟨v, rfl, r1⟩ := rep1 (ts := []) r
    cases h : seqT a with
    | none => rw [h] at hf; cases hf
    | some ys =>
      rw [h] at hf
      cases hf
      obtain ⟨c, vs, rfl, h1, s1⟩ := seq_ok r1 h
      refine ⟨c, vs, rfl, hK ▸ h1, ?_⟩
      rw [s1.length]
      exact q _ H (Same.refl H) rfl
  · cases hf
theorem ca_lenS : CaT p X (.builtin "len") lenS := cr_imp call_len_str fun xs H Q ⟨ts, t, r, nd, hf, q⟩ => by
  unfold lenS at hf
  split at hf
  · rename_i cs
    obtain ⟨v, rfl, z, rfl, e⟩ := rep1 (ts := []) r
    split at hf
    · rename_i hz
      cases hf
      refine ⟨z, rfl, lim_ok (by rw [str_len, e]; exact hz), ?_⟩
      rw [str_len, e]
      exact q _ H (Same.refl H) rfl
    · cases hf
  · cases hf
def lenT (ts : List T) : Option T := match lenQ ts with
  | some t => some t
  | none => lenS ts
include hK in
theorem ca_len : CaT p X (.builtin "len") lenT := CaT.or (ca_lenQ hK) ca_lenS

/-! isinstance -/
def isiInt : T → Option Bool
  | .int _ => some true
  | .bl _ => some true
  | .fls _ => none
  | .ref => none
  | .exo _ _ _ => none
  | _ => some false
def isiBool : T → Option Bool
  | .bl _ => some true
  | .fls _ => none
  | .ref => none
  | .exo _ _ _ => none
  | _ => some false
def isiStr : T → Option Bool
  | .str _ => some true
  | .fls _ => none
  | .ref => none
  | .exo _ _ _ => none
  | _ => some false
def isiTup : T → Option Bool
  | .tup _ => some true
  | .fls _ => none
  | .ref => none
  | .exo _ _ _ => none
  | _ => some false
theorem ty_ok {H : Hp} {a : T} {x : V} (r : Rep p H a x) : match a with
    | .non => TyX p.K H x (.type "NoneType")
    | .bl _ => TyX p.K H x (.type "bool")
    | .int _ => TyX p.K H x (.type "int")
    | .str _ => TyX p.K H x (.type "str")
    | .tup _ => TyX p.K H x (.type "tuple")
    | .lst _ => TyX p.K H x (.type "list")
    | .fls _ => True
    | .ref => True
    | .exo _ _ _ => True := by
  cases a with
  | non => have r : x = _ := r; subst r; exact .base .non
  | bl b => have r : x = _ := r; subst r; exact .base (.bl _)
  | int b => have r : x = _ := r; subst r; exact .base (.int _)
  | str b => obtain ⟨z, rfl, _⟩ := r; exact .base (.str _)
  | tup b =>
    obtain ⟨z, _, rfl, h, _⟩ := r
    rcases h with (h | ⟨o, h⟩) | ⟨o, _, _, h, c, _⟩
    · exact .base (.tup h)
    · exact .fTuple h
    · exact .kTuple h c
  | lst b => obtain ⟨z, _, rfl, h, _⟩ := r; exact .base (.lst h)
  | fls b => trivial
  | ref => trivial
  | exo C b c => trivial
def isiF (g : T → Option Bool) : List T → Option T
  | [a] => (g a).map .bl
  | _ => none
/-- isinstance(e, C), C a built-in type's name -/
theorem se_isi {e ce : Expr} {x : Str} {pp pos : Pos} {f : EF} {g : T → Option Bool} {n : String} (hK : p.K = X.K) (hg' : ∀ a b, g a = some b → ∃ tn, (∀ H x, Rep p H a x → TyX p.K H x (.type tn)) ∧ kitB tn n = some b) (ha : SE p X e f) (hc : PE X ce (tC (.ty n))) (hm : X.mg "isinstance" = none)
    (hg : Gl X "isinstance" := by rfl) (he : starEach [e, ce] X.env = (false, eval e X.env) :: starEach [ce] X.env := by rfl) (he2 : starEach [ce] X.env = (false, eval ce X.env) :: starEach [] X.env := by rfl) (hpl : (backTo pos (starEach [ce] X.env)).any (·.1) = false := by rfl) :
    SE p X (.Call (.Name "isinstance" pp) [e, ce] [] pos) (eB (isiF g) (aCons f aNil)) := by
  refine pe_imp (pe_callB call_isi hg hm PyProof.Rows.boot_isinstance (pa_cons ha (pa_cons hc pa_nil he2) he) (by decide) (by decide) he hpl) fun σ H Q ⟨env, dr, t, dr', hR, hO, hf, q⟩ => ?_
  unfold eB aCons aNil at hf
  cases h1 : f env dr with
  | none => rw [h1] at hf; cases hf
  | some z =>
    obtain ⟨a, dr1⟩ := z
    rw [h1] at hf
    dsimp only at hf
    unfold isiF at hf
    dsimp only at hf
    cases h2 : g a with
    | none => rw [h2] at hf; cases hf
    | some b =>
      rw [h2] at hf
      cases hf
      obtain ⟨tn, ht, hk⟩ := hg' a b h2
      exact ⟨env, dr, a, _, hR, hO, h1, fun v H1 e1 r1 o1 => ⟨v, .ty n, .type tn, .type n, b, rfl, .ty n, hK ▸ ht H1 v r1, kit_ty hk, q _ _ e1 rfl o1⟩⟩
theorem isi_int : ∀ a b, isiInt a = some b → ∃ tn, (∀ H x, Rep p H a x → TyX p.K H x (.type tn)) ∧ kitB tn "int" = some b := fun a b h => by
  cases a <;> cases h
  · exact ⟨"NoneType", fun H x r => ty_ok r, by decide +kernel⟩
  · exact ⟨"bool", fun H x r => ty_ok r, by decide +kernel⟩
  · exact ⟨"int", fun H x r => ty_ok r, by decide +kernel⟩
  · exact ⟨"str", fun H x r => ty_ok r, by decide +kernel⟩
  · exact ⟨"tuple", fun H x r => ty_ok r, by decide +kernel⟩
  · exact ⟨"list", fun H x r => ty_ok r, by decide +kernel⟩
theorem isi_bool : ∀ a b, isiBool a = some b → ∃ tn, (∀ H x, Rep p H a x → TyX p.K H x (.type tn)) ∧ kitB tn "bool" = some b := fun a b h => by
  cases a <;> cases h
  · exact ⟨"NoneType", fun H x r => ty_ok r, by decide +kernel⟩
  · exact ⟨"bool", fun H x r => ty_ok r, by decide +kernel⟩
  · exact ⟨"int", fun H x r => ty_ok r, by decide +kernel⟩
  · exact ⟨"str", fun H x r => ty_ok r, by decide +kernel⟩
  · exact ⟨"tuple", fun H x r => ty_ok r, by decide +kernel⟩
  · exact ⟨"list", fun H x r => ty_ok r, by decide +kernel⟩
theorem isi_str : ∀ a b, isiStr a = some b → ∃ tn, (∀ H x, Rep p H a x → TyX p.K H x (.type tn)) ∧ kitB tn "str" = some b := fun a b h => by
  cases a <;> cases h
  · exact ⟨"NoneType", fun H x r => ty_ok r, by decide +kernel⟩
  · exact ⟨"bool", fun H x r => ty_ok r, by decide +kernel⟩
  · exact ⟨"int", fun H x r => ty_ok r, by decide +kernel⟩
  · exact ⟨"str", fun H x r => ty_ok r, by decide +kernel⟩
  · exact ⟨"tuple", fun H x r => ty_ok r, by decide +kernel⟩
  · exact ⟨"list", fun H x r => ty_ok r, by decide +kernel⟩
theorem isi_tup : ∀ a b, isiTup a = some b → ∃ tn, (∀ H x, Rep p H a x → TyX p.K H x (.type tn)) ∧ kitB tn "tuple" = some b := fun a b h => by
  cases a <;> cases h
  · exact ⟨"NoneType", fun H x r => ty_ok r, by decide +kernel⟩
  · exact ⟨"bool", fun H x r => ty_ok r, by decide +kernel⟩
  · exact ⟨"int", fun H x r => ty_ok r, by decide +kernel⟩
  · exact ⟨"str", fun H x r => ty_ok r, by decide +kernel⟩
  · exact ⟨"tuple", fun H x r => ty_ok r, by decide +kernel⟩
  · exact ⟨"list", fun H x r => ty_ok r, by decide +kernel⟩

/-! int(x), tuple(x), list(x) -/
def intF : List T → Option T
  | [.int i] => some (.int i)
  | _ => none
theorem ca_int : CaT p X (.type "int") intF := cr_imp call_int1 fun xs H Q ⟨ts, t, r, nd, hf, q⟩ => by
  unfold intF at hf
  split at hf
  · cases hf
    obtain ⟨v, rfl, r1⟩ := rep1 (ts := []) r
    rw [show v = _ from r1]
    exact .inl ⟨_, rfl, q _ H (Same.refl H) rfl⟩
  · cases hf
def tupF : List T → Option T
  | [.tup ts] => some (.tup ts)
  | [.lst ts] => some (.tup ts)
  | [.fls ts] => some (.tup ts)
  | _ => none
include hK in
theorem ca_tuple : CaT p X (.type "tuple") tupF := cr_imp call_tuple_of fun xs H Q ⟨ts, t, r, nd, hf, q⟩ => by
  unfold tupF at hf
  split at hf
  · cases hf
    obtain ⟨v, rfl, r1⟩ := rep1 (ts := []) r
    obtain ⟨c, vs, rfl, h1, s1⟩ := id r1
    exact ⟨c, vs, rfl, .inr ⟨hK ▸ h1, q _ H (Same.refl H) r1⟩⟩
  · cases hf
    obtain ⟨v, rfl, r1⟩ := rep1 (ts := []) r
    obtain ⟨c, vs, rfl, h1, n1, s1⟩ := r1
    exact ⟨c, vs, rfl, .inl ⟨.inl (.inl h1), fun b hb => q _ _ (same_new hb _) (rep_tup s1 hb)⟩⟩
  · cases hf
    obtain ⟨v, rfl, r1⟩ := rep1 (ts := []) r
    obtain ⟨c, vs, rfl, h1, s1⟩ := r1
    exact ⟨c, vs, rfl, .inl ⟨hK ▸ h1.sq, fun b hb => q _ _ (same_new hb _) (rep_tup s1 hb)⟩⟩
  · cases hf
def listF : List T → Option T
  | [a] => (seqT a).map .lst
  | _ => none
include hK in
theorem ca_list : CaT p X (.type "list") listF := cr_imp call_list_of fun xs H Q ⟨ts, t, r, nd, hf, q⟩ => by
  unfold listF at hf
  split at hf
  · rename_i a
    obtain ⟨v, rfl, r1⟩ := rep1 (ts := []) r
    cases h : seqT a with
    | none => rw [h] at hf; cases hf
    | some ys =>
      rw [h] at hf
      cases hf
      obtain ⟨c, vs, rfl, h1, s1⟩ := seq_ok r1 h
      exact ⟨c, vs, rfl, hK ▸ h1, fun b hb => q _ _ (same_new hb _) (rep_lst s1 hb (nd b hb))⟩
  · cases hf

/-! any, all, sum, min of lists -/
def blsT : List T → Option (List Bool)
  | [] => some []
  | .bl b :: r => (blsT r).map (b :: ·)
  | _ => none
def intsT : List T → Option (List Int)
  | [] => some []
  | .int b :: r => (intsT r).map (b :: ·)
  | _ => none
theorem bls_ok {H : Hp} : ∀ {ts : List T} {vs : List V} {bs : List Bool}, Reps p H ts vs → blsT ts = some bs → vs = bs.map V.bl
  | [], _, _, r, h => by cases h; rw [show _ = [] from r]; rfl
  | t :: ts, _, bs, r, h => by
    obtain ⟨v, w, rfl, h1, h2⟩ := r
    cases t <;> try (cases h; done)
    unfold blsT at h
    cases hh : blsT ts with
    | none => rw [hh] at h; cases h
    | some cs =>
      rw [hh] at h
      cases h
      rw [show v = _ from h1, bls_ok h2 hh]
      rfl
theorem ints_ok {H : Hp} : ∀ {ts : List T} {vs : List V} {bs : List Int}, Reps p H ts vs → intsT ts = some bs → vs = bs.map V.int
  | [], _, _, r, h => by cases h; rw [show _ = [] from r]; rfl
  | t :: ts, _, bs, r, h => by
    obtain ⟨v, w, rfl, h1, h2⟩ := r
    cases t <;> try (cases h; done)
    unfold intsT at h
    cases hh : intsT ts with
    | none => rw [hh] at h; cases h
    | some cs =>
      rw [hh] at h
      cases h
      rw [show v = _ from h1, ints_ok h2 hh]
      rfl
def anyF : List T → Option T
  | [.lst ts] => (blsT ts).map fun bs => .bl (bs.any id)
  | _ => none
def allF : List T → Option T
  | [.lst ts] => (blsT ts).map fun bs => .bl (bs.all id)
  | _ => none
def sumF : List T → Option T
  | [.lst ts] => (intsT ts).map fun bs => .int bs.sum
  | _ => none
theorem ca_any (hc : X.calm = true) : CaT p X (.builtin "any") anyF := cr_imp (cr_any hc) fun xs H Q ⟨ts, t, r, nd, hf, q⟩ => by
  unfold anyF at hf
  split at hf
  · rename_i ys
    obtain ⟨v, rfl, r1⟩ := rep1 (ts := []) r
    obtain ⟨c, vs, rfl, h1, n1, s1⟩ := r1
    cases h : blsT ys with
    | none => rw [h] at hf; cases hf
    | some bs =>
      rw [h] at hf
      cases hf
      have := bls_ok s1 h
      subst this
      exact ⟨c, bs, rfl, .inl (.inl h1), q _ H (Same.refl H) rfl⟩
  · cases hf
theorem ca_all (hc : X.calm = true) : CaT p X (.builtin "all") allF := cr_imp (cr_all hc) fun xs H Q ⟨ts, t, r, nd, hf, q⟩ => by
  unfold allF at hf
  split at hf
  · rename_i ys
    obtain ⟨v, rfl, r1⟩ := rep1 (ts := []) r
    obtain ⟨c, vs, rfl, h1, n1, s1⟩ := r1
    cases h : blsT ys with
    | none => rw [h] at hf; cases hf
    | some bs =>
      rw [h] at hf
      cases hf
      have := bls_ok s1 h
      subst this
      exact ⟨c, bs, rfl, .inl (.inl h1), q _ H (Same.refl H) rfl⟩
  · cases hf
theorem ca_sum (hc : X.calm = true) : CaT p X (.builtin "sum") sumF := cr_imp (cr_sum hc) fun xs H Q ⟨ts, t, r, nd, hf, q⟩ => by
  unfold sumF at hf
  split at hf
  · rename_i ys
    obtain ⟨v, rfl, r1⟩ := rep1 (ts := []) r
    obtain ⟨c, vs, rfl, h1, n1, s1⟩ := r1
    cases h : intsT ys with
    | none => rw [h] at hf; cases hf
    | some bs =>
      rw [h] at hf
      cases hf
      have := ints_ok s1 h
      subst this
      exact ⟨c, bs, rfl, .inl (.inl h1), q _ H (Same.refl H) rfl⟩
  · cases hf
def leastI : List Int → Option Int
  | [] => none
  | [a] => some a
  | a :: r => (leastI r).map fun m => if a < m then a else m
theorem least_ok : ∀ {bs : List Int} {m : Int}, leastI bs = some m → m ∈ bs ∧ ∀ y ∈ bs, m ≤ y
  | [], _, h => by cases h
  | [a], m, h => by cases h; simp
  | a :: b :: r, m, h => by
    unfold leastI at h
    cases hh : leastI (b :: r) with
    | none => rw [hh] at h; cases h
    | some n =>
      rw [hh] at h
      cases h
      obtain ⟨h1, h2⟩ := least_ok hh
      by_cases c : a < n
      · simp only [if_pos c]
        exact ⟨List.mem_cons_self, fun y hy => by
          rcases List.mem_cons.mp hy with e | hy
          · omega
          · have := h2 y hy; omega⟩
      · simp only [if_neg c]
        exact ⟨List.mem_cons_of_mem _ h1, fun y hy => by
          rcases List.mem_cons.mp hy with e | hy
          · omega
          · exact h2 y hy⟩
def minF : List T → Option T
  | [.lst ts] => match intsT ts with
    | some bs => (leastI bs).map .int
    | none => none
  | _ => none
theorem ca_min (hc : X.calm = true) : CaT p X (.builtin "min") minF := cr_imp (cr_min hc) fun xs H Q ⟨ts, t, r, nd, hf, q⟩ => by
  unfold minF at hf
  split at hf
  · rename_i ys
    obtain ⟨v, rfl, r1⟩ := rep1 (ts := []) r
    obtain ⟨c, vs, rfl, h1, n1, s1⟩ := r1
    cases h : intsT ys with
    | none => rw [h] at hf; cases hf
    | some bs =>
      rw [h] at hf
      dsimp only at hf
      have := ints_ok s1 h
      subst this
      cases h2 : leastI bs with
      | none => rw [h2] at hf; cases hf
      | some m =>
        rw [h2] at hf
        cases hf
        obtain ⟨m1, m2⟩ := least_ok h2
        refine ⟨c, bs, rfl, .inl (.inl h1), List.length_pos_of_mem m1, fun m' hm' hle => ?_⟩
        have e : m' = m := Int.le_antisymm (hle m m1) (m2 m' hm')
        rw [e]
        exact q _ H (Same.refl H) rfl
  · cases hf

/-! ''.join(list) -/
def strsT : List T → Option (List (List Nat))
  | [] => some []
  | .str b :: r => (strsT r).map (b :: ·)
  | _ => none
def joinL (sep : List Nat) : List (List Nat) → List Nat
  | [] => []
  | [a] => a
  | a :: r => a ++ sep ++ joinL sep r
def joinF (sep : T) : T → Option T
  | a => match sep, seqT a with
    | .str cs, some ts => match strsT ts with
      | some xs => if (xs.map (·.length)).sum + xs.length * cs.length ≤ lim then some (.str (joinL cs xs)) else none
      | none => none
    | _, _ => none
end
end FL
set_option linter.all false
set_option maxRecDepth 100000
set_option maxHeartbeats 2000000
namespace FL
open PySem PySem.Spec PyProof.Rows L2 GxR GA

section
variable {p : Pm} {X : Cx} (hK : p.K = X.K)

theorem atI_map {H : Hp} {ts : List T} {vs : List V} {i : Int} {t : T} (r : Reps p H ts vs) (h : atI ts i = some t) : ∃ v, atI vs i = some v ∧ Rep p H t v := by
  unfold atI at h ⊢
  rw [r.length]
  cases e : ixN ts.length i with
  | none => rw [e] at h; cases h
  | some j =>
    rw [e] at h
    exact r.get h
/-- a[i] -/
def ixT (dr : List T) : T → T → Option T
  | .tup ts, .int i => atI ts i
  | .lst ts, .int i => atI ts i
  | .fls ts, .int i => atI ts i
  | .str cs, .int i => if cs.length ≤ lim then (atI cs i).map fun c => .str [c] else none
  | .ref, .int i => atI dr i
  | _, _ => none
def eIx (f g : EF) : EF := fun env dr => match f env dr with
  | none => none
  | some (x, dr1) => match g env dr1 with
    | none => none
    | some (y, dr2) => match ixT dr2 x y with
      | none => none
      | some t => some (t, dr2)
include hK in
theorem se_ix {a b : Expr} {pos : Pos} {f g : EF} (ha : SE p X a f) (hb : SE p X b g) (hs : PlainIx b := by exact fun _ _ => rfl) : SE p X (.Subscript a b pos) (eIx f g) := pe_imp (pe_ix ix_seq ha hb hs) fun σ H Q ⟨env, dr, t, dr', hR, hO, hf, q⟩ => by
  unfold eIx at hf
  cases h1 : f env dr with
  | none => rw [h1] at hf; cases hf
  | some z =>
    obtain ⟨x, dr1⟩ := z
    rw [h1] at hf
    dsimp only at hf
    cases h2 : g env dr1 with
    | none => rw [h2] at hf; cases hf
    | some z =>
      obtain ⟨y, dr2⟩ := z
      rw [h2] at hf
      dsimp only at hf
      cases h3 : ixT dr2 x y with
      | none => rw [h3] at hf; cases hf
      | some t' =>
        rw [h3] at hf
        cases hf
        refine ⟨env, dr, x, dr1, hR, hO, h1, fun v H1 e1 r1 o1 => ⟨env, dr1, y, _, hR.ext e1, o1, h2, fun w H2 e2 r2 o2 => ?_⟩⟩
        replace r1 := r1.ext e2
        replace q := fun v r => q v H2 (e1.trans e2) r o2
        cases x <;> cases y <;> try (cases h3; done)
        · rename_i cs i
          unfold ixT at h3
          dsimp only at h3
          split at h3
          · rename_i hz
            obtain ⟨z, rfl, ez⟩ := r1
            cases h4 : atI cs i with
            | none => rw [h4] at h3; cases h3
            | some c =>
              rw [h4] at h3
              cases h3
              exact .inr (.inr ⟨z, i, c, rfl, r2, lim_ok (by rw [str_len, ez]; exact hz), by rw [ez]; exact h4, q _ ⟨_, rfl, rfl⟩⟩)
          · cases h3
        · rename_i ts i
          obtain ⟨c, vs, rfl, hh, s1⟩ := r1
          obtain ⟨u, u1, u2⟩ := atI_map s1 h3
          exact .inr (.inl ⟨c, vs, i, u, rfl, r2, hK ▸ hh, u1, q _ u2⟩)
        · rename_i ts i
          obtain ⟨c, vs, rfl, hh, n1, s1⟩ := r1
          obtain ⟨u, u1, u2⟩ := atI_map s1 h3
          exact .inl ⟨c, vs, i, u, rfl, r2, .inl (.inl hh), u1, q _ u2⟩
        · rename_i ts i
          obtain ⟨c, vs, rfl, hh, s1⟩ := r1
          obtain ⟨u, u1, u2⟩ := atI_map s1 h3
          exact .inl ⟨c, vs, i, u, rfl, r2, hK ▸ hh.sq, u1, q _ u2⟩
        · rename_i i
          obtain ⟨c, hd, rfl⟩ := r1
          have od := o2.1
          unfold DrOk at od
          rw [hd] at od
          obtain ⟨vs, hh, s1⟩ := od
          obtain ⟨u, u1, u2⟩ := atI_map s1 h3
          exact .inl ⟨c, vs, i, u, rfl, r2, .inl (.inl hh), u1, q _ u2⟩

/-! slices -/
def cutL {α : Type} (xs : List α) (lo hi : Option Int) : List α := (xs.drop (HT.sIx xs.length 0 lo)).take (HT.sIx xs.length xs.length hi - HT.sIx xs.length 0 lo)
def slT (t : T) (lo hi : Option Int) : Option T := match t with
  | .tup ts => some (.tup (cutL ts lo hi))
  | .lst ts => some (.lst (cutL ts lo hi))
  | .fls ts => some (.lst (cutL ts lo hi))
  | .str cs => if cs.length ≤ lim then some (.str (cutL cs lo hi)) else none
  | _ => none
theorem cut_ok {H : Hp} {ts : List T} {vs : List V} (r : Reps p H ts vs) (lo hi : Option Int) : Reps p H (cutL ts lo hi) (cutV vs lo hi) := by
  unfold cutL cutV
  rw [r.length]
  exact (r.drop _).take _
theorem cutL_all {α : Type} (xs : List α) (lo hi : Option Int) (h : HT.sIx xs.length 0 lo = 0 ∧ HT.sIx xs.length xs.length hi = xs.length) : cutL xs lo hi = xs := by
  unfold cutL
  rw [h.1, h.2, List.drop_zero, Nat.sub_zero, List.take_length]
def rSlF (p : Pm) : V → Option Int → Option Int → Hp → VK → Prop := fun x lo hi H Q => ∃ a t, Rep p H a x ∧ NewD p H ∧ slT a lo hi = some t ∧ ∀ v H', Same H H' → Rep p H' t v → Q v H'
include hK in
theorem sl_f : SlR X (rSlF p) := by
  intro pins s σ H x v vl vu lo hi sl Q I rx hs pl pu ⟨a, t, r, nd, hf, q⟩
  unfold slT at hf
  cases a <;> try (cases hf; done)
  · rename_i cs
    dsimp only at hf
    split at hf
    · rename_i hz
      cases hf
      obtain ⟨z, rfl, ez⟩ := r
      refine sl_str pins s σ H _ v vl vu lo hi sl Q I rx hs pl pu ⟨z, rfl, lim_ok (by rw [str_len, ez]; exact hz), q _ H (Same.refl H) ⟨_, rfl, ?_⟩⟩
      unfold cutS cutL
      rw [str_len, ez]
    · cases hf
  · cases hf
    obtain ⟨c, vs, rfl, hh, s1⟩ := id r
    refine sl_tupA pins s σ H _ v vl vu lo hi sl Q I rx hs pl pu ⟨c, vs, rfl, hK ▸ hh, fun hw => ?_, fun hw b hb => q _ _ (same_new hb _) (rep_tup (cut_ok s1 lo hi) hb)⟩
    have hl := s1.length
    rw [hl] at hw
    refine q _ H (Same.refl H) ?_
    rw [cutL_all _ _ _ hw]
    exact r
  · cases hf
    obtain ⟨c, vs, rfl, hh, n1, s1⟩ := r
    exact sl_list pins s σ H _ v vl vu lo hi sl Q I rx hs pl pu ⟨c, vs, rfl, .inl (.inl hh), fun b hb => q _ _ (same_new hb _) (rep_lst (cut_ok s1 lo hi) hb (nd b hb))⟩
  · cases hf
    obtain ⟨c, vs, rfl, hh, s1⟩ := r
    exact sl_list pins s σ H _ v vl vu lo hi sl Q I rx hs pl pu ⟨c, vs, rfl, hK ▸ hh.sq, fun b hb => q _ _ (same_new hb _) (rep_lst (cut_ok s1 lo hi) hb (nd b hb))⟩
def eSlLo (f g : EF) : EF := fun env dr => match f env dr with
  | none => none
  | some (x, dr1) => match g env dr1 with
    | some (.int i, dr2) => (match slT x (some i) none with
      | none => none
      | some t => some (t, dr2))
    | _ => none
def eSlHi (f g : EF) : EF := fun env dr => match f env dr with
  | none => none
  | some (x, dr1) => match g env dr1 with
    | some (.int i, dr2) => (match slT x none (some i) with
      | none => none
      | some t => some (t, dr2))
    | _ => none
include hK in
theorem se_sllo {a b : Expr} {pos p2 : Pos} {f g : EF} (ha : SE p X a f) (hb : SE p X b g) : SE p X (.Subscript a (.Slice (some b) none none p2) pos) (eSlLo f g) := pe_imp (pe_slice (sl_f hK) ha (po_some hb) po_none) fun σ H Q ⟨env, dr, t, dr', hR, hO, hf, q⟩ => by
  unfold eSlLo at hf
  cases h1 : f env dr with
  | none => rw [h1] at hf; cases hf
  | some z =>
    obtain ⟨x, dr1⟩ := z
    rw [h1] at hf
    dsimp only at hf
    split at hf
    · rename_i i dr2 h2
      cases h3 : slT x (some i) none with
      | none => rw [h3] at hf; cases hf
      | some t' =>
        rw [h3] at hf
        cases hf
        exact ⟨env, dr, x, dr1, hR, hO, h1, fun v H1 e1 r1 o1 => ⟨env, dr1, _, _, hR.ext e1, o1, h2, fun w H2 e2 r2 o2 => ⟨i, r2, x, _, r1.ext e2, o2.new, h3, fun u H3 s3 r3 => q u H3 (e1.trans (e2.trans (.same s3))) r3 (o2.same s3)⟩⟩⟩
    · cases hf
include hK in
theorem se_slhi {a b : Expr} {pos p2 : Pos} {f g : EF} (ha : SE p X a f) (hb : SE p X b g) : SE p X (.Subscript a (.Slice none (some b) none p2) pos) (eSlHi f g) := pe_imp (pe_slice (sl_f hK) ha po_none (po_some hb)) fun σ H Q ⟨env, dr, t, dr', hR, hO, hf, q⟩ => by
  unfold eSlHi at hf
  cases h1 : f env dr with
  | none => rw [h1] at hf; cases hf
  | some z =>
    obtain ⟨x, dr1⟩ := z
    rw [h1] at hf
    dsimp only at hf
    split at hf
    · rename_i i dr2 h2
      cases h3 : slT x none (some i) with
      | none => rw [h3] at hf; cases hf
      | some t' =>
        rw [h3] at hf
        cases hf
        exact ⟨env, dr, x, dr1, hR, hO, h1, fun v H1 e1 r1 o1 => ⟨env, dr1, _, _, hR.ext e1, o1, h2, fun w H2 e2 r2 o2 => ⟨i, r2, x, _, r1.ext e2, o2.new, h3, fun u H3 s3 r3 => q u H3 (e1.trans (e2.trans (.same s3))) r3 (o2.same s3)⟩⟩⟩
    · cases hf

/-! ### calls of defs -/
abbrev Phi := List T → List T → Option (T × List T)
/-- a def's promise by its function; the lists being made are the caller's own -/
def spF (p : Pm) (n : Nat) (φ : Phi) : Sp := fun vs H Q _ => ∃ ex ts dr t dr', ts.length = n ∧ Reps { p with ex := ex } H ts vs ∧ Ok { p with ex := ex } H dr ∧ φ ts dr = some (t, dr') ∧
  ∀ v H', Ext { p with ex := ex } H H' → Rep { p with ex := ex } H' t v → Ok { p with ex := ex } H' dr' → Q v H'
def eCall (n : Nat) (φ : Phi) (l : AF) : EF := fun env dr => match l env dr with
  | none => none
  | some (ts, dr1) => if ts.length = n then φ ts dr1 else none
variable {f : Addr} {fd : FuncData} {ps : List Str} {k j n : Nat} {φ : Phi} {x : Str} {pp pos : Pos} {e : Expr} {es : List Expr} {l : AF}
theorem tC_call : ∀ σ H Q, tE p (eCall n φ l) σ H Q → tCall (spF p n φ) [] E0 (tA p l) σ H Q := fun σ H Q ⟨env, dr, t, dr', hR, hO, hf, q⟩ => by
  unfold eCall at hf
  cases h1 : l env dr with
  | none => rw [h1] at hf; cases hf
  | some z =>
    obtain ⟨ts, dr1⟩ := z
    rw [h1] at hf
    dsimp only at hf
    split at hf
    · rename_i hn
      refine ⟨env, dr, ts, dr1, hR, hO, h1, fun vs H1 e1 r1 o1 => ?_⟩
      show spF p n φ (vs ++ []) H1 Q E0
      rw [List.append_nil]
      exact ⟨p.ex, ts, dr1, t, dr', hn, r1, o1, hf, fun v H2 e2 r2 o2 => q v H2 (e1.trans e2) r2 o2⟩
    · cases hf
theorem se_call (F : FnOk X.prog X.w X.K X.mg X.base L2.CX0 k f fd ps (spF p n φ)) (hr : Room j X.A) (hkj : k ≤ j) (hm : X.mg x = some (.ref f)) (hk : PySem.W.keepIn X.K (.ref f) = true) (hb : Binds X.K fd ps []) (ha : SA p X (e :: es) l) (hg : Gl X x := by rfl)
    (hdb : (x == ("__debug__" : Str)) = false := by decide) (he : starEach (e :: es) X.env = (false, eval e X.env) :: starEach es X.env := by rfl) (hpl : (backTo pos (starEach es X.env)).any (·.1) = false := by rfl) :
    SE p X (.Call (.Name x pp) (e :: es) [] pos) (eCall n φ l) := pe_imp (pe_call F (hr.mono hkj) hg hm hk hb .nil L2.pass0 ha hdb he hpl) tC_call
theorem se_call0 (F : FnOk X.prog X.w X.K X.mg X.base L2.CX0 k f fd ps (spF p n φ)) (hr : Room j X.A) (hkj : k ≤ j) (hm : X.mg x = some (.ref f)) (hk : PySem.W.keepIn X.K (.ref f) = true) (hb : Binds X.K fd ps []) (hg : Gl X x := by rfl)
    (hdb : (x == ("__debug__" : Str)) = false := by decide) : SE p X (.Call (.Name x pp) [] [] pos) (eCall n φ aNil) := pe_imp (pe_call0 F (hr.mono hkj) hg hm hk hb .nil L2.pass0 hdb) fun σ H Q h => by
  obtain ⟨env, dr, ts, dr1, hR, hO, h1, q⟩ := tC_call σ H Q h
  unfold aNil at h1
  cases h1
  exact q [] H .refl .nil hO
theorem spF_ex {ex : List Addr} {P : Program} {w : World} {K : PySem.W.Frag} {mg : Str → Option Value} {base : Heap} {CX : CXT} (F : FnOk P w K mg base CX k f fd ps (spF p n φ)) : FnOk P w K mg base CX k f fd ps (spF { p with ex := ex } n φ) :=
  F.imp fun vs H Q E h => h
end
end FL
set_option linter.all false
set_option maxRecDepth 100000
set_option maxHeartbeats 2000000
namespace FL
open PySem PySem.Spec PyProof.Rows L2 GxR GA

/-! ### more, fewer lists being made -/
abbrev Pm.w (p : Pm) (ex : List Addr) : Pm := { p with ex := ex }
mutual
theorem Rep.more {p : Pm} {H : Hp} {ex : List Addr} (h : ∀ a ∈ ex, a ∈ p.ex ∨ H a = none) : ∀ {t : T} {v : V}, Rep p H t v → Rep (p.w ex) H t v
  | .non, _, r => r
  | .bl _, _, r => r
  | .int _, _, r => r
  | .str _, _, r => r
  | .tup ts, _, r => by
    obtain ⟨a, vs, rfl, s, q⟩ := r
    exact ⟨a, vs, rfl, s, Reps.more h q⟩
  | .lst ts, _, r => by
    obtain ⟨a, vs, rfl, s, n, q⟩ := r
    exact ⟨a, vs, rfl, s, ⟨n.1, fun z => (h a z).elim n.2 fun e => by rw [s] at e; cases e⟩, Reps.more h q⟩
  | .fls ts, _, r => by
    obtain ⟨a, vs, rfl, s, q⟩ := r
    refine ⟨a, vs, rfl, ?_, Reps.more h q⟩
    rcases s with ⟨s, n⟩ | s
    · exact .inl ⟨s, n.1, fun z => (h a z).elim n.2 fun e => by rcases s with s | ⟨_, s⟩ <;> rw [s] at e <;> cases e⟩
    · exact .inr s
  | .ref, _, r => r
  | .exo C ns ts, _, r => by
    obtain ⟨c, a, d, vs, hc, rfl, s, n, q⟩ := r
    exact ⟨c, a, d, vs, hc, rfl, s, n, Reps.more h q⟩
theorem Reps.more {p : Pm} {H : Hp} {ex : List Addr} (h : ∀ a ∈ ex, a ∈ p.ex ∨ H a = none) : ∀ {ts : List T} {vs : List V}, Reps p H ts vs → Reps (p.w ex) H ts vs
  | [], _, r => r
  | t :: ts, _, r => by
    obtain ⟨v, w, rfl, a, b⟩ := r
    exact ⟨v, w, rfl, Rep.more h a, Reps.more h b⟩
end
mutual
theorem Rep.less {p : Pm} {H : Hp} {ex : List Addr} (h : ∀ a ∈ p.ex, a ∈ ex) : ∀ {t : T} {v : V}, Rep (p.w ex) H t v → Rep p H t v
  | .non, _, r => r
  | .bl _, _, r => r
  | .int _, _, r => r
  | .str _, _, r => r
  | .tup ts, _, r => by
    obtain ⟨a, vs, rfl, s, q⟩ := r
    exact ⟨a, vs, rfl, s, Reps.less h q⟩
  | .lst ts, _, r => by
    obtain ⟨a, vs, rfl, s, n, q⟩ := r
    exact ⟨a, vs, rfl, s, ⟨n.1, fun z => n.2 (h a z)⟩, Reps.less h q⟩
  | .fls ts, _, r => by
    obtain ⟨a, vs, rfl, s, q⟩ := r
    refine ⟨a, vs, rfl, ?_, Reps.less h q⟩
    rcases s with ⟨s, n⟩ | s
    · exact .inl ⟨s, n.1, fun z => n.2 (h a z)⟩
    · exact .inr s
  | .ref, _, r => r
  | .exo C ns ts, _, r => by
    obtain ⟨c, a, d, vs, hc, rfl, s, n, q⟩ := r
    exact ⟨c, a, d, vs, hc, rfl, s, n, Reps.less h q⟩
theorem Reps.less {p : Pm} {H : Hp} {ex : List Addr} (h : ∀ a ∈ p.ex, a ∈ ex) : ∀ {ts : List T} {vs : List V}, Reps (p.w ex) H ts vs → Reps p H ts vs
  | [], _, r => r
  | t :: ts, _, r => by
    obtain ⟨v, w, rfl, a, b⟩ := r
    exact ⟨v, w, rfl, Rep.less h a, Reps.less h b⟩
end
theorem Ext.w {p : Pm} {ex : List Addr} {H H' : Hp} (e : Ext p H H') : Ext (p.w ex) H H' := ⟨e.tup, e.frz, e.lst, e.tab, e.ext⟩
theorem Ext.unw {p : Pm} {ex : List Addr} {H H' : Hp} (e : Ext (p.w ex) H H') : Ext p H H' := ⟨e.tup, e.frz, e.lst, e.tab, e.ext⟩
theorem RelS.more {p : Pm} {H : Hp} {ex : List Addr} {σ : L2.St} {env : Env} (h : ∀ a ∈ ex, a ∈ p.ex ∨ H a = none) (r : RelS p H σ env) : RelS (p.w ex) H σ env := ⟨r.1, fun i t q => let ⟨v, a, b⟩ := r.2 i t q; ⟨v, a, b.more h⟩⟩
theorem RelS.less {p : Pm} {H : Hp} {ex : List Addr} {σ : L2.St} {env : Env} (h : ∀ a ∈ p.ex, a ∈ ex) (r : RelS (p.w ex) H σ env) : RelS p H σ env := ⟨r.1, fun i t q => let ⟨v, a, b⟩ := r.2 i t q; ⟨v, a, b.less h⟩⟩
theorem DrOk.more {p : Pm} {H : Hp} {ex : List Addr} {dr : List T} (h : ∀ a ∈ ex, a ∈ p.ex ∨ H a = none) (r : DrOk p H dr) : DrOk (p.w ex) H dr := by
  unfold DrOk at r ⊢
  show match p.d with | none => True | some a => ∃ vs, H a = some (.lst vs) ∧ Reps (p.w ex) H dr vs
  cases hd : p.d with
  | none => trivial
  | some a =>
    rw [hd] at r
    obtain ⟨vs, h1, h2⟩ := r
    exact ⟨vs, h1, h2.more h⟩
theorem DrOk.less {p : Pm} {H : Hp} {ex : List Addr} {dr : List T} (h : ∀ a ∈ p.ex, a ∈ ex) (r : DrOk (p.w ex) H dr) : DrOk p H dr := by
  unfold DrOk at r ⊢
  have r : match p.d with | none => True | some a => ∃ vs, H a = some (.lst vs) ∧ Reps (p.w ex) H dr vs := r
  cases hd : p.d with
  | none => trivial
  | some a =>
    rw [hd] at r
    obtain ⟨vs, h1, h2⟩ := r
    exact ⟨vs, h1, h2.less h⟩
theorem Ok.less {p : Pm} {H : Hp} {ex : List Addr} {dr : List T} (h : ∀ a ∈ p.ex, a ∈ ex) (r : Ok (p.w ex) H dr) : Ok p H dr := ⟨r.1.less h, r.2.1, fun a ha => r.2.2 a (h a ha)⟩

/-! ### the list being made grows: nothing else looks at it -/
mutual
theorem Rep.updD {q : Pm} {H : Hp} {D : Addr} {zs : List V} (hD : D ∈ q.ex) (hL : ∃ xs, H D = some (.lst xs)) : ∀ {t : T} {v : V}, Rep q H t v → Rep q (upd H D (.lst zs)) t v
  | .non, _, r => r
  | .bl _, _, r => r
  | .int _, _, r => r
  | .str _, _, r => r
  | .tup ts, _, r => by
    obtain ⟨a, vs, rfl, s, w⟩ := r
    obtain ⟨xs, hL'⟩ := hL
    refine ⟨a, vs, rfl, ?_, Reps.updD hD ⟨xs, hL'⟩ w⟩
    rcases s with (s | ⟨o, s⟩) | s
    · exact .inl (.inl (by rw [upd_ne (fun z => by rw [z, hL'] at s; cases s)]; exact s))
    · exact .inl (.inr ⟨o, by rw [upd_ne (fun z => by rw [z, hL'] at s; cases s)]; exact s⟩)
    · exact .inr s
  | .lst ts, _, r => by
    obtain ⟨a, vs, rfl, s, n, w⟩ := r
    exact ⟨a, vs, rfl, by rw [upd_ne (show a ≠ D from fun z => n.2 (by rw [z]; exact hD))]; exact s, n, Reps.updD hD hL w⟩
  | .fls ts, _, r => by
    obtain ⟨a, vs, rfl, s, w⟩ := r
    refine ⟨a, vs, rfl, ?_, Reps.updD hD hL w⟩
    rcases s with ⟨s | ⟨o, s⟩, n⟩ | s
    · exact .inl ⟨.inl (by rw [upd_ne (show a ≠ D from fun z => n.2 (by rw [z]; exact hD))]; exact s), n⟩
    · exact .inl ⟨.inr ⟨o, by rw [upd_ne (show a ≠ D from fun z => n.2 (by rw [z]; exact hD))]; exact s⟩, n⟩
    · exact .inr s
  | .ref, _, r => r
  | .exo C ns ts, _, r => by
    obtain ⟨c, a, d, vs, hc, rfl, s, n, w⟩ := r
    have ne : ∀ {b : Addr} {φ : Heap → Prop}, H b = some (.ext φ) → b ≠ D := fun {b φ} e z => by
      obtain ⟨xs, q⟩ := hL
      rw [z, q] at e
      cases e
    exact ⟨c, a, d, vs, hc, rfl, by rw [upd_ne (ne s)]; exact s, by rw [upd_ne (ne n)]; exact n, Reps.updD hD hL w⟩
theorem Reps.updD {q : Pm} {H : Hp} {D : Addr} {zs : List V} (hD : D ∈ q.ex) (hL : ∃ xs, H D = some (.lst xs)) : ∀ {ts : List T} {vs : List V}, Reps q H ts vs → Reps q (upd H D (.lst zs)) ts vs
  | [], _, r => r
  | t :: ts, _, r => by
    obtain ⟨v, w, rfl, a, b⟩ := r
    exact ⟨v, w, rfl, Rep.updD hD hL a, Reps.updD hD hL b⟩
end
theorem RelS.updD {q : Pm} {H : Hp} {D : Addr} {zs : List V} {σ : L2.St} {env : Env} (hD : D ∈ q.ex) (hL : ∃ xs, H D = some (.lst xs)) (r : RelS q H σ env) : RelS q (upd H D (.lst zs)) σ env := ⟨r.1, fun i t z => let ⟨v, a, b⟩ := r.2 i t z; ⟨v, a, b.updD hD hL⟩⟩
theorem Ok.updD {q : Pm} {H : Hp} {D : Addr} {zs : List V} {dr : List T} (o : Ok q H dr) (hD : D ∈ q.ex) (hL : ∃ xs, H D = some (.lst xs)) : Ok q (upd H D (.lst zs)) dr := by
  obtain ⟨o1, o2, o3⟩ := o
  refine ⟨?_, fun P hP => ?_, fun a ha => ⟨(o3 a ha).1, ?_⟩⟩
  · unfold DrOk at o1 ⊢
    cases hd : q.d with
    | none => trivial
    | some a =>
      rw [hd] at o1
      obtain ⟨vs, h1, h2⟩ := o1
      have ne : a ≠ D := fun z => (o3 D hD).1 (by rw [hd, z])
      exact ⟨vs, by rw [upd_ne ne]; exact h1, h2.updD hD hL⟩
  · obtain ⟨ps, h1, h2⟩ := o2 P hP
    obtain ⟨xs, hL'⟩ := hL
    exact ⟨ps, by rw [upd_ne (fun z => by rw [z, hL'] at h1; cases h1)]; exact h1, h2⟩
  · by_cases e : a = D
    · rw [e]; exact ⟨zs, upd_same⟩
    · rw [upd_ne e]; exact (o3 a ha).2

/-! ### what is walked -/
def ItOk (p : Pm) (J : It) (ts : List T) (H1 : Hp) : Prop := ∀ (ex : List Addr), (∀ a ∈ ex, a ∈ p.ex ∨ H1 a = none) → ∀ H, Ext p H1 H → ∀ i : Nat,
  (∀ t, ts[i]? = some t → J.go i H ∧ ∀ x H', J.yld i H x H' → Same H H' ∧ Rep (p.w ex) H' t x) ∧ (i = ts.length → J.stop i H)
def tI (p : Pm) (fi : AF) : TI := fun σ H R => ∃ env dr ts dr', RelS p H σ env ∧ Ok p H dr ∧ fi env dr = some (ts, dr') ∧ ∀ J H1, Ext p H H1 → Ok p H1 dr' → ItOk p J ts H1 → R J H1
abbrev SI (p : Pm) (X : Cx) (tg iter : Expr) (fi : AF) : Prop := PI X tg iter (tI p fi)
section
variable {p : Pm} {X : Cx} (hK : p.K = X.K) {tg e : Expr} {f : EF}
theorem it_list {c : Addr} {ts : List T} {vs : List V} {H : Hp} (hf : SqF p H c vs) (r : Reps p H ts vs) : ItOk p (Itl p.K c) ts H := by
  intro ex hex H2 e i
  have s2 := (e.sqF hf).sq
  have r2 := (r.more hex).ext e.w
  have inj : ∀ xs, SqL p.K H2 c xs → True := fun _ _ => trivial
  refine ⟨fun t ht => ?_, fun hi => ⟨vs, s2, by rw [r.length]; omega⟩⟩
  obtain ⟨v, h1, h2⟩ := r2.get ht
  exact ⟨⟨vs, v, s2, h1⟩, fun x H' ⟨e1, h3⟩ => by
    subst e1
    have := h3 vs s2
    rw [h1] at this
    cases this
    exact ⟨Same.refl _, h2⟩⟩
theorem it_tup {c : Addr} {ts : List T} {vs : List V} {H : Hp} (hf : SqT p.K H c vs) (r : Reps p H ts vs) : ItOk p (Itt p.K c) ts H := by
  intro ex hex H2 e i
  have s2 := e.sqT hf
  have r2 := (r.more hex).ext e.w
  refine ⟨fun t ht => ?_, fun hi => ⟨vs, s2, by rw [r.length]; omega⟩⟩
  obtain ⟨v, h1, h2⟩ := r2.get ht
  exact ⟨⟨vs, v, s2, h1⟩, fun x H' ⟨e1, h3⟩ => by
    subst e1
    have := h3 vs s2
    rw [h1] at this
    cases this
    exact ⟨Same.refl _, h2⟩⟩
theorem it_str {x : Str} {H : Hp} : ItOk p (Its x) (x.cps.toList.map fun c => .str [c]) H := by
  intro ex hex H2 e i
  refine ⟨fun t ht => ?_, fun hi => by rw [hi, List.length_map]; simp [Its]⟩
  rw [List.getElem?_map] at ht
  cases hc : x.cps.toList[i]? with
  | none => rw [hc] at ht; cases ht
  | some c =>
    rw [hc] at ht
    cases ht
    have hi := (List.getElem?_eq_some_iff.mp hc).1
    refine ⟨show i < x.cps.size by simpa using hi, fun v H' ⟨e1, c', e2, e3⟩ => ?_⟩
    subst e1
    rw [← Array.getElem?_toList, hc] at e2
    cases e2
    exact ⟨Same.refl _, _, e3, rfl⟩
def rngL (lo : Int) (n : Nat) : List T := (List.range n).map fun (i : Nat) => .int (lo + (i : Int))
theorem it_rng {lo : Int} {n : Nat} {H : Hp} : ItOk p (Itr lo n) (rngL lo n) H := by
  intro ex hex H2 e i
  unfold rngL
  refine ⟨fun t ht => ?_, fun hi => by rw [hi, List.length_map, List.length_range]; exact Nat.le_refl _⟩
  rw [List.getElem?_map] at ht
  cases hc : (List.range n)[i]? with
  | none => rw [hc] at ht; cases ht
  | some c =>
    rw [hc] at ht
    cases ht
    obtain ⟨hi, e2⟩ := List.getElem?_eq_some_iff.mp hc
    rw [List.getElem_range] at e2
    subst e2
    rw [List.length_range] at hi
    exact ⟨hi, fun v H' ⟨e1, e3⟩ => by subst e1; exact ⟨Same.refl _, e3⟩⟩
/-- a list, a tuple, a text -/
def iSeq (f : EF) : AF := fun env dr => match f env dr with
  | some (.tup ts, dr1) => some (ts, dr1)
  | some (.lst ts, dr1) => some (ts, dr1)
  | some (.fls ts, dr1) => some (ts, dr1)
  | some (.str cs, dr1) => some (cs.map (fun c => .str [c]), dr1)
  | _ => none
include hK in
theorem si_seq (ha : SE p X e f) : SI p X tg e (iSeq f) := ⟨fun pins s σ H R I ⟨env, dr, ts, dr', hR, hO, hf, q⟩ => by
  unfold iSeq at hf
  split at hf
  · rename_i us dr1 h1
    cases hf
    refine (pi_tup ha).run pins s σ H R I ⟨env, dr, _, _, hR, hO, h1, fun v H1 e1 r1 o1 => ?_⟩
    obtain ⟨c, vs, rfl, hh, s1⟩ := r1
    exact ⟨c, rfl, ⟨vs, hK ▸ hh⟩, hK ▸ q _ H1 e1 o1 (it_tup hh s1)⟩
  · rename_i us dr1 h1
    cases hf
    refine (pi_list ha).run pins s σ H R I ⟨env, dr, _, _, hR, hO, h1, fun v H1 e1 r1 o1 => ?_⟩
    obtain ⟨c, vs, rfl, hh, n1, s1⟩ := r1
    exact ⟨c, rfl, ⟨vs, .inl (.inl hh)⟩, hK ▸ q _ H1 e1 o1 (it_list (.inl ⟨.inl hh, n1⟩) s1)⟩
  · rename_i us dr1 h1
    cases hf
    refine (pi_list ha).run pins s σ H R I ⟨env, dr, _, _, hR, hO, h1, fun v H1 e1 r1 o1 => ?_⟩
    obtain ⟨c, vs, rfl, hh, s1⟩ := r1
    exact ⟨c, rfl, ⟨vs, hK ▸ hh.sq⟩, hK ▸ q _ H1 e1 o1 (it_list hh s1)⟩
  · rename_i us dr1 h1
    cases hf
    refine (pi_str ha).run pins s σ H R I ⟨env, dr, _, _, hR, hO, h1, fun v H1 e1 r1 o1 => ?_⟩
    obtain ⟨x, rfl, ex⟩ := r1
    subst ex
    exact ⟨x, rfl, q _ H1 e1 o1 it_str⟩
  · cases hf⟩
def rngOk (i : Int) : Prop := -(2 ^ 62) ≤ i ∧ i < 2 ^ 62
instance (i : Int) : Decidable (rngOk i) := inferInstanceAs (Decidable (_ ∧ _))
def iRng1 (l : EF) : AF := fun env dr => match l env dr with
  | some (.int j, dr1) => if rngOk j then some (rngL 0 j.toNat, dr1) else none
  | _ => none
def iRng2 (l g : EF) : AF := fun env dr => match l env dr with
  | some (.int i, dr1) => (match g env dr1 with
    | some (.int j, dr2) => if rngOk i ∧ rngOk j then some (rngL i (j - i).toNat, dr2) else none
    | _ => none)
  | _ => none
theorem si_rng1 {a : Expr} {f : EF} {pp pos : Pos} (hm : X.mg "range" = none) (ha : SE p X a f) (hg : Gl X "range" := by rfl) (hs : starEach [a] X.env = [(false, eval a X.env)] := by rfl) : SI p X tg (.Call (.Name "range" pp) [a] [] pos) (FL.iRng1 f) := ⟨fun pins s σ H R I ⟨env, dr, ts, dr', hR, hO, hf, q⟩ => by
  unfold FL.iRng1 at hf
  split at hf
  · rename_i j dr1 h1
    split at hf
    · rename_i hz
      cases hf
      refine (pi_range1 hg hm (pa_cons ha pa_nil hs) hs).run pins s σ H R I ⟨env, dr, _, _, hR, hO, h1, fun v H1 e1 r1 o1 => ?_⟩
      exact ⟨j, by rw [show v = _ from r1], hz.1, hz.2, q _ H1 e1 o1 it_rng⟩
    · cases hf
  · cases hf⟩
theorem si_rng2 {a b : Expr} {f g : EF} {pp pos : Pos} (hm : X.mg "range" = none) (ha : SE p X a f) (hb : SE p X b g) (hg : Gl X "range" := by rfl) (hs : starEach [a, b] X.env = [(false, eval a X.env), (false, eval b X.env)] := by rfl) (hs2 : starEach [b] X.env = [(false, eval b X.env)] := by rfl) :
    SI p X tg (.Call (.Name "range" pp) [a, b] [] pos) (FL.iRng2 f g) := ⟨fun pins s σ H R I ⟨env, dr, ts, dr', hR, hO, hf, q⟩ => by
  unfold FL.iRng2 at hf
  split at hf
  · rename_i i dr1 h1
    split at hf
    · rename_i j dr2 h2
      split at hf
      · rename_i hz
        cases hf
        refine (pi_range2 hg hm (pa_cons ha (pa_cons hb pa_nil hs2) (by rw [hs, hs2])) hs hs2).run pins s σ H R I ⟨env, dr, _, _, hR, hO, h1, fun v H1 e1 r1 o1 => ⟨env, dr1, _, _, hR.ext e1, o1, h2, fun u H2 e2 r2 o2 => ?_⟩⟩
        exact ⟨i, j, by rw [show v = _ from r1, show u = _ from r2], ⟨hz.1.1, hz.1.2, hz.2.1, hz.2.2⟩, q _ H2 (e1.trans e2) o2 it_rng⟩
      · cases hf
    · cases hf
  · cases hf⟩

/-! ### list comprehensions -/
abbrev BF := T → Env → Option Env
def bN (i : Nat) : BF := fun t env => some (env.set i (some t))
def bN2 (i j : Nat) : BF := fun t env => match t with
  | .tup [a, b] => some ((env.set i (some a)).set j (some b))
  | _ => none
def uYes : TF := fun _ dr => some (true, dr)
def lcGo (b : BF) (u : TF) (f : EF) (envw : Env) : List T → List T → Option (List T × List T)
  | [], dr => some ([], dr)
  | t :: ts, dr => match b t envw with
    | none => none
    | some env1 => match u env1 dr with
      | none => none
      | some (false, dr1) => lcGo b u f envw ts dr1
      | some (true, dr1) => match f env1 dr1 with
        | none => none
        | some (y, dr2) => match lcGo b u f envw ts dr2 with
          | none => none
          | some (ys, dr3) => some (y :: ys, dr3)
def lcF (fi : AF) (b : BF) (u : TF) (f : EF) (vs : List Nat) : EF := fun env dr => match fi env dr with
  | none => none
  | some (ts, dr1) => match lcGo b u f (wipeE env vs) ts dr1 with
    | none => none
    | some (ys, dr2) => if ys.length ≤ lim then some (.lst ys, dr2) else none
/-- what a target's reading does with a tree -/
def GOk (p : Pm) (X : Cx) (g : TG) (b : BF) (vs : List Nat) : Prop := ∀ (ex : List Addr) (t : T) (v : V) (σ : L2.St) (H : Hp) (env env1 : Env) (Q : L2.St → Hp → Prop), Rep (p.w ex) H t v → RelS (p.w ex) H σ env → b t env = some env1 →
  (∀ σ2, RelS (p.w ex) H σ2 env1 → wipe σ2 vs = wipe σ vs → Q σ2 H) → g v σ H Q
theorem wipe_set {σ : L2.St} {v : Option V} {i : Nat} : ∀ {vs : List Nat}, i ∈ vs → wipe (σ.set i v) vs = wipe σ vs
  | [], h => by cases h
  | j :: vs, h => by
    unfold wipe
    by_cases e : i ∈ vs
    · rw [wipe_set e]
    · have : i = j := by
        rcases List.mem_cons.mp h with h | h
        · exact h
        · exact absurd h e
      subst this
      clear h
      have key : ∀ (us : List Nat) (τ : L2.St), i ∉ us → wipe (τ.set i v) us = (wipe τ us).set i v := by
        intro us
        induction us with
        | nil => intro τ _; rfl
        | cons k us ih =>
          intro τ hk
          unfold wipe
          rw [ih τ fun z => hk (List.mem_cons_of_mem _ z), List.set_comm _ _ (fun z => hk (by rw [z]; exact List.mem_cons_self))]
      rw [key vs σ e, List.set_set]
theorem g_name {i : Nat} {vs : List Nat} (h : i ∈ vs) : GOk p X (gName i) (bN i) vs := fun ex t v σ H env env1 Q r rs e q => by
  cases e
  exact q _ (rs.set r i) (wipe_set h)
include hK in
theorem g_two {i j : Nat} {vs : List Nat} (hi : i ∈ vs) (hj : j ∈ vs) : GOk p X (gTup X.K 2 (gCons (gName i) (gCons (gName j) gNil))) (bN2 i j) vs := fun ex t v σ H env env1 Q r rs e q => by
  unfold bN2 at e
  split at e
  · cases e
    obtain ⟨a, xs, rfl, hh, s1⟩ := r
    obtain ⟨x, r1, rfl, hx, s2⟩ := s1
    obtain ⟨y, r2, rfl, hy, s3⟩ := s2
    have : r2 = [] := s3
    subst this
    refine ⟨a, [x, y], rfl, hK ▸ hh, rfl, x, [y], rfl, y, [], rfl, rfl, q _ ((rs.set hx i).set hy j) ?_⟩
    rw [wipe_set hj, wipe_set hi]
  · cases e
theorem lc_go_cons {b : BF} {u : TF} {f : EF} {envw : Env} {t : T} {ts dr ys dr' : List T} (h : lcGo b u f envw (t :: ts) dr = some (ys, dr')) :
    ∃ env1, b t envw = some env1 ∧ ((∃ dr1, u env1 dr = some (false, dr1) ∧ lcGo b u f envw ts dr1 = some (ys, dr')) ∨ ∃ dr1 y dr2 zs, u env1 dr = some (true, dr1) ∧ f env1 dr1 = some (y, dr2) ∧ lcGo b u f envw ts dr2 = some (zs, dr') ∧ ys = y :: zs) := by
  unfold lcGo at h
  cases h1 : b t envw with
  | none => rw [h1] at h; cases h
  | some env1 =>
    rw [h1] at h
    dsimp only at h
    refine ⟨env1, rfl, ?_⟩
    split at h
    · cases h
    · rename_i dr1 h2
      exact .inl ⟨dr1, h2, h⟩
    · rename_i dr1 h2
      right
      cases h3 : f env1 dr1 with
      | none => rw [h3] at h; cases h
      | some z =>
        obtain ⟨y, dr2⟩ := z
        rw [h3] at h
        dsimp only at h
        cases h4 : lcGo b u f envw ts dr2 with
        | none => rw [h4] at h; cases h
        | some z =>
          obtain ⟨zs, dr3⟩ := z
          rw [h4] at h
          cases h
          exact ⟨dr1, y, dr2, zs, h2, h3, h4, rfl⟩
theorem lc_len {b : BF} {u : TF} {f : EF} {envw : Env} : ∀ {ts dr ys dr' : List T}, lcGo b u f envw ts dr = some (ys, dr') → ys.length ≤ ts.length
  | [], _, _, _, h => by cases h; exact Nat.le_refl _
  | t :: ts, _, _, _, h => by
    obtain ⟨env1, _, ⟨dr1, _, h3⟩ | ⟨dr1, y, dr2, zs, _, _, h3, rfl⟩⟩ := lc_go_cons h
    · exact Nat.le_succ_of_le (lc_len h3)
    · exact Nat.succ_le_succ (lc_len h3)
/-- the tests' and the element's readings, whatever the new list is -/
def tTD (p : Pm) (u : TF) : TT := fun σ H Q => ∃ D : Addr, tT (p.w (D :: p.ex)) u σ H Q
def tED (p : Pm) (f : EF) : TE := fun σ H Q => ∃ D : Addr, tE (p.w (D :: p.ex)) f σ H Q
theorem pts_yes {Y : Cx} : PTs Y [] (tTD p uYes) := ⟨fun pins s σ H Q I ⟨D, env, dr, t, dr', hR, hO, hf, q⟩ => by
  cases hf
  exact wpAny_tests_nil ⟨H, I, q H .refl hO⟩⟩
theorem pts_if {Y : Cx} {c : Expr} {u : TF} (h : ∀ D, SB (p.w (D :: p.ex)) Y c u) : PTs Y [c] (tTD p u) := pts_one ⟨fun pins s σ H Q I ⟨D, q⟩ => (h D).run pins s σ H Q I q⟩
theorem pe_D {Y : Cx} {c : Expr} {f : EF} (h : ∀ D, SE (p.w (D :: p.ex)) Y c f) : PE Y c (tED p f) := ⟨fun pins s σ H Q I ⟨D, q⟩ => (h D).run pins s σ H Q I q⟩
theorem wipe_idem (σ : L2.St) (vs : List Nat) : wipe (wipe σ vs) vs = wipe σ vs := by
  have idem : ∀ us : List Nat, (∀ k ∈ us, k ∈ vs) → wipe (wipe σ vs) us = wipe σ vs := by
    intro us
    induction us with
    | nil => intro _; rfl
    | cons k us ih =>
      intro hk
      show (wipe (wipe σ vs) us).set k none = wipe σ vs
      rw [ih fun j hj => hk j (List.mem_cons_of_mem _ hj)]
      have nn : ∀ {ws : List Nat}, k ∈ ws → (wipe σ ws).set k none = wipe σ ws := by
        intro ws
        induction ws with
        | nil => intro h; cases h
        | cons l ws ihw =>
          intro h
          show ((wipe σ ws).set l none).set k none = (wipe σ ws).set l none
          by_cases e : k = l
          · subst e; rw [List.set_set]
          · rw [List.set_comm _ _ (Ne.symm e)]
            rcases List.mem_cons.mp h with h | h
            · exact absurd h e
            · rw [ihw h]
      exact nn (hk k List.mem_cons_self)
  exact idem vs fun k h => h
theorem tLc_in {fi : AF} {b : BF} {u : TF} {f : EF} {g : TG} {vs : List Nat} (hg : GOk p X g b vs) : ∀ σ H Q, tE p (lcF fi b u f vs) σ H Q → tLc (tI p fi) g (tTD p u) (tED p f) vs σ H Q := fun σ H Q ⟨env, dr, t, dr', hR, hO, hf, q⟩ => by
  unfold lcF at hf
  cases h1 : fi env dr with
  | none => rw [h1] at hf; cases hf
  | some z =>
    obtain ⟨ts, dr1⟩ := z
    rw [h1] at hf
    dsimp only at hf
    cases h2 : lcGo b u f (wipeE env vs) ts dr1 with
    | none => rw [h2] at hf; cases hf
    | some z =>
      obtain ⟨ys, dr2⟩ := z
      rw [h2] at hf
      dsimp only at hf
      split at hf
      · rename_i hz
        cases hf
        refine ⟨env, dr, ts, dr1, hR, hO, h1, fun J H1 e1 o1 hJ D hD => ?_⟩
        have hex : ∀ a ∈ D :: p.ex, a ∈ p.ex ∨ H1 a = none := fun a ha => (List.mem_cons.mp ha).elim (fun z => .inr (by rw [z]; exact hD)) .inl
        have hless : ∀ a ∈ p.ex, a ∈ D :: p.ex := fun a ha => List.mem_cons_of_mem _ ha
        have s0 : Same H1 (upd H1 D (.lst [])) := same_new hD _
        have okD : ∀ {H2 : Hp} {dr3 : List T}, Ok (p.w (D :: p.ex)) H2 dr3 → Ok p H2 dr3 := fun o => o.less hless
        have fD : Fre p D := d_ne o1 hD
        refine ⟨fun i m H2 => ∃ done dr3 acc rest, m = ts.length - i ∧ i ≤ ts.length ∧ H2 D = some (.lst acc) ∧ Reps (p.w (D :: p.ex)) H2 done acc ∧ Ext p H1 H2 ∧ Ok (p.w (D :: p.ex)) H2 dr3 ∧ RelS (p.w (D :: p.ex)) H2 (wipe σ vs) (wipeE env vs) ∧ lcGo b u f (wipeE env vs) (ts.drop i) dr3 = some (rest, _) ∧ done ++ rest = ys,
          ⟨ts.length, [], dr1, [], ys, by simp, Nat.zero_le _, upd_same, .nil, .same s0, ?_, ?_, by rw [List.drop_zero]; exact h2, rfl⟩, ?_⟩
        · have o2 := o1.same s0
          refine ⟨(o1.1.more hex).ext (.same s0) fun a xs z => s0 _ _ z, o2.2.1, fun a ha => ?_⟩
          rcases List.mem_cons.mp ha with rfl | ha
          · exact ⟨fD.1, [], upd_same⟩
          · exact o2.2.2 a ha
        · exact (((hR.ext e1).more hex).ext (.same s0)).wipe vs
        rintro i m H2 ⟨done, dr3, acc, rest, rfl, hi, hD2, rd, e2, o2, rs, go, hys⟩
        obtain ⟨jgo, jstop⟩ := hJ (D :: p.ex) hex H2 e2 i
        rcases Nat.lt_or_ge i ts.length with hlt | hge
        · right
          have hdrop : ts.drop i = ts[i] :: ts.drop (i + 1) := List.drop_eq_getElem_cons hlt
          rw [hdrop] at go
          obtain ⟨j1, j2⟩ := jgo ts[i] (List.getElem?_eq_getElem hlt)
          have alen : acc.length ≤ lim := by
            rw [rd.length]
            have : done.length ≤ ys.length := by rw [← hys, List.length_append]; omega
            omega
          refine ⟨j1, fun H3 => ∃ done dr3 acc rest, H3 D = some (.lst acc) ∧ Reps (p.w (D :: p.ex)) H3 done acc ∧ Ext p H1 H3 ∧ Ok (p.w (D :: p.ex)) H3 dr3 ∧ RelS (p.w (D :: p.ex)) H3 (wipe σ vs) (wipeE env vs) ∧ lcGo b u f (wipeE env vs) (ts.drop (i + 1)) dr3 = some (rest, _) ∧ done ++ rest = ys,
            fun H3 ⟨a1, a2, a3, a4, b1, b2, b3, b4, b5, b6, b7⟩ => ⟨ts.length - (i + 1), by omega, a1, a2, a3, a4, rfl, hlt, b1, b2, b3, b4, b5, b6, b7⟩, fun x H3 yx => ?_⟩
          obtain ⟨s3, rx⟩ := j2 x H3 yx
          obtain ⟨env1, hb, hcase⟩ := lc_go_cons go
          refine hg (D :: p.ex) ts[i] x (wipe σ vs) H3 (wipeE env vs) env1 _ rx (rs.ext (.same s3)) hb fun σ2 rs2 hw2 => ⟨?_, ?_⟩
          · rw [hw2]
            exact wipe_idem _ _
          have oD : Ok (p.w (D :: p.ex)) H3 dr3 := o2.same s3
          have e3 : Ext (p.w (D :: p.ex)) H2 H3 := .same s3
          rcases hcase with ⟨dr4, hu, hgo⟩ | ⟨dr4, y, dr5, zs, hu, hf5, hgo, rfl⟩
          · refine ⟨D, env1, dr3, false, dr4, rs2, oD, hu, fun H4 e4 o4 => ?_⟩
            refine iteF ?_
            have e24 := e3.trans e4
            exact ⟨done, dr4, acc, rest, e24.lst _ _ fD.1 hD2, rd.ext e24, e2.trans e24.unw, o4, rs.ext e24, hgo, hys⟩
          · refine ⟨D, env1, dr3, true, dr4, rs2, oD, hu, fun H4 e4 o4 => ?_⟩
            refine iteT ?_
            refine ⟨D, env1, dr4, y, dr5, rs2.ext e4, o4, hf5, fun v H5 e5 r5 o5 => ?_⟩
            have e25 := e3.trans (e4.trans e5)
            have hD5 := e25.lst _ _ fD.1 hD2
            refine ⟨acc, hD5, Nat.lt_of_le_of_lt alen (by decide), ?_⟩
            -- the list grows
            have noD : ∀ (a : Addr) (o : HO), H1 a = some o → a ≠ D := fun a o z w => by rw [w, hD] at z; cases z
            have eG : Ext p H1 (upd H5 D (.lst (acc ++ [v]))) := by
              have e15 := e2.trans e25.unw
              refine ⟨fun a xs z => ?_, fun a o w z => ?_, fun a xs n z => ?_, fun P z => ?_, fun a φ z => ?_⟩
              · rw [upd_ne (noD a _ z)]; exact e15.tup _ _ z
              · rw [upd_ne (noD a _ z)]; exact e15.frz _ _ _ z
              · rw [upd_ne (noD a _ z)]; exact e15.lst _ _ n z
              · have hne : P ≠ D := by obtain ⟨ps, z1, _⟩ := z; exact noD P _ z1
                obtain ⟨qs, z2, z3⟩ := e15.tab P z
                exact ⟨qs, by rw [upd_ne hne]; exact z2, z3⟩
              · rw [upd_ne (noD a _ z)]; exact e15.ext _ _ z
            have o6 := o5.updD (zs := acc ++ [v]) List.mem_cons_self ⟨acc, hD5⟩
            exact ⟨done ++ [y], dr5, acc ++ [v], zs, upd_same, (rd.ext e25).append (.cons r5 .nil) |>.updD List.mem_cons_self ⟨acc, hD5⟩, eG, o6, (rs.ext e25).updD List.mem_cons_self ⟨acc, hD5⟩, hgo, by rw [List.append_assoc]; exact hys⟩
        · left
          have hie : i = ts.length := by omega
          rw [hie, List.drop_length] at go
          cases go
          rw [List.append_nil] at hys
          subst hys
          exact ⟨jstop hie, q _ H2 (e1.trans e2) ⟨D, acc, rfl, hD2, fD, rd.less hless⟩ (okD o2)⟩
      · cases hf

variable {elt iter : Expr} {scope : Scope} {own : List (Str × Nat)} {pos : Pos} {fi : AF} {u : TF}
theorem se_lc {ifs : List Expr} {g : TG} {b : BF} (hgb : GOk p X g b (own.map (·.2))) (hc : X.calm = true) (hN : X.N.Nodup) (hi : SI p X tg iter fi) (ok : BlkOk X.N X.env.scope scope own)
    (hg : ∀ (s : Shared) (H : Hp) (C : Addr) (cl : List (Str × Addr)) (fp : List Addr), PG (X.blk s H scope (compEnvC scope cl C X.env) fp) tg g)
    (ht : ∀ (s : Shared) (H : Hp) (C : Addr) (cl : List (Str × Addr)) (fp : List Addr), PTs (X.blk s H scope (compEnvC scope cl C X.env) fp) ifs (tTD p u))
    (he : ∀ (D : Addr) (s : Shared) (H : Hp) (C : Addr) (cl : List (Str × Addr)) (fp : List Addr), SE (p.w (D :: p.ex)) (X.blk s H scope (compEnvC scope cl C X.env) fp) elt f)
    (hs : ∀ x, foldedSetIterable iter X.env x = pure x := by intro _; rfl) : SE p X (.ListComp elt [⟨tg, iter, ifs, 0⟩] scope pos) (lcF fi b u f (own.map (·.2))) :=
  pe_imp (pe_lc hc hN hi ok hg ht (fun s H C cl fp => pe_D fun D => he D s H C cl fp) hs) (tLc_in hgb)

/-! ### all(.. for ..) -/
def allGo (b : BF) (f : EF) (envw : Env) : List T → List T → Option (T × List T)
  | [], dr => some (.bl true, dr)
  | t :: ts, dr => match b t envw with
    | none => none
    | some env1 => match f env1 dr with
      | some (.bl false, dr1) => some (.bl false, dr1)
      | some (.bl true, dr1) => allGo b f envw ts dr1
      | _ => none
def allG (fi : AF) (b : BF) (f : EF) (vs : List Nat) : EF := fun env dr => match fi env dr with
  | none => none
  | some (ts, dr1) => allGo b f (wipeE env vs) ts dr1
theorem se_allG {P cA : Addr} {g : TG} {b : BF} {x : Str} {k : Nat} {pp gpos : Pos} (hgb : GOk p X g b (own.map (·.2))) (hP : P ∈ p.tabs) (hc : X.calm = true) (hN : X.N.Nodup) (hr : Room (k + 1) X.A) (hm : X.mg "all" = none) (TB : TabB X.base X.mg cA P) (hcode : X.env.code = .ref cA)
    (S : GenO X scope own) (hi : SI p X tg iter fi)
    (hpg : ∀ (A' : Around) (s : Shared) (H : Hp) (C : Addr) (cl : List (Str × Addr)) (code : Value) (fp : List Addr) (pn : List (Addr × Obj)), PG (gx X A' s H scope (genEnv scope cl C code builtinsNs X.env) fp pn) tg g)
    (hpe : ∀ (A' : Around) (s : Shared) (H : Hp) (C : Addr) (cl : List (Str × Addr)) (code : Value) (fp : List Addr) (pn : List (Addr × Obj)), Room k A' → SE p (gx X A' s H scope (genEnv scope cl C code builtinsNs X.env) fp pn) elt f)
    (hg : Gl X "all" := by rfl) (hs : ∀ v, genFold iter X.env v = pure v := by intro _; rfl)
    (he : starEach [.GeneratorExp elt [⟨tg, iter, [], 0⟩] scope gpos] X.env = (false, eval (.GeneratorExp elt [⟨tg, iter, [], 0⟩] scope gpos) X.env) :: starEach [] X.env := by rfl) :
    SE p X (.Call (.Name "all" pp) [.GeneratorExp elt [⟨tg, iter, [], 0⟩] scope gpos] [] pos) (allG fi b f (own.map (·.2))) :=
  pe_imp (pe_allG hc hN hr hg hm (by decide +kernel) TB hcode S hi hpg hpe hs he) fun σ H Q ⟨env, dr, t, dr', hR, hO, hf, q⟩ => by
    unfold allG at hf
    cases h1 : fi env dr with
    | none => rw [h1] at hf; cases hf
    | some z =>
      obtain ⟨ts, dr1⟩ := z
      rw [h1] at hf
      dsimp only at hf
      refine ⟨env, dr, ts, dr1, hR, hO, h1, fun J H1 e1 o1 hJ => ⟨o1.2.1 P hP, fun H2 tb => ?_⟩⟩
      have e12 : Ext p H1 H2 := Ext.tabbed (o1.2.1 P hP) tb
      have o2 := o1.tabbed (o1.2.1 P hP) tb
      refine ⟨ts.length, fun i H3 => ∃ dr3, i ≤ ts.length ∧ Ext p H1 H3 ∧ Ok p H3 dr3 ∧ RelS p H3 (wipe σ (own.map (·.2))) (wipeE env (own.map (·.2))) ∧ allGo b f (wipeE env (own.map (·.2))) (ts.drop i) dr3 = some (t, dr'),
        ⟨dr1, Nat.zero_le _, e12, o2, ((hR.ext e1).ext e12).wipe _, by rw [List.drop_zero]; exact hf⟩, ?_⟩
      rintro i H3 ⟨dr3, hi3, e13, o3, rs, go⟩
      obtain ⟨jgo, jstop⟩ := hJ p.ex (fun a ha => .inl ha) H3 e13 i
      rcases Nat.lt_or_ge i ts.length with hlt | hge
      · right
        obtain ⟨j1, j2⟩ := jgo ts[i] (List.getElem?_eq_getElem hlt)
        have hdrop : ts.drop i = ts[i] :: ts.drop (i + 1) := List.drop_eq_getElem_cons hlt
        rw [hdrop] at go
        refine ⟨hlt, j1, fun v H4 yv => ?_⟩
        obtain ⟨s4, rv⟩ := j2 v H4 yv
        unfold allGo at go
        cases hb : b ts[i] (wipeE env (own.map (·.2))) with
        | none => rw [hb] at go; cases go
        | some env1 =>
          rw [hb] at go
          dsimp only at go
          refine hgb p.ex ts[i] v _ H4 _ env1 _ rv (rs.ext (.same s4)) hb fun σ2 rs2 hw2 => ⟨?_, ?_⟩
          · rw [hw2]
            exact wipe_idem _ _
          split at go
          · rename_i dr4 hf4
            cases go
            exact ⟨env1, dr3, _, _, rs2, o3.same s4, hf4, fun w H5 e5 r5 o5 => ⟨false, r5, fun _ => q _ H5 (e1.trans (e13.trans ((Ext.same s4).trans e5))) rfl o5, fun z => by cases z⟩⟩
          · rename_i dr4 hf4
            exact ⟨env1, dr3, _, dr4, rs2, o3.same s4, hf4, fun w H5 e5 r5 o5 => ⟨true, r5, And.intro (fun z => nomatch z) (fun _ => ⟨dr4, hlt, e13.trans ((Ext.same s4).trans e5), o5, rs.ext ((Ext.same s4).trans e5), go⟩)⟩⟩
          · cases go
      · left
        have hie : i = ts.length := by omega
        rw [hie, List.drop_length] at go
        cases go
        exact ⟨hie, jstop hie, q _ H3 (e1.trans e13) rfl o3⟩
end
end FL
set_option linter.all false
set_option maxRecDepth 100000
set_option maxHeartbeats 2000000
namespace FL
open PySem PySem.Spec PyProof.Rows L2 GxR GA

inductive Out where
  | nx (e : Env) | rt (t : T) | bk (e : Env) | ct (e : Env)
abbrev SF := Env → List T → Option (Out × List T)
def Post (p : Pm) (H : Hp) (D : Ends) (dr : List T) : Out → Prop
  | .nx e => ∀ σ' H', Ext p H H' → RelS p H' σ' e → Ok p H' dr → D.nx σ' H'
  | .rt t => ∀ v H', Ext p H H' → Rep p H' t v → Ok p H' dr → D.rt v H'
  | .bk e => ∀ σ' H', Ext p H H' → RelS p H' σ' e → Ok p H' dr → D.bk σ' H'
  | .ct e => ∀ σ' H', Ext p H H' → RelS p H' σ' e → Ok p H' dr → D.ct σ' H'
def tS (p : Pm) (f : SF) : TS := fun D σ H => ∃ env dr o dr', RelS p H σ env ∧ Ok p H dr ∧ f env dr = some (o, dr') ∧ Post p H D dr' o
theorem Post.ext {p : Pm} {H H1 : Hp} {D : Ends} {dr : List T} {o : Out} (e : Ext p H H1) (h : Post p H D dr o) : Post p H1 D dr o := by
  cases o with
  | nx env => exact fun σ' H' e' => h σ' H' (e.trans e')
  | rt env => exact fun σ' H' e' => h σ' H' (e.trans e')
  | bk env => exact fun σ' H' e' => h σ' H' (e.trans e')
  | ct env => exact fun σ' H' e' => h σ' H' (e.trans e')
abbrev SS (p : Pm) (X : Cx) (st : Stmt) (f : SF) : Prop := PS X st (tS p f)
abbrev SSs (p : Pm) (X : Cx) (st : List Stmt) (f : SF) : Prop := PSs X st (tS p f)
section
variable {X : Cx} {st : Stmt} {sts : List Stmt}
theorem ps_imp {t t' : TS} (h : PS X st t) (hi : ∀ D σ H, t' D σ H → t D σ H) : PS X st t' := ⟨fun pins s σ H D I q => h.run pins s σ H D I (hi D σ H q)⟩
theorem pss_imp {t t' : TS} (h : PSs X sts t) (hi : ∀ D σ H, t' D σ H → t D σ H) : PSs X sts t' := ⟨fun pins s σ H D I q => h.run pins s σ H D I (hi D σ H q)⟩
end

section
variable {p : Pm} {X : Cx} (hK : p.K = X.K) {st : Stmt} {rest : List Stmt} {a b e : Expr} {pos : Pos} {f g : EF} {u v : SF}
def sNil : SF := fun env dr => some (.nx env, dr)
def sSeq (u v : SF) : SF := fun env dr => match u env dr with
  | some (.nx env1, dr1) => v env1 dr1
  | r => r
theorem ss_nil : SSs p X [] sNil := pss_imp pss_nil fun D σ H ⟨env, dr, o, dr', hR, hO, hf, q⟩ => by
  cases hf
  exact q σ H .refl hR hO
theorem tS_seq : ∀ D σ H, tS p (sSeq u v) D σ H → tSeq (tS p u) (tS p v) D σ H := fun D σ H ⟨env, dr, o, dr', hR, hO, hf, q⟩ => by
  unfold sSeq at hf
  split at hf
  · rename_i env1 dr1 h1
    exact ⟨env, dr, _, dr1, hR, hO, h1, fun σ' H' e' r' o' => ⟨env1, dr1, o, dr', r', o', hf, q.ext e'⟩⟩
  · rename_i r hne
    refine ⟨env, dr, o, dr', hR, hO, hf, ?_⟩
    cases o with
    | nx env1 => exact absurd hf (hne env1 dr')
    | rt t => exact q
    | bk t => exact q
    | ct t => exact q
theorem ss_cons (h1 : SS p X st u) (h2 : SSs p X rest v) : SSs p X (st :: rest) (sSeq u v) := pss_imp (pss_cons h1 h2) tS_seq
theorem ss_one (h1 : SS p X st u) : SSs p X [st] u := pss_one h1
def sRet (f : EF) : SF := fun env dr => match f env dr with
  | some (t, dr1) => some (.rt t, dr1)
  | none => none
theorem ss_ret (ha : SE p X e f) : SS p X (.Return (some e) pos) (sRet f) := ps_imp (ps_ret ha) fun D σ H ⟨env, dr, o, dr', hR, hO, hf, q⟩ => by
  unfold sRet at hf
  split at hf
  · rename_i t dr1 h1
    cases hf
    exact ⟨env, dr, t, _, hR, hO, h1, fun v H' e' r' o' => q v H' e' r' o'⟩
  · cases hf
def sExp (f : EF) : SF := fun env dr => match f env dr with
  | some (_, dr1) => some (.nx env, dr1)
  | none => none
theorem ss_expr (ha : SE p X e f) (hs : swapsWith e none pos.line X.env = pure false := by rfl) : SS p X (.Expr e pos) (sExp f) := ps_imp (ps_expr ha hs) fun D σ H ⟨env, dr, o, dr', hR, hO, hf, q⟩ => by
  unfold sExp at hf
  split at hf
  · rename_i t dr1 h1
    cases hf
    exact ⟨env, dr, t, _, hR, hO, h1, fun v H' e' r' o' => q σ H' e' (hR.ext e') o'⟩
  · cases hf
def sPass : SF := fun env dr => some (.nx env, dr)
theorem ss_pass : SS p X (.Pass pos) sPass := ps_imp ps_pass fun D σ H ⟨env, dr, o, dr', hR, hO, hf, q⟩ => by
  cases hf
  exact q σ H .refl hR hO
def sBrk : SF := fun env dr => some (.bk env, dr)
theorem ss_brk : SS p X (.Break pos) sBrk := ps_imp ps_break fun D σ H ⟨env, dr, o, dr', hR, hO, hf, q⟩ => by
  cases hf
  exact q σ H .refl hR hO
def sCt : SF := fun env dr => some (.ct env, dr)
theorem ss_ct : SS p X (.Continue pos) sCt := ps_imp ps_continue fun D σ H ⟨env, dr, o, dr', hR, hO, hf, q⟩ => by
  cases hf
  exact q σ H .refl hR hO
def sIf (c : TF) (u v : SF) : SF := fun env dr => match c env dr with
  | some (true, dr1) => u env dr1
  | some (false, dr1) => v env dr1
  | none => none
theorem ss_if {c : Expr} {cf : TF} {xs ys : List Stmt} (hc : SB p X c cf) (ha : SSs p X xs u) (hb : SSs p X ys v) : SS p X (.If c xs ys pos) (sIf cf u v) := ps_imp (ps_if hc ha hb) fun D σ H ⟨env, dr, o, dr', hR, hO, hf, q⟩ => by
  unfold sIf at hf
  split at hf
  · rename_i dr1 h1
    exact ⟨env, dr, _, dr1, hR, hO, h1, fun H' e' o' => by refine iteT ?_; exact ⟨env, dr1, o, dr', hR.ext e', o', hf, q.ext e'⟩⟩
  · rename_i dr1 h1
    exact ⟨env, dr, _, dr1, hR, hO, h1, fun H' e' o' => by refine iteF ?_; exact ⟨env, dr1, o, dr', hR.ext e', o', hf, q.ext e'⟩⟩
  · cases hf

/-! ### assignments -/
def sSet (i : Nat) (f : EF) : SF := fun env dr => match f env dr with
  | some (t, dr1) => some (.nx (env.set i (some t)), dr1)
  | none => none
theorem ss_set {i : Nat} {x : Str} {pos' : Pos} (he : SE p X e f) (hN : X.N.Nodup) (hi : X.N[i]? = some x := by rfl) (hx : Loc X.env.scope x := by first | exact .inl rfl | exact .inr rfl) (hs : swapsWith e (some (.Name x pos')) pos.line X.env = pure false := by rfl)
    (hf : X.fn x = true ∨ X.env.scope.names.lookup x = some .local := by first | exact .inl rfl | exact .inr rfl) : SS p X (.Assign [.Name x pos'] e pos) (sSet i f) := ps_imp (ps_set hN hi hx he hs hf) fun D σ H ⟨env, dr, o, dr', hR, hO, hf, q⟩ => by
  unfold sSet at hf
  split at hf
  · rename_i t dr1 h1
    cases hf
    exact ⟨env, dr, t, _, hR, hO, h1, fun v H' e' r' o' => q _ H' e' ((hR.ext e').set r' i) o'⟩
  · cases hf
/-- name = [.. for ..] -/
theorem ss_setLc {i : Nat} {y : Str} {py : Pos} {elt tg iter : Expr} {ifs : List Expr} {scope : Scope} {own : List (Str × Nat)} {spos : Pos} {fi : AF} {uf : TF} {gg : TG} {bb : BF} (hgb : GOk p X gg bb (own.map (·.2))) (hc : X.calm = true) (hN : X.N.Nodup) (hi : SI p X tg iter fi) (ok : BlkOk X.N X.env.scope scope own)
    (hg : ∀ (s : Shared) (H : Hp) (C : Addr) (cl : List (Str × Addr)) (fp : List Addr), PG (X.blk s H scope (compEnvC scope cl C X.env) fp) tg gg)
    (ht : ∀ (s : Shared) (H : Hp) (C : Addr) (cl : List (Str × Addr)) (fp : List Addr), PTs (X.blk s H scope (compEnvC scope cl C X.env) fp) ifs (tTD p uf))
    (he : ∀ (D : Addr) (s : Shared) (H : Hp) (C : Addr) (cl : List (Str × Addr)) (fp : List Addr), SE (p.w (D :: p.ex)) (X.blk s H scope (compEnvC scope cl C X.env) fp) elt f)
    (hsw : swapsWith (.ListComp elt [⟨tg, iter, ifs, 0⟩] scope pos) (some (.Name y py)) spos.line X.env = pure true)
    (hy : X.N[i]? = some y := by rfl) (hyl : X.env.scope.names.lookup y = some .local := by rfl)
    (hs : ∀ x, foldedSetIterable iter X.env x = pure x := by intro _; rfl) : SS p X (.Assign [.Name y py] (.ListComp elt [⟨tg, iter, ifs, 0⟩] scope pos) spos) (sSet i (lcF fi bb uf f (own.map (·.2)))) :=
  ps_imp (ps_setLc hc hN hy hyl hsw hi ok hg ht (fun s H C cl fp => pe_D fun D => he D s H C cl fp) hs) fun D σ H ⟨env, dr, o, dr', hR, hO, hf, q⟩ => by
    unfold sSet at hf
    split at hf
    · rename_i t dr1 h1
      cases hf
      exact tLc_in hgb σ H _ ⟨env, dr, t, _, hR, hO, h1, fun v H' e' r' o' => q _ H' e' ((hR.ext e').set r' i) o'⟩
    · cases hf
def sPar (i j : Nat) (f g : EF) : SF := fun env dr => match f env dr with
  | some (t, dr1) => (match g env dr1 with
    | some (w, dr2) => some (.nx ((env.set i (some t)).set j (some w)), dr2)
    | none => none)
  | none => none
theorem ss_par {i j : Nat} {x y : Str} {px py pt : Pos} {kt k2 pt2} (hc : X.calm = true) (hN : X.N.Nodup) (ha : SE p X a f) (hb : SE p X b g) (hw : swappedStores [.Tuple [.Name x px, .Name y py] kt pt] (.Tuple [a, b] k2 pt2) X.env = pure (some [x, y]))
    (hi : X.N[i]? = some x := by rfl) (hj : X.N[j]? = some y := by rfl) (hij : i ≠ j := by decide)
    (hx : X.env.scope.names.lookup x = some .local := by rfl) (hy : X.env.scope.names.lookup y = some .local := by rfl)
    (hs : swapsWithSole [.Tuple [.Name x px, .Name y py] kt pt] (.Tuple [a, b] k2 pt2) pos.line X.env = pure false := by rfl) (hs1 : starEach [a, b] X.env = (false, eval a X.env) :: starEach [b] X.env := by rfl) (hs2 : starEach [b] X.env = (false, eval b X.env) :: starEach [] X.env := by rfl) :
    SS p X (.Assign [.Tuple [.Name x px, .Name y py] kt pt] (.Tuple [a, b] k2 pt2) pos) (sPar i j f g) := ps_imp (ps_par hc hN hi hj hij hx hy (pa_cons ha (pa_cons hb pa_nil hs2) hs1) hw hs) fun D σ H ⟨env, dr, o, dr', hR, hO, hf, q⟩ => by
  unfold sPar at hf
  split at hf
  · rename_i t dr1 h1
    split at hf
    · rename_i w dr2 h2
      cases hf
      exact ⟨env, dr, t, dr1, hR, hO, h1, fun v H1 e1 r1 o1 => ⟨env, dr1, w, _, hR.ext e1, o1, h2, fun z H2 e2 r2 o2 => ⟨v, z, rfl, q _ H2 (e1.trans e2) ((((hR.ext e1).ext e2).set (r1.ext e2) i).set r2 j) o2⟩⟩⟩
    · cases hf
  · cases hf
/-- a, b, .. = a tuple -/
def gNs : List Nat → TGs
  | [] => gNil
  | i :: r => gCons (gName i) (gNs r)
def setNs : List Nat → List T → Env → Option Env
  | [], [], env => some env
  | i :: r, t :: ts, env => setNs r ts (env.set i (some t))
  | _, _, _ => none
def sTup (is : List Nat) (f : EF) : SF := fun env dr => match f env dr with
  | some (.tup ts, dr1) => (match setNs is ts env with
    | some env1 => some (.nx env1, dr1)
    | none => none)
  | _ => none
theorem gNs_ok {H : Hp} {Q : L2.St → Hp → Prop} {env1 : Env} : ∀ {is : List Nat} {ts : List T} {vs : List V} {σ : L2.St} {env : Env}, Reps p H ts vs → RelS p H σ env → setNs is ts env = some env1 → (∀ σ2, RelS p H σ2 env1 → Q σ2 H) → vs.length = is.length ∧ gNs is vs σ H Q
  | [], [], _, σ, env, r, rs, h, q => by
    cases h
    rw [show _ = [] from r]
    exact ⟨rfl, rfl, q σ rs⟩
  | i :: is, t :: ts, _, σ, env, r, rs, h, q => by
    obtain ⟨v, w, rfl, r1, r2⟩ := r
    obtain ⟨q1, q2⟩ := gNs_ok r2 (rs.set r1 i) h q
    exact ⟨by rw [List.length_cons, List.length_cons, q1], v, w, rfl, q2⟩
  | [], _ :: _, _, _, _, _, _, h, _ => by cases h
  | _ :: _, [], _, _, _, _, _, h, _ => by cases h
include hK in
theorem ss_tup {es : List Expr} {is : List Nat} {kk : Nat} {tpos : Pos} (hc : X.calm = true) (ha : SE p X e f) (hg : PGs X es (gNs is)) (hn : (assignEach es X.env).length = is.length := by rfl) (hst : (assignEach es X.env).findIdx? (·.1) = none := by rfl)
    (hs : swapsWithSole [.Tuple es kk tpos] e pos.line X.env = pure false := by rfl) (hw : swappedStores [.Tuple es kk tpos] e X.env = pure none := by rfl)
    (h1 : (assignEach [.Tuple es kk tpos] X.env).map (·.2) = [assign (.Tuple es kk tpos) X.env] := by rfl) : SS p X (.Assign [.Tuple es kk tpos] e pos) (sTup is f) := ps_imp (ps_asg ha (pg_tup hc hg hn hst) hs hw h1) fun D σ H ⟨env, dr, o, dr', hR, hO, hf, q⟩ => by
  unfold sTup at hf
  split at hf
  · rename_i ts dr1 h1
    split at hf
    · rename_i env1 h2
      cases hf
      refine ⟨env, dr, _, _, hR, hO, h1, fun v H1 e1 r1 o1 => ?_⟩
      obtain ⟨c, vs, rfl, hh, s1⟩ := r1
      obtain ⟨q1, q2⟩ := gNs_ok (Q := D.nx) s1 (hR.ext e1) h2 fun σ2 rs2 => q σ2 H1 e1 rs2 o1
      exact ⟨c, vs, rfl, hK ▸ hh, q1, q2⟩
    · cases hf
  · cases hf
/-- name op= e -/
def sAug (h : T → T → Option T) (i : Nat) (f : EF) : SF := fun env dr => match env[i]? with
  | some (some x) => (match f env dr with
    | some (y, dr1) => (match h x y with
      | some t => some (.nx (env.set i (some t)), dr1)
      | none => none)
    | none => none)
  | _ => none
theorem ss_aug {i : Nat} {x : Str} {pos' : Pos} {op : Operator} {h : T → T → Option T} (ho : OpT p X (inplaceOp op) h) (he : SE p X e f) (hN : X.N.Nodup) (hi : X.N[i]? = some x := by rfl) (hx : Loc X.env.scope x := by first | exact .inl rfl | exact .inr rfl)
    (hf : X.fn x = true ∨ X.env.scope.names.lookup x = some .local := by first | exact .inl rfl | exact .inr rfl) : SS p X (.AugAssign (.Name x pos') op e pos) (sAug h i f) := ps_imp (ps_aug hN hi hx he (fun pins s σ H x y v u Q I r1 r2 q => ho pins s σ H x y v u Q I r1 r2 q) hf) fun D σ H ⟨env, dr, o, dr', hR, hO, hf, q⟩ => by
  unfold sAug at hf
  split at hf
  · rename_i t0 h0
    split at hf
    · rename_i y dr1 h1
      split at hf
      · rename_i t h2
        cases hf
        obtain ⟨v0, a1, a2⟩ := hR.2 _ _ h0
        exact ⟨v0, a1, env, dr, y, _, hR, hO, h1, fun v H1 e1 r1 o1 => ⟨t0, y, t, a2.ext e1, r1, o1.new, h2, fun z H2 s2 r2 => q _ H2 (e1.trans (.same s2)) (((hR.ext e1).ext (.same s2)).set r2 i) (o1.same s2)⟩⟩
      · cases hf
    · cases hf
  · cases hf
theorem ot_iadd : OpT p X (inplaceOp .Add) addI := opr_imp iop_add fun x y H Q ⟨a, b, t, r1, r2, _, hf, q⟩ => by
  cases a <;> cases b <;> try (cases hf; done)
  cases hf
  exact ⟨_, _, r1, r2, q _ H (Same.refl H) rfl⟩
theorem ot_isub : OpT p X (inplaceOp .Sub) subT := opr_imp iop_sub fun x y H Q ⟨a, b, t, r1, r2, _, hf, q⟩ => by
  cases a <;> cases b <;> try (cases hf; done)
  cases hf
  exact ⟨_, _, r1, r2, q _ H (Same.refl H) rfl⟩
def idivT : T → T → Option T
  | .int i, .int j => if 0 < j ∧ j < 1073741824 then some (.int (i / j)) else none
  | _, _ => none
theorem ot_idiv : OpT p X (inplaceOp .FloorDiv) idivT := opr_imp iop_fdiv fun x y H Q ⟨a, b, t, r1, r2, _, hf, q⟩ => by
  cases a <;> cases b <;> try (cases hf; done)
  unfold idivT at hf
  dsimp only at hf
  split at hf
  · rename_i hz
    cases hf
    exact ⟨_, _, r1, r2, hz, q _ H (Same.refl H) rfl⟩
  · cases hf

/-! ### loops -/
def forGo (b : BF) (u : SF) : List T → Env → List T → Option (Out × List T)
  | [], env, dr => some (.nx env, dr)
  | t :: ts, env, dr => match b t env with
    | none => none
    | some env1 => match u env1 dr with
      | none => none
      | some (.nx env2, dr2) => forGo b u ts env2 dr2
      | some (.ct env2, dr2) => forGo b u ts env2 dr2
      | some (.bk env2, dr2) => some (.nx env2, dr2)
      | some (.rt t, dr2) => some (.rt t, dr2)
def sFor (fi : AF) (b : BF) (u : SF) : SF := fun env dr => match fi env dr with
  | none => none
  | some (ts, dr1) => forGo b u ts env dr1
theorem ss_for {tg iter : Expr} {body : List Stmt} {fi : AF} {gg : TG} {bb : BF} {vs : List Nat} (hgb : GOk p X gg bb vs) (hp : PassesOwn (model X.prog X.w) X.A X.env X.xe) (hc : X.calm = true) (hi : SI p X tg iter fi) (hg : PG X tg gg) (hb : SSs p X body u)
    (hs : ∀ x, foldedSetIterable iter X.env x = pure x := by intro _; rfl) : SS p X (.For tg iter body [] pos) (sFor fi bb u) := ps_imp (ps_for hp hc hi hg hb hs) fun D σ H ⟨env, dr, o, dr', hR, hO, hf, q⟩ => by
  unfold sFor at hf
  cases h1 : fi env dr with
  | none => rw [h1] at hf; cases hf
  | some z =>
    obtain ⟨ts, dr1⟩ := z
    rw [h1] at hf
    dsimp only at hf
    refine ⟨env, dr, ts, dr1, hR, hO, h1, fun J H1 e1 o1 hJ => ?_⟩
    refine ⟨fun i m σ2 H2 => ∃ env2 dr2, m = ts.length - i ∧ i ≤ ts.length ∧ Ext p H1 H2 ∧ Ok p H2 dr2 ∧ RelS p H2 σ2 env2 ∧ forGo bb u (ts.drop i) env2 dr2 = some (o, dr'),
      ⟨ts.length, env, dr1, by simp, Nat.zero_le _, .refl, o1, hR.ext e1, by rw [List.drop_zero]; exact hf⟩, ?_⟩
    rintro i m σ2 H2 ⟨env2, dr2, rfl, hi2, e2, o2, rs, go⟩
    obtain ⟨jgo, jstop⟩ := hJ p.ex (fun a ha => .inl ha) H2 e2 i
    rcases Nat.lt_or_ge i ts.length with hlt | hge
    · right
      obtain ⟨j1, j2⟩ := jgo ts[i] (List.getElem?_eq_getElem hlt)
      have hdrop : ts.drop i = ts[i] :: ts.drop (i + 1) := List.drop_eq_getElem_cons hlt
      rw [hdrop] at go
      refine ⟨j1, fun σ3 H3 => ∃ env2 dr2, Ext p H1 H3 ∧ Ok p H3 dr2 ∧ RelS p H3 σ3 env2 ∧ forGo bb u (ts.drop (i + 1)) env2 dr2 = some (o, dr'),
        fun σ3 H3 ⟨a1, a2, b1, b2, b3, b4⟩ => ⟨ts.length - (i + 1), by omega, a1, a2, rfl, hlt, b1, b2, b3, b4⟩, fun x H3 yx => ?_⟩
      obtain ⟨s3, rx⟩ := j2 x H3 yx
      unfold forGo at go
      cases hb' : bb ts[i] env2 with
      | none => rw [hb'] at go; cases go
      | some env1 =>
        rw [hb'] at go
        dsimp only at go
        refine hgb p.ex ts[i] x σ2 H3 env2 env1 _ rx (rs.ext (.same s3)) hb' fun σ4 rs4 _ => ?_
        have e13 : Ext p H1 H3 := e2.trans (.same s3)
        split at go
        · cases go
        · rename_i env5 dr5 hu
          exact ⟨env1, dr2, _, dr5, rs4, o2.same s3, hu, fun σ' H' e' r' o' => ⟨env5, dr5, e13.trans e', o', r', go⟩⟩
        · rename_i env5 dr5 hu
          exact ⟨env1, dr2, _, dr5, rs4, o2.same s3, hu, fun σ' H' e' r' o' => ⟨env5, dr5, e13.trans e', o', r', go⟩⟩
        · rename_i env5 dr5 hu
          cases go
          exact ⟨env1, dr2, _, _, rs4, o2.same s3, hu, fun σ' H' e' r' o' => q σ' H' (e1.trans (e13.trans e')) r' o'⟩
        · rename_i t5 dr5 hu
          cases go
          exact ⟨env1, dr2, _, _, rs4, o2.same s3, hu, fun v' H' e' r' o' => q v' H' (e1.trans (e13.trans e')) r' o'⟩
    · left
      have hie : i = ts.length := by omega
      rw [hie, List.drop_length] at go
      cases go
      exact ⟨jstop hie, q σ2 H2 (e1.trans e2) rs o2⟩
def whileGo (c : TF) (u : SF) : Nat → Env → List T → Option (Out × List T)
  | 0, _, _ => none
  | n + 1, env, dr => match c env dr with
    | none => none
    | some (false, dr1) => some (.nx env, dr1)
    | some (true, dr1) => match u env dr1 with
      | none => none
      | some (.nx env2, dr2) => whileGo c u n env2 dr2
      | some (.ct env2, dr2) => whileGo c u n env2 dr2
      | some (.bk env2, dr2) => some (.nx env2, dr2)
      | some (.rt t, dr2) => some (.rt t, dr2)
theorem ss_while {cE : Expr} {body : List Stmt} {c : TF} (n : Nat) (hp : PassesOwn (model X.prog X.w) X.A X.env X.xe) (hc : SB p X cE c) (hb : SSs p X body u) : SS p X (.While cE body [] pos) (whileGo c u n) := ps_imp (ps_while hp hc hb) fun D σ H ⟨env, dr, o, dr', hR, hO, hf, q⟩ => by
  refine ⟨fun m σ2 H2 => ∃ env2 dr2, Ext p H H2 ∧ Ok p H2 dr2 ∧ RelS p H2 σ2 env2 ∧ whileGo c u m env2 dr2 = some (o, dr'), ⟨n, env, dr, .refl, hO, hR, hf⟩, ?_⟩
  rintro m σ2 H2 ⟨env2, dr2, e2, o2, rs, go⟩
  cases m with
  | zero => cases go
  | succ m =>
    unfold whileGo at go
    split at go
    · cases go
    · rename_i dr3 hcf
      cases go
      exact ⟨env2, dr2, _, _, rs, o2, hcf, fun H3 e3 o3 => by refine iteF ?_; exact q σ2 H3 (e2.trans e3) (rs.ext e3) o3⟩
    · rename_i dr3 hcf
      refine ⟨env2, dr2, _, dr3, rs, o2, hcf, fun H3 e3 o3 => ?_⟩
      refine iteT ?_
      refine ⟨fun σ3 H4 => ∃ env2 dr2, Ext p H H4 ∧ Ok p H4 dr2 ∧ RelS p H4 σ3 env2 ∧ whileGo c u m env2 dr2 = some (o, dr'), fun σ3 H4 z => ⟨m, Nat.lt_succ_self _, z⟩, ?_⟩
      split at go
      · cases go
      · rename_i env5 dr5 hu
        exact ⟨env2, dr3, _, dr5, rs.ext e3, o3, hu, fun σ' H' e' r' o' => ⟨env5, dr5, e2.trans (e3.trans e'), o', r', go⟩⟩
      · rename_i env5 dr5 hu
        exact ⟨env2, dr3, _, dr5, rs.ext e3, o3, hu, fun σ' H' e' r' o' => ⟨env5, dr5, e2.trans (e3.trans e'), o', r', go⟩⟩
      · rename_i env5 dr5 hu
        cases go
        exact ⟨env2, dr3, _, _, rs.ext e3, o3, hu, fun σ' H' e' r' o' => q σ' H' (e2.trans (e3.trans e')) r' o'⟩
      · rename_i t5 dr5 hu
        cases go
        exact ⟨env2, dr3, _, _, rs.ext e3, o3, hu, fun v' H' e' r' o' => q v' H' (e2.trans (e3.trans e')) r' o'⟩

/-! ### the list that changes -/
def sDr (k : Nat) (f g : EF) : SF := fun env dr => match f env dr with
  | some (t, dr1) => (match g env dr1 with
    | some (.ref, dr2) => if k < dr2.length then some (.nx env, dr2.set k t) else none
    | _ => none)
  | none => none
end
end FL
set_option linter.all false
set_option maxRecDepth 100000
set_option maxHeartbeats 2000000
namespace FL
open PySem PySem.Spec PyProof.Rows L2 GxR GA

section
variable {p : Pm} {X : Cx} (hK : p.K = X.K) {a b e : Expr} {pos : Pos} {f g : EF}

theorem ext_d {H : Hp} {c : Addr} {xs ys : List V} (hd : p.d = some c) (h : H c = some (.lst xs)) : Ext p H (upd H c (.lst ys)) := by
  have ne : ∀ (a : Addr) (o : HO), H a = some o → (∀ zs, o ≠ .lst zs) → a ≠ c := fun a o q n z => by rw [z, h] at q; exact n xs (Option.some.inj q).symm
  refine ⟨fun a zs q => ?_, fun a o u q => ?_, fun a zs n q => ?_, fun P ⟨ps, q, t⟩ => ⟨ps, ?_, t⟩, fun a φ q => ?_⟩
  · rw [upd_ne (ne a _ q fun zs z => by cases z)]; exact q
  · rw [upd_ne (ne a _ q fun zs z => by cases z)]; exact q
  · rw [upd_ne (fun z => n (by rw [z]; exact hd))]; exact q
  · rw [upd_ne (ne P _ q fun zs z => by cases z)]; exact q
  · rw [upd_ne (ne a _ q fun zs z => by cases z)]; exact q
theorem ss_dr {k : Nat} {o : Expr} {jj : Nat} {cpos spos : Pos} (he : SE p X e f) (ho : SE p X o g) (hs : swapsWithSole [.Subscript o (.Constant (.int (k : Int)) jj cpos) spos] e pos.line X.env = pure false := by rfl) (hw : swappedStores [.Subscript o (.Constant (.int (k : Int)) jj cpos) spos] e X.env = pure none := by rfl)
    (h1 : (assignEach [.Subscript o (.Constant (.int (k : Int)) jj cpos) spos] X.env).map (·.2) = [assign (.Subscript o (.Constant (.int (k : Int)) jj cpos) spos) X.env] := by rfl) :
    SS p X (.Assign [.Subscript o (.Constant (.int (k : Int)) jj cpos) spos] e pos) (sDr k f g) := ps_imp (ps_asg he (pg_sub ho pe_int set_list) hs hw h1) fun D σ H ⟨env, dr, o, dr', hR, hO, hf, q⟩ => by
  unfold sDr at hf
  split at hf
  · rename_i t dr1 h1
    split at hf
    · rename_i dr2 h2
      split at hf
      · rename_i hlt
        cases hf
        refine ⟨env, dr, t, dr1, hR, hO, h1, fun v H1 e1 r1 o1 => ⟨env, dr1, .ref, dr2, hR.ext e1, o1, h2, fun w H2 e2 r2 o2 => ?_⟩⟩
        obtain ⟨c, hd, rfl⟩ := r2
        have od := o2.1
        unfold DrOk at od
        rw [hd] at od
        obtain ⟨xs, hc, rx⟩ := od
        have hx := ext_d (ys := xs.set k v) hd hc
        have hix : ixN xs.length (k : Int) = some k := by
          unfold ixN
          rw [rx.length, if_pos (by omega), if_pos (by omega)]
          rfl
        refine ⟨c, xs, _, k, rfl, rfl, hc, hix, q σ _ (e1.trans (e2.trans hx)) (((hR.ext e1).ext e2).ext hx) ⟨?_, fun P hP => hx.tab P (o2.2.1 P hP), fun z hz => ⟨(o2.2.2 z hz).1, ?_⟩⟩⟩
        · unfold DrOk
          rw [hd]
          exact ⟨_, upd_same, ((rx.ext hx).set ((r1.ext e2).ext hx) k)⟩
        · obtain ⟨zs, hzs⟩ := (o2.2.2 z hz).2
          exact ⟨zs, hx.lst _ _ (o2.2.2 z hz).1 hzs⟩
      · cases hf
    · cases hf
  · cases hf

/-! sep.join(xs) -/
def eJoin (f g : EF) : EF := fun env dr => match f env dr with
  | none => none
  | some (x, dr1) => match g env dr1 with
    | none => none
    | some (y, dr2) => match joinF x y with
      | none => none
      | some t => some (t, dr2)
theorem strs_ok {H : Hp} : ∀ {ts : List T} {vs : List V} {xs : List (List Nat)}, Reps p H ts vs → strsT ts = some xs → ∃ ys : List Str, vs = ys.map V.str ∧ ys.map (fun y => y.cps.toList) = xs
  | [], _, _, r, h => by cases h; rw [show _ = [] from r]; exact ⟨[], rfl, rfl⟩
  | t :: ts, _, xs, r, h => by
    obtain ⟨v, w, rfl, h1, h2⟩ := r
    cases t <;> try (cases h; done)
    unfold strsT at h
    cases hh : strsT ts with
    | none => rw [hh] at h; cases h
    | some cs =>
      rw [hh] at h
      cases h
      obtain ⟨x, rfl, ex⟩ := h1
      obtain ⟨ys, rfl, ey⟩ := strs_ok h2 hh
      exact ⟨x :: ys, rfl, by rw [List.map_cons, ex, ey]⟩
theorem join_ok (sep : Str) : ∀ ys : List Str, (Str.join sep ys).cps.toList = joinL sep.cps.toList (ys.map fun y => y.cps.toList)
  | [] => rfl
  | [x] => rfl
  | x :: y :: r => by
    show ((x ++ sep ++ Str.join sep (y :: r)) : Str).cps.toList = _
    rw [str_app, str_app, join_ok sep (y :: r)]
    rfl
include hK in
theorem se_join {apos : Pos} {o : Expr} (ho : SE p X o f) (he : SE p X e g) (hs : starEach [e] X.env = [(false, eval e X.env)] := by rfl) (hbase : attributeBase o "join" X.env (eval o X.env) = eval o X.env := by rfl) (hline : (apos.endLine == pos.line) = true := by rfl) :
    SE p X (.Call (.Attribute o "join" apos) [e] [] pos) (eJoin f g) := pe_imp (pe_join ho he hs hbase hline) fun σ H Q ⟨env, dr, t, dr', hR, hO, hf, q⟩ => by
  unfold eJoin at hf
  cases h1 : f env dr with
  | none => rw [h1] at hf; cases hf
  | some z =>
    obtain ⟨x, dr1⟩ := z
    rw [h1] at hf
    dsimp only at hf
    cases h2 : g env dr1 with
    | none => rw [h2] at hf; cases hf
    | some z =>
      obtain ⟨y, dr2⟩ := z
      rw [h2] at hf
      dsimp only at hf
      unfold joinF at hf
      dsimp only at hf
      split at hf
      · cases hf
      · rename_i t' ht
        cases hf
        split at ht
        · rename_i cs ts hq
          cases h3 : strsT ts with
          | none => rw [h3] at ht; cases ht
          | some xs =>
            rw [h3] at ht
            dsimp only at ht
            split at ht
            · rename_i hz
              cases ht
              refine ⟨env, dr, _, dr1, hR, hO, h1, fun v H1 e1 r1 o1 => ?_⟩
              obtain ⟨s, rfl, es⟩ := r1
              refine ⟨⟨s, rfl⟩, env, dr1, y, _, hR.ext e1, o1, h2, fun w H2 e2 r2 o2 => ?_⟩
              obtain ⟨c, vs, rfl, hc, sc⟩ := seq_ok r2 hq
              obtain ⟨ys, rfl, ey⟩ := strs_ok sc h3
              have hl : ys.map (·.length) = xs.map (·.length) := by
                rw [← ey, List.map_map]
                exact List.map_congr_left fun z _ => str_len z
              refine ⟨s, c, ys, rfl, rfl, hK ▸ hc, ?_, q _ H2 (e1.trans e2) ⟨_, rfl, ?_⟩ o2⟩
              · have hn : ys.length = xs.length := by rw [← ey, List.length_map]
                rw [hl, hn, str_len, es]
                exact Nat.le_trans hz (by decide)
              · show (PySem.Txt.join s ys).cps.toList = _
                have : PySem.Txt.join s ys = Str.join s ys := by unfold PySem.Txt.join; exact StrLaws.glued_eq_join ..
                rw [this, join_ok, es, ey]
            · cases ht
        · cases ht

/-! ### defs -/
def runF (N n : Nat) (u : SF) : Phi := fun ts dr => match u (ts.map some ++ List.replicate (N - n) none) dr with
  | some (.rt t, dr1) => some (t, dr1)
  | some (.nx _, dr1) => some (.non, dr1)
  | _ => none
theorem rel_start {H : Hp} {N : List Str} {ts : List T} {vs : List V} (r : Reps p H ts vs) : RelS p H (L2.start N vs) (ts.map some ++ List.replicate (N.length - ts.length) none) := by
  unfold L2.start
  rw [r.length]
  refine ⟨by rw [List.length_append, List.length_append, List.length_map, List.length_map, r.length, List.length_replicate, List.length_replicate], fun i t h => ?_⟩
  by_cases hi : i < ts.length
  · rw [List.getElem?_append_left (by simpa using hi), List.getElem?_map] at h
    cases e : ts[i]? with
    | none => rw [e] at h; cases h
    | some t' =>
      rw [e] at h
      cases h
      obtain ⟨v, h1, h2⟩ := r.get e
      exact ⟨v, by rw [List.getElem?_append_left (by rw [List.length_map, r.length]; exact hi), List.getElem?_map, h1]; rfl, h2⟩
  · rw [List.getElem?_append_right (by simpa using hi), List.getElem?_replicate] at h
    split at h <;> cases h
/-- a def of the text, its code object told -/
structure FunC (K : PySem.W.Frag) (x : Str) (st : Stmt) (f : Addr) (fd : FuncData) (cA : Addr) : Prop where
  ex : ∃ (oc : Value) (od : Option Addr) (kV doc pm : Value) (an : Option Addr) (ct : Value) (osl : Array (Option Value)),
    fd = PySem.W.fnOf x x (defArgs st) (defBody st) (defScope st) .none kV doc pm an (.ref cA) ct ∧ K.lookup f = some ⟨oc, od, .func fd, osl⟩ ∧ PySem.W.codeIn K (.ref cA) x = true
  kp : PySem.W.keepIn K (.ref f) = true
variable {P : Program} {w : World} {K : PySem.W.Frag} {mg : Str → Option Value} {base : Heap} {x : Str} {fA cA : Addr} {fd : FuncData} {N ps : List Str} {k : Nat} {u : SF} {st : Stmt}
theorem fn_okC (F : FunC K x st fA fd cA) (S : FnScope N ps (defScope st)) {p : Pm}
    (hbody : ∀ (A : Around) (outer : List PySem.Env) (s : Shared) (H : Hp) (E : XK) (ex : List Addr), Room k (A.deeper (envOfC x (defScope st) s.heap.objs.size fA (.ref cA))) →
      SSs (p.w ex) (cxOf L2.CX0 P w K mg base N x (defScope st) fA (.ref cA) A outer s H E).nox (defBody st) u) :
    FnOk P w K mg base L2.CX0 (k + 1) fA fd ps (spF p ps.length (runF N.length ps.length u)) := by
  obtain ⟨oc, od, kV, doc, pm, an, ct, osl, rfl, lk, hcd⟩ := F.ex
  refine fn_of lk hcd S (fun vs H Q E ⟨ex, ts, dr, t, dr', hn, r, _⟩ => by rw [r.length, hn]) fun A outer s H vs Q E hr ⟨ex, ts, dr, t, dr', hn, r, o, hf, q⟩ => ?_
  unfold runF at hf
  rw [← hn] at hf
  split at hf
  · rename_i t1 dr1 h1
    cases hf
    exact ⟨_, (hbody A outer s H E ex hr).nox, _, dr, _, _, rel_start r, o, h1, fun v H' e' r' o' => q v H' e' r' o'⟩
  · rename_i en dr1 h1
    cases hf
    exact ⟨_, (hbody A outer s H E ex hr).nox, _, dr, _, _, rel_start r, o, h1, fun σ' H' e' _ o' => q .non H' e' rfl o'⟩
  · cases hf
end
end FL
set_option linter.all false
set_option maxRecDepth 100000
set_option maxHeartbeats 2000000
namespace FL
open PySem PySem.Spec PyProof.Rows L2 GxR GA EXO

/-! ### == and != of data -/
def strOf (cs : List Nat) : Str := ⟨cs.toArray⟩
mutual
def toD : T → Option PyData
  | .non => some .none
  | .bl b => some (.bool b)
  | .int i => some (.int i)
  | .str cs => some (.str (strOf cs))
  | .tup ts => (toDs ts).map .tuple
  | .lst ts => (toDs ts).map .list
  | .fls ts => (toDs ts).map .list
  | .ref => none
  | .exo _ _ _ => none
def toDs : List T → Option (List PyData)
  | [] => some []
  | t :: ts => match toD t with
    | none => none
    | some d => match toDs ts with
      | none => none
      | some ds => some (d :: ds)
end
mutual
theorem toD_ok {p : Pm} {H : Hp} : ∀ {t : T} {v : V} {d : PyData}, Rep p H t v → toD t = some d → Dp p.K H v d
  | .non, v, d, r, h => by
    have r : v = _ := r
    subst r
    cases h
    exact .non
  | .bl b, v, d, r, h => by
    have r : v = _ := r
    subst r
    cases h
    exact .bl b
  | .int i, v, d, r, h => by
    have r : v = _ := r
    subst r
    cases h
    exact .int i
  | .str cs, v, d, r, h => by
    obtain ⟨x, rfl, e⟩ := r
    cases h
    have : x = strOf cs := str_ext (by rw [e]; simp [strOf])
    rw [this]
    exact .str _
  | .tup ts, v, d, r, h => by
    obtain ⟨a, vs, rfl, s, q⟩ := r
    have h : (toDs ts).map PyData.tuple = some d := h
    cases e : toDs ts with
    | none => rw [e] at h; cases h
    | some ds =>
      rw [e] at h
      cases h
      exact .tup s (toDs_ok q e)
  | .lst ts, v, d, r, h => by
    obtain ⟨a, vs, rfl, s, n, q⟩ := r
    have h : (toDs ts).map PyData.list = some d := h
    cases e : toDs ts with
    | none => rw [e] at h; cases h
    | some ds =>
      rw [e] at h
      cases h
      exact .lst (.inl (.inl s)) (toDs_ok q e)
  | .fls ts, v, d, r, h => by
    obtain ⟨a, vs, rfl, s, q⟩ := r
    have h : (toDs ts).map PyData.list = some d := h
    cases e : toDs ts with
    | none => rw [e] at h; cases h
    | some ds =>
      rw [e] at h
      cases h
      exact .lst s.sq (toDs_ok q e)
  | .ref, v, d, r, h => nomatch h
  | .exo _ _ _, v, d, r, h => nomatch h
theorem toDs_ok {p : Pm} {H : Hp} : ∀ {ts : List T} {vs : List V} {ds : List PyData}, Reps p H ts vs → toDs ts = some ds → DpAll p.K H vs ds
  | [], _, ds, r, h => by
    rw [show _ = [] from r]
    cases h
    exact .nil
  | t :: ts, _, ds, r, h => by
    obtain ⟨v, w, rfl, a, b⟩ := r
    unfold toDs at h
    cases e1 : toD t with
    | none => rw [e1] at h; cases h
    | some d =>
      rw [e1] at h
      dsimp only at h
      cases e2 : toDs ts with
      | none => rw [e2] at h; cases h
      | some es =>
        rw [e2] at h
        cases h
        exact .cons (toD_ok a e1) (toDs_ok b e2)
end
def eqD (x y : T) : Option Bool := match toD x with
  | none => none
  | some d => match toD y with
    | none => none
    | some e => if SeqAt.shaped d && SeqAt.shaped e then some (PyData.eqv d e) else none
def cEqD (x y : T) : Option T := (eqD x y).map .bl
def cNeD (x y : T) : Option T := (eqD x y).map fun b => .bl (!b)
theorem eqD_ok {p : Pm} {H : Hp} {a b : T} {x y : V} {c : Bool} (r1 : Rep p H a x) (r2 : Rep p H b y) (h : eqD a b = some c) :
    ∃ d e, Dp p.K H x d ∧ Dp p.K H y e ∧ SeqAt.shaped d = true ∧ SeqAt.shaped e = true ∧ PyData.eqv d e = c := by
  unfold eqD at h
  cases h1 : toD a with
  | none => rw [h1] at h; cases h
  | some d =>
    rw [h1] at h
    dsimp only at h
    cases h2 : toD b with
    | none => rw [h2] at h; cases h
    | some e =>
      rw [h2] at h
      dsimp only at h
      split at h
      · rename_i hs
        cases h
        obtain ⟨s1, s2⟩ := Bool.and_eq_true_iff.mp hs
        exact ⟨d, e, toD_ok r1 h1, toD_ok r2 h2, s1, s2, rfl⟩
      · cases h
section
variable {p : Pm} {X : Cx} (hK : p.K = X.K)
include hK in
theorem ot_eqD (hu : X.A.units + 64 < cLine) : OpT p X (compareOp .Eq) cEqD := opr_imp (op_eqD hu) fun x y H Q ⟨a, b, t, r1, r2, _, hf, q⟩ => by
  unfold cEqD at hf
  cases h : eqD a b with
  | none => rw [h] at hf; cases hf
  | some c =>
    rw [h] at hf
    cases hf
    obtain ⟨d, e, k1, k2, s1, s2, ee⟩ := eqD_ok r1 r2 h
    exact ⟨d, e, hK ▸ k1, hK ▸ k2, s1, s2, by rw [ee]; exact q _ H (Same.refl H) rfl⟩
include hK in
theorem ot_neD (hu : X.A.units + 64 < cLine) : OpT p X (compareOp .NotEq) cNeD := opr_imp (op_neD hu) fun x y H Q ⟨a, b, t, r1, r2, _, hf, q⟩ => by
  unfold cNeD at hf
  cases h : eqD a b with
  | none => rw [h] at hf; cases hf
  | some c =>
    rw [h] at hf
    cases hf
    obtain ⟨d, e, k1, k2, s1, s2, ee⟩ := eqD_ok r1 r2 h
    exact ⟨d, e, hK ▸ k1, hK ▸ k2, s1, s2, by rw [ee]; exact q _ H (Same.refl H) rfl⟩

/-! ### exceptions -/
/-- the things at the places -/
def pk {α : Type} (ns : List (Str × Nat)) (us : List α) : List α := ns.filterMap fun q => us[q.2]?
theorem fl_zip {α : Type} {us : List α} : ∀ {ns : List (Str × Nat)}, (∀ q ∈ ns, q.2 < us.length) → fl ns us = (ns.map (·.1)).zip (pk ns us)
  | [], _ => rfl
  | (n, i) :: ns, h => by
    have hi : i < us.length := h (n, i) List.mem_cons_self
    have e : us[i]? = some us[i] := List.getElem?_eq_getElem hi
    have ih := fl_zip (ns := ns) fun q hq => h q (List.mem_cons_of_mem _ hq)
    have e1 : fl ((n, i) :: ns) us = (n, us[i]) :: fl ns us := by unfold fl; rw [List.filterMap_cons_some]; simp [e]
    have e2 : pk ((n, i) :: ns) us = us[i] :: pk ns us := by unfold pk; rw [List.filterMap_cons_some]; simp [e]
    rw [e1, e2, ih]
    rfl
theorem pk_reps {H : Hp} {ts : List T} {vs : List V} (r : Reps p H ts vs) : ∀ (ns : List (Str × Nat)), Reps p H (pk ns ts) (pk ns vs)
  | [] => rfl
  | (n, i) :: ns => by
    have ih := pk_reps r ns
    cases ht : ts[i]? with
    | none =>
      have hv : vs[i]? = none := by
        rw [List.getElem?_eq_none_iff] at ht ⊢
        rw [r.length]
        exact ht
      have e1 : pk ((n, i) :: ns) ts = pk ns ts := by unfold pk; rw [List.filterMap_cons_none]; exact ht
      have e2 : pk ((n, i) :: ns) vs = pk ns vs := by unfold pk; rw [List.filterMap_cons_none]; exact hv
      rw [e1, e2]
      exact ih
    | some t =>
      obtain ⟨v, hv, rv⟩ := r.get ht
      have e1 : pk ((n, i) :: ns) ts = t :: pk ns ts := by unfold pk; rw [List.filterMap_cons_some]; exact ht
      have e2 : pk ((n, i) :: ns) vs = v :: pk ns vs := by unfold pk; rw [List.filterMap_cons_some]; exact hv
      rw [e1, e2]
      exact .cons rv ih
/-- C(e, ..), C the class number i -/
def eMk (i k : Nat) (ns : List (Str × Nat)) (l : AF) : EF := fun env dr => match l env dr with
  | none => none
  | some (ts, dr1) => if ts.length = k then some (.exo i (ns.map (·.1)) (pk ns ts), dr1) else none
variable {e : Expr} {es : List Expr} {x : Str} {C fI : Addr} {i k : Nat} {ns : List (Str × Nat)} {pp pos : Pos} {l : AF} {f : EF}
theorem se_mk (hi : p.cl[i]? = some C) (T : ExC X.K C) (iC : PySem.W.findIn X.K (.ref C) "__init__" = some (some (.ref fI))) (tC : PySem.W.typeIn X.K (.ref fI) = some (.type "function")) (J : Ini X.prog X.w X.K C fI k ns) (hr : Room 1 X.A) (hm : X.mg x = some (.ref C)) (ha : SA p X (e :: es) l)
    (hk : k ≤ 1000 := by decide) (hns : ∀ q ∈ ns, q.2 < k := by decide) (hg : Gl X x := by rfl) (hdb : (x == ("__debug__" : Str)) = false := by decide)
    (he : starEach (e :: es) X.env = (false, eval e X.env) :: starEach es X.env := by rfl) (hpl : (backTo pos (starEach es X.env)).any (·.1) = false := by rfl) :
    SE p X (.Call (.Name x pp) (e :: es) [] pos) (eMk i k ns l) := pe_imp (pe_mkx T iC tC J hk hr hg hm ha hdb he hpl) fun σ H Q ⟨env, dr, t, dr', hR, hO, hf, q⟩ => by
  unfold eMk at hf
  cases h1 : l env dr with
  | none => rw [h1] at hf; cases hf
  | some z =>
    obtain ⟨ts, dr1⟩ := z
    rw [h1] at hf
    dsimp only at hf
    split at hf
    · rename_i hl
      cases hf
      refine ⟨env, dr, ts, _, hR, hO, h1, fun vs H1 e1 r1 o1 => ?_⟩
      have hvl : vs.length = k := r1.length.trans hl
      refine ⟨hvl, fun a d ha hd hne => ?_⟩
      have s1 : Same H1 (upd H1 d (exd d (fl ns vs))) := same_new hd _
      have s2 : Same (upd H1 d (exd d (fl ns vs))) (upd (upd H1 d (exd d (fl ns vs))) a (exo a C (some d))) := same_new (by rw [upd_ne hne]; exact ha) _
      have s : Same H1 (upd (upd H1 d (exd d (fl ns vs))) a (exo a C (some d))) := fun b u z => s2 b u (s1 b u z)
      refine q _ _ (e1.trans (.same s)) ⟨C, a, d, pk ns vs, hi, rfl, upd_same, ?_, (pk_reps r1 ns).ext (.same s)⟩ (o1.same s)
      rw [upd_ne (Ne.symm hne), upd_same, fl_zip (fun z hz => by rw [hvl]; exact hns z hz)]
    · cases hf
/-- e.f -/
def eAt (is : List Nat) (f : Str) (ef : EF) : EF := fun env dr => match ef env dr with
  | some (.exo i ns ts, dr1) => if is.contains i then (match (ns.zip ts).lookup f with
    | some t => some (t, dr1)
    | none => none) else none
  | _ => none
theorem lookupP {α : Type} (f g : Str) (y : α) (fs : List (Str × α)) : ((f, y) :: fs).lookup g = if g = f then some y else fs.lookup g := by
  by_cases h : g = f
  · subst h
    simp [List.lookup]
  · have e : (g == f) = false := by simpa using h
    rw [if_neg h]
    simp [List.lookup, e]
theorem zip_get {H : Hp} {n : Str} : ∀ {ns : List Str} {ts : List T} {vs : List V} {t : T}, Reps p H ts vs → (ns.zip ts).lookup n = some t → ∃ v, (ns.zip vs).lookup n = some v ∧ Rep p H t v
  | [], ts, vs, t, r, h => by simp at h
  | m :: ns, [], vs, t, r, h => by simp at h
  | m :: ns, u :: ts, vs, t, r, h => by
    obtain ⟨v, w, rfl, a, b⟩ := r
    rw [List.zip_cons_cons, lookupP] at h ⊢
    by_cases e : n = m
    · rw [if_pos e] at h ⊢
      cases h
      exact ⟨v, rfl, a⟩
    · rw [if_neg e] at h ⊢
      exact zip_get b h
theorem se_at {is : List Nat} {f : Str} {ef : EF} (hc : ∀ i C, is.contains i = true → p.cl[i]? = some C → ExC X.K C ∧ PySem.W.findIn X.K (.ref C) f = some none) (he : SE p X e ef) (hb : attributeBase e f X.env (eval e X.env) = eval e X.env := by rfl) : SE p X (.Attribute e f pos) (eAt is f ef) :=
  pe_imp (pe_atx he hb) fun σ H Q ⟨env, dr, t, dr', hR, hO, hf, q⟩ => by
    unfold eAt at hf
    split at hf
    · rename_i i ns ts dr1 h1
      split at hf
      · rename_i hm
        cases h2 : (ns.zip ts).lookup f with
        | none => rw [h2] at hf; cases hf
        | some u =>
          rw [h2] at hf
          cases hf
          refine ⟨env, dr, _, _, hR, hO, h1, fun v H1 e1 r1 o1 => ?_⟩
          obtain ⟨C, a, d, vs, hi, rfl, ea, ed, rs⟩ := r1
          obtain ⟨y, hy, ry⟩ := zip_get rs h2
          obtain ⟨T, nf⟩ := hc i C hm hi
          exact ⟨a, C, d, _, y, rfl, T, nf, ea, ed, hy, q y H1 e1 ry o1⟩
      · cases hf
    · cases hf
/-- isinstance(e, c), c a class -/
def isxF (g : Nat → Option Bool) : List T → Option T
  | [.exo i _ _] => (g i).map .bl
  | _ => none
theorem se_isx {ce : Expr} {g : Nat → Option Bool} {c : V} {u : Value} (hcv : ClsV c u) (hc : ∀ i b C, g i = some b → p.cl[i]? = some C → ExC X.K C ∧ PySem.W.kitOne X.K (.ref C) u = some b) (ha : SE p X e f) (hce : PE X ce (tC c)) (hm : X.mg "isinstance" = none)
    (hg : Gl X "isinstance" := by rfl) (he : starEach [e, ce] X.env = (false, eval e X.env) :: starEach [ce] X.env := by rfl) (he2 : starEach [ce] X.env = (false, eval ce X.env) :: starEach [] X.env := by rfl) (hpl : (backTo pos (starEach [ce] X.env)).any (·.1) = false := by rfl) :
    SE p X (.Call (.Name "isinstance" pp) [e, ce] [] pos) (eB (isxF g) (aCons f aNil)) := by
  refine pe_imp (pe_callB call_isx hg hm PyProof.Rows.boot_isinstance (pa_cons ha (pa_cons hce pa_nil he2) he) (by decide) (by decide) he hpl) fun σ H Q ⟨env, dr, t, dr', hR, hO, hf, q⟩ => ?_
  unfold eB aCons aNil at hf
  cases h1 : f env dr with
  | none => rw [h1] at hf; cases hf
  | some z =>
    obtain ⟨a, dr1⟩ := z
    rw [h1] at hf
    dsimp only at hf
    unfold isxF at hf
    split at hf
    · cases hf
    · rename_i hx
      split at hx
      · rename_i i _ _ hl
        cases hl
        cases h2 : g i with
        | none => rw [h2] at hx; cases hx
        | some b =>
          rw [h2] at hx
          cases hx
          cases hf
          refine ⟨env, dr, _, _, hR, hO, h1, fun v H1 e1 r1 o1 => ?_⟩
          obtain ⟨C, a, d, vs, hi, rfl, ea, ed, rs⟩ := r1
          obtain ⟨T, kk⟩ := hc _ _ C h2 hi
          exact ⟨a, C, d, _, c, u, b, rfl, hcv, T, ea, ed, kk, q _ _ e1 rfl o1⟩
      · cases hx
end
end FL
set_option linter.all false
set_option maxRecDepth 100000
set_option maxHeartbeats 2000000
namespace K22
open PySem PySem.Spec PyProof.Rows L2 GxR GA EXO FL
def top (i : Nat) : Stmt := PySem.Challenge.pw_readagain_k22_errors.main.body.getD i (.Pass ⟨0, 0, 0, 0⟩)
abbrev sCell : Stmt := top 11
abbrev sDraw : Stmt := top 12
abbrev sNum : Stmt := top 13
abbrev sNext : Stmt := top 14
abbrev sPick : Stmt := top 15
/-! ### the draws: what each def answers, as a function -/
def uCell : SF := sSeq (sIf (tB (eBin cLt (eVar 1) (eB lenT (aCons (eVar 0) aNil)))) (sRet (eIx (eVar 0) (eVar 1))) sNil) (sRet (eC (.int 0)))
def uDraw : SF := sSeq (sSet 3 (eTup (aCons (eC (.int 1000003)) (aCons (eC (.int 1000033)) (aCons (eC (.int 1000037)) (aCons (eC (.int 1000039)) (aCons (eC (.int 1000081)) (aCons (eC (.int 1000099)) (aCons (eC (.int 1000117)) (aCons (eC (.int 1000121)) (aCons (eC (.int 1000133)) (aCons (eC (.int 1000151)) (aCons (eC (.int 1000159)) (aCons (eC (.int 1000171)) (aCons (eC (.int 1000183)) (aCons (eC (.int 1000187)) (aCons (eC (.int 1000193)) (aCons (eC (.int 1000199)) aNil))))))))))))))))))
  (sRet (eBin modT (eBin modT (eB intF (aCons (eBin addT (eBin mulT (eVar 0) (eC (.int 48271))) (eBin mulT (eVar 1) (eC (.int 69621)))) aNil)) (eIx (eVar 3) (eBin modT (eB intF (aCons (eVar 1) aNil)) (eC (.int 16))))) (eVar 2)))
abbrev FnF (P : Program) (w : World) (K : PySem.W.Frag) (mg : Str → Option Value) (base : Heap) (k : Nat) (f : Addr) (fd : FuncData) (ps : List Str) (p : Pm) (φ : Phi) : Prop := FnOk P w K mg base L2.CX0 k f fd ps (spF p ps.length φ)
theorem scCell : FnScope ["script", "k"] ["script", "k"] (defScope sCell) := ⟨rfl, rfl, rfl, by decide +kernel, rfl, by decide +kernel, by decide +kernel⟩
theorem scDraw : FnScope ["cell", "k", "bound", "primes"] ["cell", "k", "bound"] (defScope sDraw) := ⟨rfl, rfl, rfl, by decide +kernel, rfl, by decide +kernel, by decide +kernel⟩
section
variable {P : Program} {w : World} {K : PySem.W.Frag} {mg : Str → Option Value} {base : Heap} {f cA : Addr} {fd : FuncData} {p : Pm}
theorem ok_cell (hK : p.K = K) (F : FunC K "_law_cell_at" sCell f fd cA) (ml : mg "len" = none) : FnF P w K mg base 1 f fd ["script", "k"] p (runF 2 2 uCell) := by
  refine fn_okC F scCell fun A outer s H E ex hr => ?_
  exact ss_cons (ss_if (sb_cmp ot_lt (se_var (pv 1)) (se_callB (ca_len hK) ml PySem.boot_len (sa_cons (se_var (pv 0)) sa_nil))) (ss_one (ss_ret (se_ix hK (se_var (pv 0)) (se_var (pv 1))))) ss_nil) (ss_one (ss_ret se_int))
theorem ok_draw (hK : p.K = K) (F : FunC K "_law_draw" sDraw f fd cA) (mi : mg "int" = none) : FnF P w K mg base 1 f fd ["cell", "k", "bound"] p (runF 4 3 uDraw) := by
  refine fn_okC F scDraw fun A outer s H E ex hr => ?_
  exact ss_cons (ss_set (i := 3) (se_tup (sa_cons se_int (sa_cons se_int (sa_cons se_int (sa_cons se_int (sa_cons se_int (sa_cons se_int (sa_cons se_int (sa_cons se_int (sa_cons se_int (sa_cons se_int (sa_cons se_int (sa_cons se_int (sa_cons se_int (sa_cons se_int (sa_cons se_int (sa_cons se_int sa_nil))))))))))))))))) scDraw.nd)
    (ss_one (ss_ret (se_bin ot_mod (se_bin ot_mod (se_callT ca_int mi PyProof.Rows.boot_int (sa_cons (se_bin (ot_add hK) (se_bin (ot_mul hK) (se_var (pv 0)) se_int) (se_bin (ot_mul hK) (se_var (pv 1)) se_int)) sa_nil)) (se_ix hK (se_var (pv 3)) (se_bin ot_mod (se_callT ca_int mi PyProof.Rows.boot_int (sa_cons (se_var (pv 1)) sa_nil)) se_int))) (se_var (pv 2)))))
end
end K22
set_option linter.all false
set_option maxRecDepth 100000
set_option maxHeartbeats 2000000
namespace FL
open PySem PySem.Spec PyProof.Rows L2 GxR GA
def eNeg (f : EF) : EF := fun env dr => match f env dr with
  | some (.int i, dr1) => some (.int (-i), dr1)
  | _ => none
theorem se_neg {p : Pm} {X : Cx} {a : Expr} {pos : Pos} {f : EF} (ha : SE p X a f) : SE p X (.UnaryOp .USub a pos) (eNeg f) := pe_imp (pe_un un_neg ha) fun σ H Q ⟨env, dr, t, dr', hR, hO, hf, q⟩ => by
  unfold eNeg at hf
  split at hf
  · rename_i i dr1 h1
    cases hf
    exact ⟨env, dr, _, _, hR, hO, h1, fun v H1 e1 r1 o1 => ⟨i, r1, q _ H1 e1 rfl o1⟩⟩
  · cases hf
end FL
namespace K22
open PySem PySem.Spec PyProof.Rows L2 GxR GA EXO FL
def uNum : SF := sSeq (sSet 3 (eC (.int 1))) (sSeq (sFor (iRng1 (eBin modT (eB intF (aCons (eVar 1) aNil)) (eC (.int 24)))) (bN 4) (sSet 3 (eBin mulT (eVar 3) (eC (.int 1009)))))
  (sSeq (sSet 5 (eBin divT (eBin subT (eVar 0) (eBin powT (eC (.int 10)) (eC (.int 18)))) (eVar 3)))
  (sSeq (sIf (tB (eBin cGt (eVar 5) (eC (.int 0)))) (sRet (eBin modT (eBin modT (eB intF (aCons (eVar 5) aNil)) (eC (.int 1009))) (eVar 2))) sNil)
  (sSeq (sSet 6 (eBin modT (eB intF (aCons (eVar 0) aNil)) (eC (.int 1000003))))
    (sRet (eBin modT (eCall 3 (runF 4 3 uDraw) (aCons (eBin mulT (eBin addT (eVar 6) (eBin mulT (eC (.int 977)) (eVar 1))) (eBin addT (eBin addT (eVar 6) (eBin mulT (eC (.int 31)) (eVar 1))) (eC (.int 5)))) (aCons (eBin addT (eBin modT (eB intF (aCons (eVar 1) aNil)) (eC (.int 9))) (eC (.int 1))) (aCons (eC (.int 999983)) aNil)))) (eVar 2)))))))
def uNext : SF := sSeq (sDr 2 (eBin addT (eIx (eVar 0) (eC (.int 2))) (eC (.int 1))) (eVar 0)) (sSeq (sSet 2 (eBin divT (eIx (eVar 0) (eC (.int 2))) (eC (.int 12))))
  (sSeq (sSet 3 (eBin addT (eCall 2 (runF 2 2 uCell) (aCons (eIx (eVar 0) (eC (.int 0))) (aCons (eBin addT (eIx (eVar 0) (eC (.int 1))) (eVar 2)) aNil))) (eBin mulT (eC (.int 31)) (eVar 2))))
    (sRet (eCall 3 (runF 7 3 uNum) (aCons (eVar 3) (aCons (eBin addT (eBin modT (eB intF (aCons (eIx (eVar 0) (eC (.int 2))) aNil)) (eC (.int 12))) (eC (.int 1))) (aCons (eVar 1) aNil)))))))
def uPick : SF := sRet (eIx (eVar 1) (eCall 2 (runF 4 2 uNext) (aCons (eVar 0) (aCons (eB lenT (aCons (eVar 1) aNil)) aNil))))
theorem scNum : FnScope ["cell", "k", "bound", "power", "lap", "remains", "small"] ["cell", "k", "bound"] (defScope sNum) := ⟨rfl, rfl, rfl, by decide +kernel, rfl, by decide +kernel, by decide +kernel⟩
theorem scNext : FnScope ["draw", "bound", "at", "cell"] ["draw", "bound"] (defScope sNext) := ⟨rfl, rfl, rfl, by decide +kernel, rfl, by decide +kernel, by decide +kernel⟩
theorem scPick : FnScope ["draw", "things"] ["draw", "things"] (defScope sPick) := ⟨rfl, rfl, rfl, by decide +kernel, rfl, by decide +kernel, by decide +kernel⟩
section
variable {P : Program} {w : World} {K : PySem.W.Frag} {mg : Str → Option Value} {base : Heap} {f g g2 cA : Addr} {fd gd gd2 : FuncData} {p : Pm}
theorem ok_num (hK : p.K = K) (F : FunC K "_law_number" sNum f fd cA) (mi : mg "int" = none) (mr : mg "range" = none)
    (G : FnF P w K mg base 1 g gd ["cell", "k", "bound"] p (runF 4 3 uDraw)) (mG : mg "_law_draw" = some (.ref g)) (kG : PySem.W.keepIn K (.ref g) = true) (bG : Binds K gd ["cell", "k", "bound"] []) :
    FnF P w K mg base 2 f fd ["cell", "k", "bound"] p (runF 7 3 uNum) := by
  refine fn_okC F scNum fun A outer s H E ex hr => ?_
  exact ss_cons (ss_set (i := 3) se_int scNum.nd)
    (ss_cons (ss_for (g_name (i := 4) (vs := [4]) (by simp)) PassesOwn.never rfl (si_rng1 mr (se_bin ot_mod (se_callT ca_int mi PyProof.Rows.boot_int (sa_cons (se_var (pv 1)) sa_nil)) se_int)) (pg_name (i := 4) scNum.nd rfl (Or.inl rfl)) (ss_one (ss_set (i := 3) (se_bin (ot_mul hK) (se_var (pv 3)) se_int) scNum.nd)))
    (ss_cons (ss_set (i := 5) (se_bin ot_div (se_bin ot_sub (se_var (pv 0)) (se_bin ot_pow se_int se_int)) (se_var (pv 3))) scNum.nd)
    (ss_cons (ss_if (sb_cmp ot_gt (se_var (pv 5)) se_int) (ss_one (ss_ret (se_bin ot_mod (se_bin ot_mod (se_callT ca_int mi PyProof.Rows.boot_int (sa_cons (se_var (pv 5)) sa_nil)) se_int) (se_var (pv 2))))) ss_nil)
    (ss_cons (ss_set (i := 6) (se_bin ot_mod (se_callT ca_int mi PyProof.Rows.boot_int (sa_cons (se_var (pv 0)) sa_nil)) se_int) scNum.nd)
    (ss_one (ss_ret (se_bin ot_mod (se_call (spF_ex G) hr (Nat.le_refl _) mG kG bG (sa_cons (se_bin (ot_mul hK) (se_bin (ot_add hK) (se_var (pv 6)) (se_bin (ot_mul hK) se_int (se_var (pv 1)))) (se_bin (ot_add hK) (se_bin (ot_add hK) (se_var (pv 6)) (se_bin (ot_mul hK) se_int (se_var (pv 1)))) se_int)) (sa_cons (se_bin (ot_add hK) (se_bin ot_mod (se_callT ca_int mi PyProof.Rows.boot_int (sa_cons (se_var (pv 1)) sa_nil)) se_int) se_int) (sa_cons se_int sa_nil)))) (se_var (pv 2)))))))))
theorem ok_next (hK : p.K = K) (F : FunC K "_law_next" sNext f fd cA) (mi : mg "int" = none)
    (G : FnF P w K mg base 1 g gd ["script", "k"] p (runF 2 2 uCell)) (mG : mg "_law_cell_at" = some (.ref g)) (kG : PySem.W.keepIn K (.ref g) = true) (bG : Binds K gd ["script", "k"] [])
    (G2 : FnF P w K mg base 2 g2 gd2 ["cell", "k", "bound"] p (runF 7 3 uNum)) (mG2 : mg "_law_number" = some (.ref g2)) (kG2 : PySem.W.keepIn K (.ref g2) = true) (bG2 : Binds K gd2 ["cell", "k", "bound"] []) :
    FnF P w K mg base 3 f fd ["draw", "bound"] p (runF 4 2 uNext) := by
  refine fn_okC F scNext fun A outer s H E ex hr => ?_
  exact ss_cons (ss_dr (k := 2) (se_bin (ot_add hK) (se_ix hK (se_var (pv 0)) se_int) se_int) (se_var (pv 0)))
    (ss_cons (ss_set (i := 2) (se_bin ot_div (se_ix hK (se_var (pv 0)) se_int) se_int) scNext.nd)
    (ss_cons (ss_set (i := 3) (se_bin (ot_add hK) (se_call (spF_ex G) hr (by decide) mG kG bG (sa_cons (se_ix hK (se_var (pv 0)) se_int) (sa_cons (se_bin (ot_add hK) (se_ix hK (se_var (pv 0)) se_int) (se_var (pv 2))) sa_nil))) (se_bin (ot_mul hK) se_int (se_var (pv 2)))) scNext.nd)
    (ss_one (ss_ret (se_call (spF_ex G2) hr (by decide) mG2 kG2 bG2 (sa_cons (se_var (pv 3)) (sa_cons (se_bin (ot_add hK) (se_bin ot_mod (se_callT ca_int mi PyProof.Rows.boot_int (sa_cons (se_ix hK (se_var (pv 0)) se_int) sa_nil)) se_int) se_int) (sa_cons (se_var (pv 1)) sa_nil))))))))
theorem ok_pick (hK : p.K = K) (F : FunC K "_law_pick" sPick f fd cA) (ml : mg "len" = none)
    (G : FnF P w K mg base 3 g gd ["draw", "bound"] p (runF 4 2 uNext)) (mG : mg "_law_next" = some (.ref g)) (kG : PySem.W.keepIn K (.ref g) = true) (bG : Binds K gd ["draw", "bound"] []) :
    FnF P w K mg base 4 f fd ["draw", "things"] p (runF 2 2 uPick) := by
  refine fn_okC F scPick fun A outer s H E ex hr => ?_
  exact ss_one (ss_ret (se_ix hK (se_var (pv 1)) (se_call (spF_ex G) hr (by decide) mG kG bG (sa_cons (se_var (pv 0)) (sa_cons (se_callB (ca_len hK) ml PySem.boot_len (sa_cons (se_var (pv 1)) sa_nil)) sa_nil)))))
end
end K22
set_option linter.all false
set_option maxRecDepth 100000
set_option maxHeartbeats 2000000
set_option exponentiation.threshold 1000
/-! The draws' arithmetic: what is drawn lies below the bound. -/
namespace FL
open PySem PySem.Spec PyProof.Rows L2 GxR GA
section
variable {h : T → T → Option T} {f g : EF} {l : AF} {env : Env} {dr dr1 dr2 dr3 : List T} {x y t : T} {ts : List T}
theorem eBin_eq (h1 : f env dr = some (x, dr1)) (h2 : g env dr1 = some (y, dr2)) (h3 : h x y = some t) : eBin h f g env dr = some (t, dr2) := by
  unfold eBin; rw [h1]; dsimp only; rw [h2]; dsimp only; rw [h3]
theorem eIx_eq (h1 : f env dr = some (x, dr1)) (h2 : g env dr1 = some (y, dr2)) (h3 : ixT dr2 x y = some t) : eIx f g env dr = some (t, dr2) := by
  unfold eIx; rw [h1]; dsimp only; rw [h2]; dsimp only; rw [h3]
theorem aCons_eq (h1 : f env dr = some (x, dr1)) (h2 : l env dr1 = some (ts, dr2)) : aCons f l env dr = some (x :: ts, dr2) := by
  unfold aCons; rw [h1]; dsimp only; rw [h2]
theorem eB_eq {k : List T → Option T} (h1 : l env dr = some (ts, dr1)) (h2 : k ts = some t) : eB k l env dr = some (t, dr1) := by
  unfold eB; rw [h1]; dsimp only; rw [h2]
theorem eCall_eq {n : Nat} {φ : Phi} (h1 : l env dr = some (ts, dr1)) (hn : ts.length = n) (h2 : φ ts dr1 = some (t, dr2)) : eCall n φ l env dr = some (t, dr2) := by
  unfold eCall; rw [h1]; dsimp only; rw [if_pos hn]; exact h2
theorem int1 {i : Int} (h1 : f env dr = some (.int i, dr1)) : eB intF (aCons f aNil) env dr = some (.int i, dr1) := eB_eq (aCons_eq h1 rfl) rfl
theorem sSeq_nx {u v : SF} {env1 : Env} (h1 : u env dr = some (.nx env1, dr1)) {r} (h2 : v env1 dr1 = r) : sSeq u v env dr = r := by
  unfold sSeq; rw [h1]; exact h2
theorem sSeq_rt {u v : SF} (h1 : u env dr = some (.rt t, dr1)) : sSeq u v env dr = some (.rt t, dr1) := by
  unfold sSeq; rw [h1]
theorem sSet_eq {i : Nat} (h1 : f env dr = some (t, dr1)) : sSet i f env dr = some (.nx (env.set i (some t)), dr1) := by
  unfold sSet; rw [h1]
theorem sRet_eq (h1 : f env dr = some (t, dr1)) : sRet f env dr = some (.rt t, dr1) := by
  unfold sRet; rw [h1]
theorem tB_eq {b : Bool} (h1 : f env dr = some (.bl b, dr1)) : tB f env dr = some (b, dr1) := by
  unfold tB; rw [h1]
theorem sIf_t {c : TF} {u v : SF} (h1 : c env dr = some (true, dr1)) {r} (h2 : u env dr1 = r) : sIf c u v env dr = r := by
  unfold sIf; rw [h1]; exact h2
theorem sIf_f {c : TF} {u v : SF} (h1 : c env dr = some (false, dr1)) {r} (h2 : v env dr1 = r) : sIf c u v env dr = r := by
  unfold sIf; rw [h1]; exact h2
theorem runF_rt {N n : Nat} {u : SF} (h1 : u (ts.map some ++ List.replicate (N - n) none) dr = some (.rt t, dr1)) : runF N n u ts dr = some (t, dr1) := by
  unfold runF; rw [h1]
end
theorem forGo_nx {b : BF} {u : SF} {t : T} {ts : List T} {env env1 env2 : Env} {dr dr2 : List T} {r} (h1 : b t env = some env1) (h2 : u env1 dr = some (.nx env2, dr2)) (h3 : forGo b u ts env2 dr2 = r) : forGo b u (t :: ts) env dr = r := by
  show (match b t env with | none => none | some env1 => _) = r
  rw [h1]
  dsimp only
  rw [h2]
  exact h3
theorem log_lt {i : Int} {n : Nat} (h : i.natAbs < 2 ^ n) (hn : 0 < n) : i.natAbs.log2 < n := by
  by_cases e : i.natAbs = 0
  · rw [e]; exact hn
  · exact (Nat.log2_lt e).mpr h
theorem mulT_int {i j : Int} (h1 : i.natAbs < 2 ^ 500) (h2 : j.natAbs < 2 ^ 500) : mulT (.int i) (.int j) = some (.int (i * j)) := by
  unfold mulT mulI
  dsimp only
  have a := log_lt h1 (by decide)
  have b := log_lt h2 (by decide)
  rw [if_pos (by omega)]
theorem modT_int {i j : Int} (h : 0 < j) : modT (.int i) (.int j) = some (.int (i % j)) := by
  unfold modT; dsimp only; rw [if_pos h]
theorem divT_int {i j : Int} (h : 0 < j) (h2 : j.natAbs < 2 ^ 500) : divT (.int i) (.int j) = some (.int (i / j)) := by
  unfold divT; dsimp only
  have a := log_lt h2 (by decide)
  rw [if_pos ⟨h, by omega⟩]
theorem small_abs {i : Int} {n : Nat} (h0 : 0 ≤ i) (h : i < 2 ^ n) : i.natAbs < 2 ^ n := by
  have e : (i.natAbs : Int) = i := Int.natAbs_of_nonneg h0
  have : (i.natAbs : Int) < ((2 ^ n : Nat) : Int) := by rw [e]; simpa using h
  exact Int.ofNat_lt.mp this
theorem pow_big {n : Nat} (h : n ≤ 400) {i : Nat} (hi : i < 2 ^ n) : i < 2 ^ 500 := Nat.lt_of_lt_of_le hi (Nat.pow_le_pow_right (by decide) (by omega))
theorem big {i : Int} {n : Nat} (h0 : 0 ≤ i) (h : i < 2 ^ n) (hn : n ≤ 400) : i.natAbs < 2 ^ 500 := pow_big hn (small_abs h0 h)
theorem ixN_in {n : Nat} {i : Int} (h0 : 0 ≤ i) (h : i < n) : ixN n i = some i.toNat := by
  unfold ixN
  rw [if_pos h0, if_pos (by omega)]
end FL
namespace K22
open PySem PySem.Spec PyProof.Rows L2 GxR GA EXO FL
/-- the primes -/
def prs : List Int := [1000003, 1000033, 1000037, 1000039, 1000081, 1000099, 1000117, 1000121, 1000133, 1000151, 1000159, 1000171, 1000183, 1000187, 1000193, 1000199]
theorem prs_at {j : Int} (h0 : 0 ≤ j) (h : j < 16) : ∃ q, atI (prs.map T.int) j = some (.int q) ∧ 0 < q := by
  have hj : j.toNat < prs.length := by show j.toNat < 16; omega
  refine ⟨prs[j.toNat], ?_, ?_⟩
  · unfold atI
    rw [ixN_in h0 (by show j < 16; exact h)]
    show (prs.map T.int)[j.toNat]? = _
    rw [List.getElem?_map, List.getElem?_eq_getElem hj]
    rfl
  · have : ∀ q ∈ prs, 0 < q := by decide
    exact this _ (List.getElem_mem hj)
theorem draw_ok {c k b : Int} (dr : List T) (hc0 : 0 ≤ c) (hc : c < 2 ^ 100) (hk0 : 0 ≤ k) (hk : k < 1000) (hb : 0 < b) : ∃ r, runF 4 3 uDraw [.int c, .int k, .int b] dr = some (.int r, dr) ∧ 0 ≤ r ∧ r < b := by
  obtain ⟨q, hq, hq0⟩ := prs_at (j := k % 16) (by omega) (by omega)
  refine ⟨(c * 48271 + k * 69621) % q % b, ?_, Int.emod_nonneg _ (by omega), Int.emod_lt_of_pos _ hb⟩
  refine runF_rt ?_
  unfold uDraw
  refine sSeq_nx (env1 := [some (.int c), some (.int k), some (.int b), some (.tup (prs.map T.int))]) (dr1 := dr) rfl ?_
  refine sRet_eq (eBin_eq (eBin_eq (int1 (eBin_eq (eBin_eq rfl rfl (mulT_int (big hc0 hc (by decide)) (by decide))) (eBin_eq rfl rfl (mulT_int (big hk0 (n := 10) (by omega) (by decide)) (by decide))) rfl)) (eIx_eq rfl (eBin_eq (int1 rfl) rfl (modT_int (by decide))) hq) (modT_int hq0)) rfl (modT_int hb))
theorem cell_ok {is : List Int} {k : Int} (dr : List T) (hk : 0 ≤ k) : ∃ c : Int, runF 2 2 uCell [.lst (is.map T.int), .int k] dr = some (.int c, dr) := by
  by_cases h : k < (is.length : Int)
  · have hj : k.toNat < is.length := by omega
    refine ⟨is[k.toNat], runF_rt ?_⟩
    unfold uCell
    refine sSeq_rt (sIf_t (tB_eq (eBin_eq rfl rfl ?_)) (sRet_eq (eIx_eq rfl rfl ?_)))
    · show some (T.bl (decide (k < (((is.map T.int).length : Nat) : Int)))) = _
      rw [List.length_map, decide_eq_true h]
    · show atI (is.map T.int) k = _
      unfold atI
      rw [ixN_in hk (by rw [List.length_map]; exact h)]
      show (is.map T.int)[k.toNat]? = _
      rw [List.getElem?_map, List.getElem?_eq_getElem hj]
      rfl
  · refine ⟨0, runF_rt ?_⟩
    unfold uCell
    refine sSeq_nx (sIf_f (tB_eq (eBin_eq rfl rfl ?_)) rfl) rfl
    show some (T.bl (decide (k < (((is.map T.int).length : Nat) : Int)))) = _
    rw [List.length_map, decide_eq_false h]
theorem loop_ok {a1 a2 a3 : Option T} {dr : List T} : ∀ (ts : List T) (e : Nat) (pw : Int) (lap : Option T), 0 < pw → pw < 2 ^ e → e + 10 * ts.length ≤ 400 →
    ∃ (pw' : Int) (lap' : Option T), forGo (bN 4) (sSet 3 (eBin mulT (eVar 3) (eC (.int 1009)))) ts [a1, a2, a3, some (.int pw), lap, none, none] dr = some (.nx [a1, a2, a3, some (.int pw'), lap', none, none], dr) ∧ 0 < pw' ∧ pw'.natAbs < 2 ^ 500
  | [], e, pw, lap, h0, h1, h2 => ⟨pw, lap, rfl, h0, big (by omega) h1 (by simpa using h2)⟩
  | t :: ts, e, pw, lap, h0, h1, h2 => by
    have h3 : e + 10 + 10 * ts.length ≤ 400 := by
      have : (t :: ts).length = ts.length + 1 := rfl
      omega
    have h4 : pw * 1009 < 2 ^ (e + 10) := by
      have : (2 : Int) ^ (e + 10) = 2 ^ e * 1024 := by rw [Int.pow_add]; rfl
      rw [this]
      omega
    obtain ⟨pw', lap', h, q⟩ := loop_ok ts (e + 10) (pw * 1009) (some t) (by omega) h4 h3
    refine ⟨pw', lap', ?_, q⟩
    exact forGo_nx rfl (sSet_eq (eBin_eq rfl rfl (mulT_int (big (by omega) h1 (by omega)) (by decide)))) h
theorem num_ok {c k b : Int} (dr : List T) (hk0 : 0 ≤ k) (hk : k < 1000) (hb : 0 < b) : ∃ r, runF 7 3 uNum [.int c, .int k, .int b] dr = some (.int r, dr) ∧ 0 ≤ r ∧ r < b := by
  have hj0 : 0 ≤ k % 24 := by omega
  have hj : k % 24 < 24 := by omega
  have hlen : (rngL 0 (k % 24).toNat).length = (k % 24).toNat := by unfold rngL; rw [List.length_map, List.length_range]
  obtain ⟨pw, lap, hl, hp0, hp⟩ := loop_ok (a1 := some (.int c)) (a2 := some (.int k)) (a3 := some (.int b)) (dr := dr) (rngL 0 (k % 24).toNat) 1 1 none (by decide) (by decide) (by rw [hlen]; omega)
  have start : ∀ {v : SF} {r}, v [some (.int c), some (.int k), some (.int b), some (.int pw), lap, none, none] dr = r →
      sSeq (sSet 3 (eC (.int 1))) (sSeq (sFor (FL.iRng1 (eBin modT (eB intF (aCons (eVar 1) aNil)) (eC (.int 24)))) (bN 4) (sSet 3 (eBin mulT (eVar 3) (eC (.int 1009))))) v) ([T.int c, T.int k, T.int b].map some ++ List.replicate (7 - 3) none) dr = r := fun {v r} hv => by
    refine sSeq_nx (env1 := [some (.int c), some (.int k), some (.int b), some (.int 1), none, none, none]) (dr1 := dr) rfl (sSeq_nx (dr1 := dr) ?_ hv)
    unfold sFor
    have hr : FL.iRng1 (eBin modT (eB intF (aCons (eVar 1) aNil)) (eC (.int 24))) [some (.int c), some (.int k), some (.int b), some (.int 1), none, none, none] dr = some (rngL 0 (k % 24).toNat, dr) := by
      unfold FL.iRng1
      rw [eBin_eq (int1 (i := k) rfl) rfl (modT_int (by decide))]
      dsimp only
      rw [if_pos ⟨by omega, by omega⟩]
    rw [hr]
    exact hl
  have hrem : sSet 5 (eBin divT (eBin subT (eVar 0) (eBin powT (eC (.int 10)) (eC (.int 18)))) (eVar 3)) [some (.int c), some (.int k), some (.int b), some (.int pw), lap, none, none] dr =
      some (.nx [some (.int c), some (.int k), some (.int b), some (.int pw), lap, some (.int ((c - 10 ^ 18) / pw)), none], dr) := sSet_eq (eBin_eq (eBin_eq rfl (eBin_eq rfl rfl rfl) rfl) rfl (divT_int hp0 hp))
  by_cases hc : (c - 10 ^ 18) / pw > 0
  · refine ⟨(c - 10 ^ 18) / pw % 1009 % b, runF_rt ?_, Int.emod_nonneg _ (by omega), Int.emod_lt_of_pos _ hb⟩
    refine start (sSeq_nx hrem (sSeq_rt (sIf_t (dr1 := dr) (tB_eq (eBin_eq rfl rfl ?_)) (sRet_eq (eBin_eq (eBin_eq (int1 rfl) rfl (modT_int (by decide))) rfl (modT_int hb))))))
    show some (T.bl (decide (0 < (c - 10 ^ 18) / pw))) = _
    rw [decide_eq_true hc]
  · have hs0 : 0 ≤ c % 1000003 := Int.emod_nonneg _ (by decide)
    have hs : c % 1000003 < 1000003 := Int.emod_lt_of_pos _ (by decide)
    have ha : (c % 1000003 + 977 * k) < 2 ^ 21 := by omega
    have hb2 : (c % 1000003 + 31 * k + 5) < 2 ^ 21 := by omega
    have hm0 : 0 ≤ (c % 1000003 + 977 * k) * (c % 1000003 + 31 * k + 5) := Int.mul_nonneg (by omega) (by omega)
    have hm : (c % 1000003 + 977 * k) * (c % 1000003 + 31 * k + 5) < 2 ^ 100 := by
      have h1 : (c % 1000003 + 977 * k) * (c % 1000003 + 31 * k + 5) ≤ 2 ^ 21 * 2 ^ 21 := Int.mul_le_mul (by omega) (by omega) (by omega) (by decide)
      exact Int.lt_of_le_of_lt h1 (by decide)
    obtain ⟨r, hr, r0, r1⟩ := draw_ok (k := k % 9 + 1) (b := 999983) dr hm0 hm (by omega) (by omega) (by decide)
    refine ⟨r % b, runF_rt ?_, Int.emod_nonneg _ (by omega), Int.emod_lt_of_pos _ hb⟩
    refine start (sSeq_nx hrem (sSeq_nx (sIf_f (dr1 := dr) (tB_eq (eBin_eq rfl rfl ?_)) rfl) ?_))
    · show some (T.bl (decide (0 < (c - 10 ^ 18) / pw))) = _
      rw [decide_eq_false hc]
    · refine sSeq_nx (dr1 := dr) (sSet_eq (eBin_eq (int1 rfl) rfl (modT_int (by decide)))) ?_
      refine sRet_eq (eBin_eq (eCall_eq (aCons_eq (eBin_eq (eBin_eq rfl (eBin_eq rfl rfl (mulT_int (by decide) (big hk0 (n := 10) (by omega) (by decide)))) rfl) (eBin_eq (eBin_eq rfl (eBin_eq rfl rfl (mulT_int (by decide) (big hk0 (n := 10) (by omega) (by decide)))) rfl) rfl rfl)
        (mulT_int (big (n := 21) (by omega) ha (by decide)) (big (n := 21) (by omega) hb2 (by decide)))) (aCons_eq (eBin_eq (eBin_eq (int1 rfl) rfl (modT_int (by decide))) rfl rfl) rfl)) rfl hr) rfl (modT_int hb))
/-- what the draws keep: the script, a base, a count -/
def Dr (is : List Int) (n : Int) : List T := [.lst (is.map T.int), .int 0, .int n]
theorem next_ok {is : List Int} {n b : Int} (hn : 0 ≤ n) (hn2 : n < 2 ^ 100) (hb : 0 < b) : ∃ r, runF 4 2 uNext [.ref, .int b] (Dr is n) = some (.int r, Dr is (n + 1)) ∧ 0 ≤ r ∧ r < b := by
  have hat : 0 ≤ (n + 1) / 12 := by omega
  obtain ⟨c, hc⟩ := cell_ok (is := is) (k := 0 + (n + 1) / 12) (Dr is (n + 1)) (by omega)
  obtain ⟨r, hr, r0, r1⟩ := num_ok (c := c + 31 * ((n + 1) / 12)) (k := (n + 1) % 12 + 1) (b := b) (Dr is (n + 1)) (by omega) (by omega) hb
  refine ⟨r, runF_rt ?_, r0, r1⟩
  unfold uNext
  refine sSeq_nx (env1 := [some .ref, some (.int b), none, none]) (dr1 := Dr is (n + 1)) rfl ?_
  refine sSeq_nx (env1 := [some .ref, some (.int b), some (.int ((n + 1) / 12)), none]) (dr1 := Dr is (n + 1)) rfl ?_
  refine sSeq_nx (sSet_eq (eBin_eq (eCall_eq (aCons_eq rfl (aCons_eq (eBin_eq rfl rfl rfl) rfl)) rfl hc) (eBin_eq rfl rfl (mulT_int (by decide) (big hat (n := 101) (by omega) (by decide)))) rfl)) ?_
  exact sRet_eq (eCall_eq (aCons_eq rfl (aCons_eq (eBin_eq (eBin_eq (int1 rfl) rfl (modT_int (by decide))) rfl rfl) (aCons_eq rfl rfl))) rfl hr)
theorem pick_ok {is : List Int} {n : Int} {ts : List T} (hn : 0 ≤ n) (hn2 : n < 2 ^ 100) (hts : 0 < ts.length) : ∃ (j : Nat) (t : T), ts[j]? = some t ∧ runF 2 2 uPick [.ref, .lst ts] (Dr is n) = some (t, Dr is (n + 1)) := by
  obtain ⟨r, hr, r0, r1⟩ := next_ok (is := is) (b := (ts.length : Int)) hn hn2 (by omega)
  have hj : r.toNat < ts.length := by omega
  refine ⟨r.toNat, ts[r.toNat], List.getElem?_eq_getElem hj, runF_rt ?_⟩
  unfold uPick
  refine sRet_eq (eIx_eq rfl (eCall_eq (aCons_eq rfl (aCons_eq rfl rfl)) rfl hr) ?_)
  show atI ts r = _
  unfold atI
  rw [ixN_in r0 r1]
  exact List.getElem?_eq_getElem hj
end K22
set_option linter.all false
set_option maxRecDepth 100000
set_option maxHeartbeats 2000000
namespace K22
open PySem PySem.Spec PyProof.Rows L2 GxR GA EXO FL
abbrev sLaw : Stmt := top 16
abbrev NL : List Str := ["script", "draw", "thing", "error", "place", "several", "large", "pair", "source"]
theorem scLaw : FnScope NL ["script"] (defScope sLaw) := ⟨rfl, rfl, rfl, by decide +kernel, rfl, by decide +kernel, by decide +kernel⟩
abbrev f1 (n : Str) : List (Str × Nat) := [(n, 0)]
abbrev f2 (n m : Str) : List (Str × Nat) := [(m, 1), (n, 0)]
def gF : Nat → Option Bool := fun _ => some true
def gT : Nat → Option Bool := fun i => some (i == 3)
def uDr : EF := eLst (aCons (eSlHi (eVar 0) (eC (.int 63))) (aCons (eC (.int 0)) (aCons (eC (.int 0)) aNil)))
def cond1 : TF := bOr (tB (eBin cNeD (eAt [0, 1, 2] "thing" (eVar 3)) (eVar 2))) (bOr (bNot (tB (eB (isxF gF) (aCons (eVar 3) aNil)))) (tB (eB (isxF gT) (aCons (eVar 3) aNil))))
def cond2 : TF := bOr (tB (eBin cNeD (eAt [3] "place" (eVar 4)) (eC (.int 7)))) (bOr (tB (eBin cNeD (eAt [4] "text" (eVar 5)) (eC (.str [97, 98])))) (bOr (tB (eBin cNeD (eAt [5] "most" (eVar 6)) (eC (.int 300))))
  (bOr (tB (eBin cNeD (eAt [6] "why" (eVar 7)) (eC (.str [119, 104, 121])))) (tB (eBin cNeD (eTup (aCons (eAt [7] "line" (eVar 8)) (aCons (eAt [7] "column" (eVar 8)) aNil))) (eTup (aCons (eC (.int 2)) (aCons (eC (.int 5)) aNil))))))))
def uRest2 : SF := sSeq (sFor (iSeq (eTup (aCons (eMk 0 1 (f1 "thing") (aCons (eVar 2) aNil)) (aCons (eMk 1 1 (f1 "thing") (aCons (eVar 2) aNil)) (aCons (eMk 2 1 (f1 "thing") (aCons (eVar 2) aNil)) aNil))))) (bN 3) (sIf cond1 (sRet (eC (.bl false))) sNil))
  (sSeq (sTup [4, 5, 6, 7, 8] (eTup (aCons (eMk 3 1 (f1 "place") (aCons (eC (.int 7)) aNil)) (aCons (eMk 4 1 (f1 "text") (aCons (eC (.str [97, 98])) aNil)) (aCons (eMk 5 1 (f1 "most") (aCons (eC (.int 300)) aNil)) (aCons (eMk 6 1 (f1 "why") (aCons (eC (.str [119, 104, 121])) aNil))
    (aCons (eMk 7 2 (f2 "line" "column") (aCons (eC (.int 2)) (aCons (eC (.int 5)) aNil))) aNil)))))))
  (sSeq (sIf cond2 (sRet (eC (.bl false))) sNil)
    (sRet (eB allF (aCons (lcF (iSeq (eTup (aCons (eVar 4) (aCons (eVar 5) (aCons (eVar 6) (aCons (eVar 7) (aCons (eVar 8) aNil))))))) (bN 3) uYes (eAnd (eB (isxF gF) (aCons (eVar 3) aNil)) (eB (isxF gF) (aCons (eVar 3) aNil))) [3]) aNil)))))
def things : List T := [.non, .int 3, .tup [.str [97]], .str [122, 122], .int (-1)]
def uRest : SF := sSeq (sSet 2 (eCall 2 (runF 2 2 uPick) (aCons (eVar 1) (aCons (eLst (aCons (eC .non) (aCons (eC (.int 3)) (aCons (eTup (aCons (eC (.str [97])) aNil)) (aCons (eC (.str [122, 122])) (aCons (eNeg (eC (.int 1))) aNil)))))) aNil)))) uRest2
theorem rest_ok (is : List Int) (t : T) (j : Nat) (h : things[j]? = some t) : uRest2 [none, some .ref, some t, none, none, none, none, none, none] (Dr is 1) = some (.rt (.bl true), Dr is 1) := by
  match j, h with
  | 0, h => cases h; kernel_rfl
  | 1, h => cases h; kernel_rfl
  | 2, h => cases h; kernel_rfl
  | 3, h => cases h; kernel_rfl
  | 4, h => cases h; kernel_rfl
  | n + 5, h => cases h
end K22
set_option linter.all false
set_option maxRecDepth 100000
set_option maxHeartbeats 2000000
namespace K22
open PySem PySem.Spec PyProof.Rows L2 GxR GA EXO FL
theorem pss_ex {α : Type} {X : Cx} {l : List Stmt} {t : α → TS} (h : ∀ d, PSs X l (t d)) : PSs X l (fun D σ H => ∃ d, t d D σ H) := ⟨fun pins s σ H D I ⟨d, q⟩ => (h d).run pins s σ H D I q⟩
/-- one of the classes -/
structure One (K : PySem.W.Frag) (mg : Str → Option Value) (CF CT : Addr) (nm : Str) (C : Addr) (b : Bool) : Prop where
  gm : mg nm = some (.ref C)
  ex : ExC K C
  kF : PySem.W.kitOne K (.ref C) (.ref CF) = some true
  kT : PySem.W.kitOne K (.ref C) (.ref CT) = some b
  kE : PySem.W.kitOne K (.ref C) (.type "Exception") = some true
structure Cls (K : PySem.W.Frag) (mg : Str → Option Value) (CF C0 C1 C2 C3 C4 C5 C6 C7 g0 g1 g2 g3 g4 g5 g6 g7 : Addr) : Prop where
  gF : mg "FormatError" = some (.ref CF)
  o0 : One K mg CF C3 "BadSort" C0 false
  o1 : One K mg CF C3 "BadFormat" C1 false
  o2 : One K mg CF C3 "BadThing" C2 false
  o3 : One K mg CF C3 "BadText" C3 true
  o4 : One K mg CF C3 "ManyValues" C4 false
  o5 : One K mg CF C3 "TooLarge" C5 false
  o6 : One K mg CF C3 "BadPair" C6 false
  o7 : One K mg CF C3 "BadSource" C7 false
  x0 : Tx1 K C0 g0 "thing"
  x1 : Tx1 K C1 g1 "thing"
  x2 : Tx1 K C2 g2 "thing"
  x3 : Tx1 K C3 g3 "place"
  x4 : Tx1 K C4 g4 "text"
  x5 : Tx1 K C5 g5 "most"
  x6 : Tx1 K C6 g6 "why"
  x7 : Tx2 K C7 g7 "line" "column"
theorem cl8 {C0 C1 C2 C3 C4 C5 C6 C7 : Addr} {Q : Nat → Addr → Prop} (q0 : Q 0 C0) (q1 : Q 1 C1) (q2 : Q 2 C2) (q3 : Q 3 C3) (q4 : Q 4 C4) (q5 : Q 5 C5) (q6 : Q 6 C6) (q7 : Q 7 C7) : ∀ (i : Nat) (C : Addr), [C0, C1, C2, C3, C4, C5, C6, C7][i]? = some C → Q i C
  | 0, _, h => by cases h; exact q0
  | 1, _, h => by cases h; exact q1
  | 2, _, h => by cases h; exact q2
  | 3, _, h => by cases h; exact q3
  | 4, _, h => by cases h; exact q4
  | 5, _, h => by cases h; exact q5
  | 6, _, h => by cases h; exact q6
  | 7, _, h => by cases h; exact q7
  | n + 8, _, h => by simp at h
section
variable {P : Program} {w : World} {K : PySem.W.Frag} {mg : Str → Option Value} {base : Heap} {f g cA : Addr} {fd gd : FuncData} {CF C0 C1 C2 C3 C4 C5 C6 C7 g0 g1 g2 g3 g4 g5 g6 g7 : Addr}
abbrev pm (K : PySem.W.Frag) (cl : List Addr) (d : Option Addr) : Pm := ⟨K, d, [], [], cl⟩
def t_law (K : PySem.W.Frag) (cl : List Addr) : TS := tSeq (tS (pm K cl none) (sSet 1 uDr)) (fun D σ H => ∃ d, tS (pm K cl (some d)) uRest D σ H)
theorem body_ok (T : Cls K mg CF C0 C1 C2 C3 C4 C5 C6 C7 g0 g1 g2 g3 g4 g5 g6 g7) (mi : mg "isinstance" = none) (ma : mg "all" = none) (mx : mg "Exception" = none)
    (G : ∀ p : Pm, p.K = K → FnF P w K mg base 4 g gd ["draw", "things"] p (runF 2 2 uPick)) (mG : mg "_law_pick" = some (.ref g)) (kG : PySem.W.keepIn K (.ref g) = true) (bG : Binds K gd ["draw", "things"] [])
    (A : Around) (outer : List PySem.Env) (s : Shared) (H : Hp) (E : XK) (hr : Room 4 (A.deeper (envOfC "law" (defScope sLaw) s.heap.objs.size f (.ref cA)))) :
    PSs (cxOf L2.CX0 P w K mg base NL "law" (defScope sLaw) f (.ref cA) A outer s H E).nox (defBody sLaw) (t_law K [C0, C1, C2, C3, C4, C5, C6, C7]) := by
  have hr1 : Room 1 (A.deeper (envOfC "law" (defScope sLaw) s.heap.objs.size f (.ref cA))) := hr.mono (by decide)
  have isF : ∀ (i : Nat) (b : Bool) (C : Addr), gF i = some b → [C0, C1, C2, C3, C4, C5, C6, C7][i]? = some C → ExC K C ∧ PySem.W.kitOne K (.ref C) (.ref CF) = some b := fun i b C hb hc => by
    cases hb
    exact cl8 (Q := fun _ C => ExC K C ∧ PySem.W.kitOne K (.ref C) (.ref CF) = some true) ⟨T.o0.ex, T.o0.kF⟩ ⟨T.o1.ex, T.o1.kF⟩ ⟨T.o2.ex, T.o2.kF⟩ ⟨T.o3.ex, T.o3.kF⟩ ⟨T.o4.ex, T.o4.kF⟩ ⟨T.o5.ex, T.o5.kF⟩ ⟨T.o6.ex, T.o6.kF⟩ ⟨T.o7.ex, T.o7.kF⟩ i C hc
  have isE : ∀ (i : Nat) (b : Bool) (C : Addr), gF i = some b → [C0, C1, C2, C3, C4, C5, C6, C7][i]? = some C → ExC K C ∧ PySem.W.kitOne K (.ref C) (.type "Exception") = some b := fun i b C hb hc => by
    cases hb
    exact cl8 (Q := fun _ C => ExC K C ∧ PySem.W.kitOne K (.ref C) (.type "Exception") = some true) ⟨T.o0.ex, T.o0.kE⟩ ⟨T.o1.ex, T.o1.kE⟩ ⟨T.o2.ex, T.o2.kE⟩ ⟨T.o3.ex, T.o3.kE⟩ ⟨T.o4.ex, T.o4.kE⟩ ⟨T.o5.ex, T.o5.kE⟩ ⟨T.o6.ex, T.o6.kE⟩ ⟨T.o7.ex, T.o7.kE⟩ i C hc
  have isT : ∀ (i : Nat) (b : Bool) (C : Addr), gT i = some b → [C0, C1, C2, C3, C4, C5, C6, C7][i]? = some C → ExC K C ∧ PySem.W.kitOne K (.ref C) (.ref C3) = some b := fun i b C hb hc => by
    cases hb
    exact cl8 (Q := fun i C => ExC K C ∧ PySem.W.kitOne K (.ref C) (.ref C3) = some (i == 3)) ⟨T.o0.ex, T.o0.kT⟩ ⟨T.o1.ex, T.o1.kT⟩ ⟨T.o2.ex, T.o2.kT⟩ ⟨T.o3.ex, T.o3.kT⟩ ⟨T.o4.ex, T.o4.kT⟩ ⟨T.o5.ex, T.o5.kT⟩ ⟨T.o6.ex, T.o6.kT⟩ ⟨T.o7.ex, T.o7.kT⟩ i C hc
  have atN : ∀ (is : List Nat) (n : Str), (∀ i C, is.contains i = true → [C0, C1, C2, C3, C4, C5, C6, C7][i]? = some C → ExC K C ∧ PySem.W.findIn K (.ref C) n = some none) → True := fun _ _ _ => trivial
  have a0 : ∀ (i : Nat) (C : Addr), ([0, 1, 2] : List Nat).contains i = true → [C0, C1, C2, C3, C4, C5, C6, C7][i]? = some C → ExC K C ∧ PySem.W.findIn K (.ref C) ("thing" : Str) = some none := fun i C hi hc =>
    cl8 (Q := fun i C => ([0, 1, 2] : List Nat).contains i = true → ExC K C ∧ PySem.W.findIn K (.ref C) ("thing" : Str) = some none) (fun _ => ⟨T.o0.ex, T.x0.nf⟩) (fun _ => ⟨T.o1.ex, T.x1.nf⟩) (fun _ => ⟨T.o2.ex, T.x2.nf⟩) (fun h => by cases h) (fun h => by cases h) (fun h => by cases h) (fun h => by cases h) (fun h => by cases h) i C hc hi
  have a3 : ∀ (i : Nat) (C : Addr), ([3] : List Nat).contains i = true → [C0, C1, C2, C3, C4, C5, C6, C7][i]? = some C → ExC K C ∧ PySem.W.findIn K (.ref C) ("place" : Str) = some none := fun i C hi hc =>
    cl8 (Q := fun i C => ([3] : List Nat).contains i = true → ExC K C ∧ PySem.W.findIn K (.ref C) ("place" : Str) = some none) (fun h => by cases h) (fun h => by cases h) (fun h => by cases h) (fun _ => ⟨T.o3.ex, T.x3.nf⟩) (fun h => by cases h) (fun h => by cases h) (fun h => by cases h) (fun h => by cases h) i C hc hi
  have a4 : ∀ (i : Nat) (C : Addr), ([4] : List Nat).contains i = true → [C0, C1, C2, C3, C4, C5, C6, C7][i]? = some C → ExC K C ∧ PySem.W.findIn K (.ref C) ("text" : Str) = some none := fun i C hi hc =>
    cl8 (Q := fun i C => ([4] : List Nat).contains i = true → ExC K C ∧ PySem.W.findIn K (.ref C) ("text" : Str) = some none) (fun h => by cases h) (fun h => by cases h) (fun h => by cases h) (fun h => by cases h) (fun _ => ⟨T.o4.ex, T.x4.nf⟩) (fun h => by cases h) (fun h => by cases h) (fun h => by cases h) i C hc hi
  have a5 : ∀ (i : Nat) (C : Addr), ([5] : List Nat).contains i = true → [C0, C1, C2, C3, C4, C5, C6, C7][i]? = some C → ExC K C ∧ PySem.W.findIn K (.ref C) ("most" : Str) = some none := fun i C hi hc =>
    cl8 (Q := fun i C => ([5] : List Nat).contains i = true → ExC K C ∧ PySem.W.findIn K (.ref C) ("most" : Str) = some none) (fun h => by cases h) (fun h => by cases h) (fun h => by cases h) (fun h => by cases h) (fun h => by cases h) (fun _ => ⟨T.o5.ex, T.x5.nf⟩) (fun h => by cases h) (fun h => by cases h) i C hc hi
  have a6 : ∀ (i : Nat) (C : Addr), ([6] : List Nat).contains i = true → [C0, C1, C2, C3, C4, C5, C6, C7][i]? = some C → ExC K C ∧ PySem.W.findIn K (.ref C) ("why" : Str) = some none := fun i C hi hc =>
    cl8 (Q := fun i C => ([6] : List Nat).contains i = true → ExC K C ∧ PySem.W.findIn K (.ref C) ("why" : Str) = some none) (fun h => by cases h) (fun h => by cases h) (fun h => by cases h) (fun h => by cases h) (fun h => by cases h) (fun h => by cases h) (fun _ => ⟨T.o6.ex, T.x6.nf⟩) (fun h => by cases h) i C hc hi
  have a7 : ∀ (i : Nat) (C : Addr), ([7] : List Nat).contains i = true → [C0, C1, C2, C3, C4, C5, C6, C7][i]? = some C → ExC K C ∧ PySem.W.findIn K (.ref C) ("line" : Str) = some none := fun i C hi hc =>
    cl8 (Q := fun i C => ([7] : List Nat).contains i = true → ExC K C ∧ PySem.W.findIn K (.ref C) ("line" : Str) = some none) (fun h => by cases h) (fun h => by cases h) (fun h => by cases h) (fun h => by cases h) (fun h => by cases h) (fun h => by cases h) (fun h => by cases h) (fun _ => ⟨T.o7.ex, T.x7.nf⟩) i C hc hi
  have a8 : ∀ (i : Nat) (C : Addr), ([7] : List Nat).contains i = true → [C0, C1, C2, C3, C4, C5, C6, C7][i]? = some C → ExC K C ∧ PySem.W.findIn K (.ref C) ("column" : Str) = some none := fun i C hi hc =>
    cl8 (Q := fun i C => ([7] : List Nat).contains i = true → ExC K C ∧ PySem.W.findIn K (.ref C) ("column" : Str) = some none) (fun h => by cases h) (fun h => by cases h) (fun h => by cases h) (fun h => by cases h) (fun h => by cases h) (fun h => by cases h) (fun h => by cases h) (fun _ => ⟨T.o7.ex, T.x7.nf'⟩) i C hc hi
  refine pss_cons (ss_set (i := 1) (se_lst (sa_cons (se_slhi rfl (se_var (pv 0)) se_int) (sa_cons se_int (sa_cons se_int sa_nil)))) scLaw.nd) (pss_ex fun d => ?_)
  have hu := hr1.units
  refine ss_cons (ss_set (i := 2) (se_call (G _ rfl) hr (Nat.le_refl _) mG kG bG (sa_cons (se_var (pv 1)) (sa_cons (se_lst (sa_cons se_non (sa_cons se_int (sa_cons (se_tup (sa_cons (se_str [97] rfl) sa_nil)) (sa_cons (se_str [122, 122] rfl) (sa_cons (se_neg se_int) sa_nil)))))) sa_nil))) scLaw.nd) ?_
  refine ss_cons (ss_for (g_name (i := 3) (vs := [3]) (by simp)) PassesOwn.never rfl (si_seq rfl (se_tup (sa_cons (se_mk (i := 0) rfl T.o0.ex T.x0.iC T.x0.tC (ini_thing T.o0.ex T.x0) hr1 T.o0.gm (sa_cons (se_var (pv 2)) sa_nil)) (sa_cons (se_mk (i := 1) rfl T.o1.ex T.x1.iC T.x1.tC (ini_thing T.o1.ex T.x1) hr1 T.o1.gm (sa_cons (se_var (pv 2)) sa_nil)) (sa_cons (se_mk (i := 2) rfl T.o2.ex T.x2.iC T.x2.tC (ini_thing T.o2.ex T.x2) hr1 T.o2.gm (sa_cons (se_var (pv 2)) sa_nil)) sa_nil))))) (pg_name (i := 3) scLaw.nd rfl (Or.inl rfl))
    (ss_one (ss_if (sb_w (sw_or (sb_cmp (ot_neD rfl hu) (se_at a0 (se_var (pv 3))) (se_var (pv 2))) (sw_or (sb_not (sb_val (se_isx (.own CF) isF (se_var (pv 3)) (pe_glob rfl T.gF rfl) mi))) (sw_or1 (sb_val (se_isx (.own C3) isT (se_var (pv 3)) (pe_glob rfl T.o3.gm rfl) mi)))))) (ss_one (ss_ret se_bl)) ss_nil))) ?_
  refine ss_cons (ss_tup (is := [4, 5, 6, 7, 8]) rfl rfl (se_tup (sa_cons (se_mk (i := 3) rfl T.o3.ex T.x3.iC T.x3.tC (ini_place T.o3.ex T.x3) hr1 T.o3.gm (sa_cons se_int sa_nil)) (sa_cons (se_mk (i := 4) rfl T.o4.ex T.x4.iC T.x4.tC (ini_text T.o4.ex T.x4) hr1 T.o4.gm (sa_cons (se_str [97, 98] rfl) sa_nil)) (sa_cons (se_mk (i := 5) rfl T.o5.ex T.x5.iC T.x5.tC (ini_most T.o5.ex T.x5) hr1 T.o5.gm (sa_cons se_int sa_nil))
    (sa_cons (se_mk (i := 6) rfl T.o6.ex T.x6.iC T.x6.tC (ini_why T.o6.ex T.x6) hr1 T.o6.gm (sa_cons (se_str [119, 104, 121] rfl) sa_nil)) (sa_cons (se_mk (i := 7) rfl T.o7.ex T.x7.iC T.x7.tC (ini_line_column T.o7.ex T.x7) hr1 T.o7.gm (sa_cons se_int (sa_cons se_int sa_nil))) sa_nil))))))
    (pgs_cons (pg_name (i := 4) scLaw.nd rfl (Or.inl rfl)) (pgs_cons (pg_name (i := 5) scLaw.nd rfl (Or.inl rfl)) (pgs_cons (pg_name (i := 6) scLaw.nd rfl (Or.inl rfl)) (pgs_cons (pg_name (i := 7) scLaw.nd rfl (Or.inl rfl)) (pgs_cons (pg_name (i := 8) scLaw.nd rfl (Or.inl rfl)) pgs_nil)))))) ?_
  refine ss_cons (ss_if (sb_w (sw_or (sb_cmp (ot_neD rfl hu) (se_at a3 (se_var (pv 4))) se_int) (sw_or (sb_cmp (ot_neD rfl hu) (se_at a4 (se_var (pv 5))) (se_str [97, 98] rfl)) (sw_or (sb_cmp (ot_neD rfl hu) (se_at a5 (se_var (pv 6))) se_int) (sw_or (sb_cmp (ot_neD rfl hu) (se_at a6 (se_var (pv 7))) (se_str [119, 104, 121] rfl))
    (sw_or1 (sb_cmp (ot_neD rfl hu) (se_tup (sa_cons (se_at a7 (se_var (pv 8))) (sa_cons (se_at a8 (se_var (pv 8))) sa_nil))) (se_tup (sa_cons se_int (sa_cons se_int sa_nil)))))))))) (ss_one (ss_ret se_bl)) ss_nil) ?_
  refine ss_one (ss_ret (se_callB (ca_all rfl) ma PyProof.Rows.boot_all (sa_cons ?_ sa_nil)))
  exact se_lc (own := [(("error" : Str), 3)]) (g_name (i := 3) (vs := [3]) (by simp)) rfl scLaw.nd (si_seq rfl (se_tup (sa_cons (se_var (pv 4)) (sa_cons (se_var (pv 5)) (sa_cons (se_var (pv 6)) (sa_cons (se_var (pv 7)) (sa_cons (se_var (pv 8)) sa_nil)))))))
    ⟨by rfl, by decide +kernel, (by show ∀ p ∈ [(("error" : Str), 3)], NL[p.2]? = some p.1; decide +kernel), (by show ∀ y ∈ (_ : List (Str × NameKind)), y.2 = NameKind.free → (defScope sLaw).names.lookup y.1 = some .cell ∨ (defScope sLaw).names.lookup y.1 = some .free; decide +kernel),
      (by show ∀ y ∈ (_ : List (Str × NameKind)), y.2 = NameKind.local ∨ y.2 = NameKind.cell → y.1 ∈ [(("error" : Str), 3)].map (·.1) ∨ y.1 ∉ NL; decide +kernel)⟩ (fun s H C cl fp => pg_name (i := 3) scLaw.nd rfl (Or.inl rfl)) (fun s H C cl fp => pts_yes) (fun D s H C cl fp => se_and (se_isx (.own CF) isF (se_var (pv 3)) (pe_glob rfl T.gF rfl) mi) (se_one (se_isx (.ty "Exception") isE (se_var (pv 3)) (pe_bltn rfl mx PyProof.Rows.Boot.«Exception» rfl) mi)))
end
end K22
set_option linter.all false
set_option maxRecDepth 100000
set_option maxHeartbeats 2000000
namespace K22
open PySem PySem.Spec PyProof.Rows L2 GxR GA EXO FL
theorem ints_reps {p : Pm} {H : Hp} : ∀ ns : List Int, Reps p H (ns.map T.int) (ns.map V.int)
  | [] => rfl
  | n :: ns => ⟨_, _, rfl, rfl, ints_reps ns⟩
theorem ints_any {p p' : Pm} {H : Hp} : ∀ (ns : List Int) {vs : List V}, Reps p H (ns.map T.int) vs → Reps p' H (ns.map T.int) vs
  | [], _, h => h
  | n :: ns, _, h => by
    obtain ⟨v, r, rfl, a, b⟩ := h
    exact ⟨v, r, rfl, a, ints_any ns b⟩
theorem cut_map (ns : List Int) (lo hi : Option Int) : cutL (ns.map T.int) lo hi = (cutL ns lo hi).map T.int := by
  unfold cutL
  rw [List.length_map, ← List.map_drop, ← List.map_take]
theorem run_ok (is : List Int) : uRest [none, some .ref, none, none, none, none, none, none, none] (Dr is 0) = some (.rt (.bl true), Dr is 1) := by
  obtain ⟨j, t, hj, hp⟩ := pick_ok (is := is) (n := 0) (ts := things) (by decide) (by decide) (by decide)
  have hr := rest_ok is t j hj
  unfold uRest
  exact sSeq_nx (sSet_eq (eCall_eq (ts := [.ref, .lst things]) (aCons_eq rfl (aCons_eq rfl rfl)) rfl hp)) hr
def spLaw (K : PySem.W.Frag) : Sp := fun vs H Q _ => ∃ (a : Addr) (ns : List Int), vs = [.ref a] ∧ SqL K H a (ns.map V.int) ∧ ∀ H', Q (.bl true) H'
section
variable {P : Program} {w : World} {K : PySem.W.Frag} {mg : Str → Option Value} {base : Heap} {f g cA : Addr} {fd gd : FuncData} {CF C0 C1 C2 C3 C4 C5 C6 C7 g0 g1 g2 g3 g4 g5 g6 g7 : Addr}
theorem pure_law {cl : List Addr} {vs : List V} {H : Hp} {Q : VK} {E : XK} (h : spLaw K vs H Q E) : t_law K cl { nx := fun _ H' => Q .non H', rt := Q } (L2.start NL vs) H := by
  obtain ⟨a, ns, rfl, hS, q⟩ := h
  have sq : SqF (pm K cl none) H a (ns.map V.int) := hS.elim (fun z => .inl ⟨z, fun e => (nomatch e), fun e => (nomatch e)⟩) .inr
  have rs : Reps (pm K cl none) H [.fls (ns.map T.int)] [V.ref a] := ⟨_, _, rfl, ⟨a, _, rfl, sq, ints_reps ns⟩, rfl⟩
  refine ⟨_, [], .nx [some (.fls (ns.map T.int)), some (.lst [.lst ((cutL ns none (some 63)).map T.int), .int 0, .int 0]), none, none, none, none, none, none, none], [], rel_start (N := NL) rs, ⟨trivial, fun P hP => (nomatch hP), fun P hP => (nomatch hP)⟩, ?_, ?_⟩
  · rw [← cut_map]
    rfl
  · intro σ' H' e' r' o'
    obtain ⟨v, hv, b, us, rfl, hb, _, hr⟩ := r'.2 1 _ rfl
    refine ⟨b, ?_⟩
    have nb : ∀ {c : Addr} {ws : List V}, us.head? = some (.ref c) → H' c = some (.lst ws) → Reps (pm K cl none) H' ((cutL ns none (some 63)).map T.int) ws → c ≠ b := fun {c ws} hd hc hw z => by
      subst z
      rw [hb] at hc
      cases hc
      cases hn : cutL ns none (some 63) with
      | nil =>
        rw [hn] at hw
        have hw : us = [] := hw
        rw [hw] at hd
        cases hd
      | cons i r =>
        rw [hn] at hw
        obtain ⟨v, r', rfl, hv, _⟩ := hw
        have hv : v = .int i := hv
        rw [hv] at hd
        cases hd
    obtain ⟨v0, us1, rfl, ⟨c, ws, rfl, hc, _, hw⟩, hr1⟩ := hr
    obtain ⟨v1, us2, rfl, hv1, hr2⟩ := hr1
    obtain ⟨v2, us3, rfl, hv2, hr3⟩ := hr2
    have ne := nb rfl hc hw
    have dr : Reps (pm K cl (some b)) H' (Dr (cutL ns none (some 63)) 0) (.ref c :: v1 :: v2 :: us3) :=
      ⟨_, _, rfl, ⟨c, ws, rfl, hc, ⟨fun z => ne (Option.some.inj z).symm, fun z => (nomatch z)⟩, ints_any _ hw⟩, _, _, rfl, hv1, _, _, rfl, hv2, hr3⟩
    refine ⟨[none, some .ref, none, none, none, none, none, none, none], Dr (cutL ns none (some 63)) 0, .rt (.bl true), Dr (cutL ns none (some 63)) 1, ⟨r'.1, fun i t hi => ?_⟩, ⟨⟨_, hb, dr⟩, fun P hP => (nomatch hP), fun P hP => (nomatch hP)⟩, run_ok _, ?_⟩
    · match i, hi with
      | 1, hi =>
        cases hi
        exact ⟨.ref b, hv, b, rfl, rfl⟩
      | 0, hi => cases hi
      | 2, hi => cases hi
      | 3, hi => cases hi
      | 4, hi => cases hi
      | 5, hi => cases hi
      | 6, hi => cases hi
      | 7, hi => cases hi
      | 8, hi => cases hi
      | n + 9, hi => simp at hi
    · intro v H2 e2 r2 o2
      have r2 : v = .bl true := r2
      rw [r2]
      exact q H2
theorem ok_law (F : FunC K "law" sLaw f fd cA) (T : Cls K mg CF C0 C1 C2 C3 C4 C5 C6 C7 g0 g1 g2 g3 g4 g5 g6 g7) (mi : mg "isinstance" = none) (ma : mg "all" = none) (mx : mg "Exception" = none)
    (G : ∀ p : Pm, p.K = K → FnF P w K mg base 4 g gd ["draw", "things"] p (runF 2 2 uPick)) (mG : mg "_law_pick" = some (.ref g)) (kG : PySem.W.keepIn K (.ref g) = true) (bG : Binds K gd ["draw", "things"] []) :
    FnOk P w K mg base L2.CX0 5 f fd ["script"] (spLaw K) := by
  obtain ⟨oc, od, kV, doc, pm', an, ct, osl, rfl, lk, hcd⟩ := F.ex
  refine fn_of lk hcd scLaw (fun vs H Q E ⟨a, ns, e, _⟩ => by rw [e]; rfl) fun A outer s H vs Q E hr h => ⟨_, (body_ok T mi ma mx G mG kG bG A outer s H E hr).nox, pure_law (E := E) h⟩
end
end K22
set_option linter.all false
set_option maxRecDepth 100000
set_option maxHeartbeats 2000000
namespace K22
open PySem PySem.Spec PyProof.Rows L2 GxR GA EXO FL
theorem all_mk {P : Program} {w : World} {K : PySem.W.Frag} {h : Heap} {mg : Str → Option Value} {fa : Addr} (X : K.In h) (G : h.Ns mainGlobals mg) (hfa : mg "law" = some (.ref fa))
    {CF C0 g0 C1 g1 C2 g2 C3 g3 C4 g4 C5 g5 C6 g6 C7 g7 : Addr}
    {f0 h0 f1 h1 f2 h2 f3 h3 f4 h4 f5 h5 : Addr}
    {qn0 : Str} {oc0 dc0 pm0 cd0 ct0 : Value} {od0 an0 : Option Addr} {sl0 : Array (Option Value)} {q0_0 q0_1 q0_2 q0_3 q0_4 q0_5 : Pos}
    {qn1 : Str} {oc1 dc1 pm1 cd1 ct1 : Value} {od1 an1 : Option Addr} {sl1 : Array (Option Value)} {q1_0 q1_1 q1_2 q1_3 q1_4 q1_5 : Pos}
    {qn2 : Str} {oc2 dc2 pm2 cd2 ct2 : Value} {od2 an2 : Option Addr} {sl2 : Array (Option Value)} {q2_0 q2_1 q2_2 q2_3 q2_4 q2_5 : Pos}
    {qn3 : Str} {oc3 dc3 pm3 cd3 ct3 : Value} {od3 an3 : Option Addr} {sl3 : Array (Option Value)} {q3_0 q3_1 q3_2 q3_3 q3_4 q3_5 : Pos}
    {qn4 : Str} {oc4 dc4 pm4 cd4 ct4 : Value} {od4 an4 : Option Addr} {sl4 : Array (Option Value)} {q4_0 q4_1 q4_2 q4_3 q4_4 q4_5 : Pos}
    {qn5 : Str} {oc5 dc5 pm5 cd5 ct5 : Value} {od5 an5 : Option Addr} {sl5 : Array (Option Value)} {q5_0 q5_1 q5_2 q5_3 q5_4 q5_5 : Pos}
    {qn6 : Str} {oc6 dc6 pm6 cd6 ct6 : Value} {od6 an6 : Option Addr} {sl6 : Array (Option Value)} {q6_0 q6_1 q6_2 q6_3 q6_4 q6_5 : Pos}
    {qn7 : Str} {oc7 dc7 pm7 cd7 ct7 : Value} {od7 an7 : Option Addr} {sl7 : Array (Option Value)} {q7_0 q7_1 q7_2 q7_3 q7_4 q7_5 q7_6 q7_7 q7_8 q7_9 q7_10 : Pos}
    {eV0 eo0 ed0 ep0 et0 : Value} {en0 ea0 : Option Addr} {es0 : Array (Option Value)}
    {eV1 eo1 ed1 ep1 et1 : Value} {en1 ea1 : Option Addr} {es1 : Array (Option Value)}
    {eV2 eo2 ed2 ep2 et2 : Value} {en2 ea2 : Option Addr} {es2 : Array (Option Value)}
    {eV3 eo3 ed3 ep3 et3 : Value} {en3 ea3 : Option Addr} {es3 : Array (Option Value)}
    {eV4 eo4 ed4 ep4 et4 : Value} {en4 ea4 : Option Addr} {es4 : Array (Option Value)}
    {eV5 eo5 ed5 ep5 et5 : Value} {en5 ea5 : Option Addr} {es5 : Array (Option Value)}
    (aCF : PySem.W.nsIn K mainGlobals "FormatError" = some (some (.ref CF)))
    (aC0 : PySem.W.nsIn K mainGlobals "BadSort" = some (some (.ref C0)))
    (aC1 : PySem.W.nsIn K mainGlobals "BadFormat" = some (some (.ref C1)))
    (aC2 : PySem.W.nsIn K mainGlobals "BadThing" = some (some (.ref C2)))
    (aC3 : PySem.W.nsIn K mainGlobals "BadText" = some (some (.ref C3)))
    (aC4 : PySem.W.nsIn K mainGlobals "ManyValues" = some (some (.ref C4)))
    (aC5 : PySem.W.nsIn K mainGlobals "TooLarge" = some (some (.ref C5)))
    (aC6 : PySem.W.nsIn K mainGlobals "BadPair" = some (some (.ref C6)))
    (aC7 : PySem.W.nsIn K mainGlobals "BadSource" = some (some (.ref C7)))
    (hn : PySem.W.specialIn K (.builtin "object.__class__") "__get__" = some (some (.builtin "getset_descriptor.__get__")))
    (htk : PySem.W.takesIn K (.builtin "object.__class__") = some true)
    (ini0 : PySem.W.excInitIn K C0 chain "Exception.__new__" = true)
    (ovr0 : PySem.W.excOver K C0 chain = true)
    (sa0 : PySem.W.findIn K (.ref C0) "__setattr__" = some (some (.builtin "object.__setattr__")))
    (ga0 : PySem.W.findIn K (.ref C0) "__getattribute__" = some (some (.builtin "BaseException.__getattribute__")))
    (gg0 : PySem.W.findIn K (.ref C0) "__getattr__" = some none)
    (exC0 : PySem.W.subIn K (.ref C0) (.type "BaseException") = some true)
    (hd0 : PySem.W.hasDictIn K C0 = true)
    (kC0 : PySem.W.keepIn K (.ref C0) = true)
    (cl0 : PySem.W.isClsIn K C0 = true)
    (ha0 : PySem.W.findIn K (.ref C0) "__class__" = some (some (.builtin "object.__class__")))
    (mo0 : PySem.W.mroIn K C0 (.type "object") = some true)
    (iC0 : PySem.W.findIn K (.ref C0) "__init__" = some (some (.ref g0)))
    (tC0 : PySem.W.typeIn K (.ref g0) = some (.type "function"))
    (no0_0 : PySem.W.takerIn K C0 "thing" = some none)
    (nf0_0 : PySem.W.findIn K (.ref C0) "thing" = some none)
    (l0 : K.lookup g0 = some ⟨oc0, od0, .func (PySem.W.fnOf "__init__" qn0 (iA1 "thing" q0_0 q0_1) (iB1 "thing" q0_2 q0_3 q0_4 q0_5) (iS1 "thing") .none .none dc0 pm0 an0 cd0 ct0), sl0⟩)
    (c0 : PySem.W.codeIn K cd0 qn0 = true)
    (kF0 : PySem.W.kitOne K (.ref C0) (.ref CF) = some true)
    (kT0 : PySem.W.kitOne K (.ref C0) (.ref C3) = some false)
    (kE0 : PySem.W.kitOne K (.ref C0) (.type "Exception") = some true)
    (ini1 : PySem.W.excInitIn K C1 chain "Exception.__new__" = true)
    (ovr1 : PySem.W.excOver K C1 chain = true)
    (sa1 : PySem.W.findIn K (.ref C1) "__setattr__" = some (some (.builtin "object.__setattr__")))
    (ga1 : PySem.W.findIn K (.ref C1) "__getattribute__" = some (some (.builtin "BaseException.__getattribute__")))
    (gg1 : PySem.W.findIn K (.ref C1) "__getattr__" = some none)
    (exC1 : PySem.W.subIn K (.ref C1) (.type "BaseException") = some true)
    (hd1 : PySem.W.hasDictIn K C1 = true)
    (kC1 : PySem.W.keepIn K (.ref C1) = true)
    (cl1 : PySem.W.isClsIn K C1 = true)
    (ha1 : PySem.W.findIn K (.ref C1) "__class__" = some (some (.builtin "object.__class__")))
    (mo1 : PySem.W.mroIn K C1 (.type "object") = some true)
    (iC1 : PySem.W.findIn K (.ref C1) "__init__" = some (some (.ref g1)))
    (tC1 : PySem.W.typeIn K (.ref g1) = some (.type "function"))
    (no1_0 : PySem.W.takerIn K C1 "thing" = some none)
    (nf1_0 : PySem.W.findIn K (.ref C1) "thing" = some none)
    (l1 : K.lookup g1 = some ⟨oc1, od1, .func (PySem.W.fnOf "__init__" qn1 (iA1 "thing" q1_0 q1_1) (iB1 "thing" q1_2 q1_3 q1_4 q1_5) (iS1 "thing") .none .none dc1 pm1 an1 cd1 ct1), sl1⟩)
    (c1 : PySem.W.codeIn K cd1 qn1 = true)
    (kF1 : PySem.W.kitOne K (.ref C1) (.ref CF) = some true)
    (kT1 : PySem.W.kitOne K (.ref C1) (.ref C3) = some false)
    (kE1 : PySem.W.kitOne K (.ref C1) (.type "Exception") = some true)
    (ini2 : PySem.W.excInitIn K C2 chain "Exception.__new__" = true)
    (ovr2 : PySem.W.excOver K C2 chain = true)
    (sa2 : PySem.W.findIn K (.ref C2) "__setattr__" = some (some (.builtin "object.__setattr__")))
    (ga2 : PySem.W.findIn K (.ref C2) "__getattribute__" = some (some (.builtin "BaseException.__getattribute__")))
    (gg2 : PySem.W.findIn K (.ref C2) "__getattr__" = some none)
    (exC2 : PySem.W.subIn K (.ref C2) (.type "BaseException") = some true)
    (hd2 : PySem.W.hasDictIn K C2 = true)
    (kC2 : PySem.W.keepIn K (.ref C2) = true)
    (cl2 : PySem.W.isClsIn K C2 = true)
    (ha2 : PySem.W.findIn K (.ref C2) "__class__" = some (some (.builtin "object.__class__")))
    (mo2 : PySem.W.mroIn K C2 (.type "object") = some true)
    (iC2 : PySem.W.findIn K (.ref C2) "__init__" = some (some (.ref g2)))
    (tC2 : PySem.W.typeIn K (.ref g2) = some (.type "function"))
    (no2_0 : PySem.W.takerIn K C2 "thing" = some none)
    (nf2_0 : PySem.W.findIn K (.ref C2) "thing" = some none)
    (l2 : K.lookup g2 = some ⟨oc2, od2, .func (PySem.W.fnOf "__init__" qn2 (iA1 "thing" q2_0 q2_1) (iB1 "thing" q2_2 q2_3 q2_4 q2_5) (iS1 "thing") .none .none dc2 pm2 an2 cd2 ct2), sl2⟩)
    (c2 : PySem.W.codeIn K cd2 qn2 = true)
    (kF2 : PySem.W.kitOne K (.ref C2) (.ref CF) = some true)
    (kT2 : PySem.W.kitOne K (.ref C2) (.ref C3) = some false)
    (kE2 : PySem.W.kitOne K (.ref C2) (.type "Exception") = some true)
    (ini3 : PySem.W.excInitIn K C3 chain "Exception.__new__" = true)
    (ovr3 : PySem.W.excOver K C3 chain = true)
    (sa3 : PySem.W.findIn K (.ref C3) "__setattr__" = some (some (.builtin "object.__setattr__")))
    (ga3 : PySem.W.findIn K (.ref C3) "__getattribute__" = some (some (.builtin "BaseException.__getattribute__")))
    (gg3 : PySem.W.findIn K (.ref C3) "__getattr__" = some none)
    (exC3 : PySem.W.subIn K (.ref C3) (.type "BaseException") = some true)
    (hd3 : PySem.W.hasDictIn K C3 = true)
    (kC3 : PySem.W.keepIn K (.ref C3) = true)
    (cl3 : PySem.W.isClsIn K C3 = true)
    (ha3 : PySem.W.findIn K (.ref C3) "__class__" = some (some (.builtin "object.__class__")))
    (mo3 : PySem.W.mroIn K C3 (.type "object") = some true)
    (iC3 : PySem.W.findIn K (.ref C3) "__init__" = some (some (.ref g3)))
    (tC3 : PySem.W.typeIn K (.ref g3) = some (.type "function"))
    (no3_0 : PySem.W.takerIn K C3 "place" = some none)
    (nf3_0 : PySem.W.findIn K (.ref C3) "place" = some none)
    (l3 : K.lookup g3 = some ⟨oc3, od3, .func (PySem.W.fnOf "__init__" qn3 (iA1 "place" q3_0 q3_1) (iB1 "place" q3_2 q3_3 q3_4 q3_5) (iS1 "place") .none .none dc3 pm3 an3 cd3 ct3), sl3⟩)
    (c3 : PySem.W.codeIn K cd3 qn3 = true)
    (kF3 : PySem.W.kitOne K (.ref C3) (.ref CF) = some true)
    (kT3 : PySem.W.kitOne K (.ref C3) (.ref C3) = some true)
    (kE3 : PySem.W.kitOne K (.ref C3) (.type "Exception") = some true)
    (ini4 : PySem.W.excInitIn K C4 chain "Exception.__new__" = true)
    (ovr4 : PySem.W.excOver K C4 chain = true)
    (sa4 : PySem.W.findIn K (.ref C4) "__setattr__" = some (some (.builtin "object.__setattr__")))
    (ga4 : PySem.W.findIn K (.ref C4) "__getattribute__" = some (some (.builtin "BaseException.__getattribute__")))
    (gg4 : PySem.W.findIn K (.ref C4) "__getattr__" = some none)
    (exC4 : PySem.W.subIn K (.ref C4) (.type "BaseException") = some true)
    (hd4 : PySem.W.hasDictIn K C4 = true)
    (kC4 : PySem.W.keepIn K (.ref C4) = true)
    (cl4 : PySem.W.isClsIn K C4 = true)
    (ha4 : PySem.W.findIn K (.ref C4) "__class__" = some (some (.builtin "object.__class__")))
    (mo4 : PySem.W.mroIn K C4 (.type "object") = some true)
    (iC4 : PySem.W.findIn K (.ref C4) "__init__" = some (some (.ref g4)))
    (tC4 : PySem.W.typeIn K (.ref g4) = some (.type "function"))
    (no4_0 : PySem.W.takerIn K C4 "text" = some none)
    (nf4_0 : PySem.W.findIn K (.ref C4) "text" = some none)
    (l4 : K.lookup g4 = some ⟨oc4, od4, .func (PySem.W.fnOf "__init__" qn4 (iA1 "text" q4_0 q4_1) (iB1 "text" q4_2 q4_3 q4_4 q4_5) (iS1 "text") .none .none dc4 pm4 an4 cd4 ct4), sl4⟩)
    (c4 : PySem.W.codeIn K cd4 qn4 = true)
    (kF4 : PySem.W.kitOne K (.ref C4) (.ref CF) = some true)
    (kT4 : PySem.W.kitOne K (.ref C4) (.ref C3) = some false)
    (kE4 : PySem.W.kitOne K (.ref C4) (.type "Exception") = some true)
    (ini5 : PySem.W.excInitIn K C5 chain "Exception.__new__" = true)
    (ovr5 : PySem.W.excOver K C5 chain = true)
    (sa5 : PySem.W.findIn K (.ref C5) "__setattr__" = some (some (.builtin "object.__setattr__")))
    (ga5 : PySem.W.findIn K (.ref C5) "__getattribute__" = some (some (.builtin "BaseException.__getattribute__")))
    (gg5 : PySem.W.findIn K (.ref C5) "__getattr__" = some none)
    (exC5 : PySem.W.subIn K (.ref C5) (.type "BaseException") = some true)
    (hd5 : PySem.W.hasDictIn K C5 = true)
    (kC5 : PySem.W.keepIn K (.ref C5) = true)
    (cl5 : PySem.W.isClsIn K C5 = true)
    (ha5 : PySem.W.findIn K (.ref C5) "__class__" = some (some (.builtin "object.__class__")))
    (mo5 : PySem.W.mroIn K C5 (.type "object") = some true)
    (iC5 : PySem.W.findIn K (.ref C5) "__init__" = some (some (.ref g5)))
    (tC5 : PySem.W.typeIn K (.ref g5) = some (.type "function"))
    (no5_0 : PySem.W.takerIn K C5 "most" = some none)
    (nf5_0 : PySem.W.findIn K (.ref C5) "most" = some none)
    (l5 : K.lookup g5 = some ⟨oc5, od5, .func (PySem.W.fnOf "__init__" qn5 (iA1 "most" q5_0 q5_1) (iB1 "most" q5_2 q5_3 q5_4 q5_5) (iS1 "most") .none .none dc5 pm5 an5 cd5 ct5), sl5⟩)
    (c5 : PySem.W.codeIn K cd5 qn5 = true)
    (kF5 : PySem.W.kitOne K (.ref C5) (.ref CF) = some true)
    (kT5 : PySem.W.kitOne K (.ref C5) (.ref C3) = some false)
    (kE5 : PySem.W.kitOne K (.ref C5) (.type "Exception") = some true)
    (ini6 : PySem.W.excInitIn K C6 chain "Exception.__new__" = true)
    (ovr6 : PySem.W.excOver K C6 chain = true)
    (sa6 : PySem.W.findIn K (.ref C6) "__setattr__" = some (some (.builtin "object.__setattr__")))
    (ga6 : PySem.W.findIn K (.ref C6) "__getattribute__" = some (some (.builtin "BaseException.__getattribute__")))
    (gg6 : PySem.W.findIn K (.ref C6) "__getattr__" = some none)
    (exC6 : PySem.W.subIn K (.ref C6) (.type "BaseException") = some true)
    (hd6 : PySem.W.hasDictIn K C6 = true)
    (kC6 : PySem.W.keepIn K (.ref C6) = true)
    (cl6 : PySem.W.isClsIn K C6 = true)
    (ha6 : PySem.W.findIn K (.ref C6) "__class__" = some (some (.builtin "object.__class__")))
    (mo6 : PySem.W.mroIn K C6 (.type "object") = some true)
    (iC6 : PySem.W.findIn K (.ref C6) "__init__" = some (some (.ref g6)))
    (tC6 : PySem.W.typeIn K (.ref g6) = some (.type "function"))
    (no6_0 : PySem.W.takerIn K C6 "why" = some none)
    (nf6_0 : PySem.W.findIn K (.ref C6) "why" = some none)
    (l6 : K.lookup g6 = some ⟨oc6, od6, .func (PySem.W.fnOf "__init__" qn6 (iA1 "why" q6_0 q6_1) (iB1 "why" q6_2 q6_3 q6_4 q6_5) (iS1 "why") .none .none dc6 pm6 an6 cd6 ct6), sl6⟩)
    (c6 : PySem.W.codeIn K cd6 qn6 = true)
    (kF6 : PySem.W.kitOne K (.ref C6) (.ref CF) = some true)
    (kT6 : PySem.W.kitOne K (.ref C6) (.ref C3) = some false)
    (kE6 : PySem.W.kitOne K (.ref C6) (.type "Exception") = some true)
    (ini7 : PySem.W.excInitIn K C7 chain "Exception.__new__" = true)
    (ovr7 : PySem.W.excOver K C7 chain = true)
    (sa7 : PySem.W.findIn K (.ref C7) "__setattr__" = some (some (.builtin "object.__setattr__")))
    (ga7 : PySem.W.findIn K (.ref C7) "__getattribute__" = some (some (.builtin "BaseException.__getattribute__")))
    (gg7 : PySem.W.findIn K (.ref C7) "__getattr__" = some none)
    (exC7 : PySem.W.subIn K (.ref C7) (.type "BaseException") = some true)
    (hd7 : PySem.W.hasDictIn K C7 = true)
    (kC7 : PySem.W.keepIn K (.ref C7) = true)
    (cl7 : PySem.W.isClsIn K C7 = true)
    (ha7 : PySem.W.findIn K (.ref C7) "__class__" = some (some (.builtin "object.__class__")))
    (mo7 : PySem.W.mroIn K C7 (.type "object") = some true)
    (iC7 : PySem.W.findIn K (.ref C7) "__init__" = some (some (.ref g7)))
    (tC7 : PySem.W.typeIn K (.ref g7) = some (.type "function"))
    (no7_0 : PySem.W.takerIn K C7 "line" = some none)
    (nf7_0 : PySem.W.findIn K (.ref C7) "line" = some none)
    (no7_1 : PySem.W.takerIn K C7 "column" = some none)
    (nf7_1 : PySem.W.findIn K (.ref C7) "column" = some none)
    (l7 : K.lookup g7 = some ⟨oc7, od7, .func (PySem.W.fnOf "__init__" qn7 (iA2 "line" "column" q7_0 q7_1 q7_2) (iB2 "line" "column" q7_3 q7_4 q7_5 q7_6 q7_7 q7_8 q7_9 q7_10) (iS2 "line" "column") .none .none dc7 pm7 an7 cd7 ct7), sl7⟩)
    (c7 : PySem.W.codeIn K cd7 qn7 = true)
    (kF7 : PySem.W.kitOne K (.ref C7) (.ref CF) = some true)
    (kT7 : PySem.W.kitOne K (.ref C7) (.ref C3) = some false)
    (kE7 : PySem.W.kitOne K (.ref C7) (.type "Exception") = some true)
    (fa0 : PySem.W.nsIn K mainGlobals "_law_cell_at" = some (some (.ref f0)))
    (fl0 : K.lookup f0 = some ⟨eo0, en0, .func (PySem.W.fnOf "_law_cell_at" "_law_cell_at" (defArgs sCell) (defBody sCell) (defScope sCell) .none eV0 ed0 ep0 ea0 (.ref h0) et0), es0⟩)
    (fc0 : PySem.W.codeIn K (.ref h0) "_law_cell_at" = true)
    (fk0 : PySem.W.keepIn K (.ref f0) = true)
    (fa1 : PySem.W.nsIn K mainGlobals "_law_draw" = some (some (.ref f1)))
    (fl1 : K.lookup f1 = some ⟨eo1, en1, .func (PySem.W.fnOf "_law_draw" "_law_draw" (defArgs sDraw) (defBody sDraw) (defScope sDraw) .none eV1 ed1 ep1 ea1 (.ref h1) et1), es1⟩)
    (fc1 : PySem.W.codeIn K (.ref h1) "_law_draw" = true)
    (fk1 : PySem.W.keepIn K (.ref f1) = true)
    (fa2 : PySem.W.nsIn K mainGlobals "_law_number" = some (some (.ref f2)))
    (fl2 : K.lookup f2 = some ⟨eo2, en2, .func (PySem.W.fnOf "_law_number" "_law_number" (defArgs sNum) (defBody sNum) (defScope sNum) .none eV2 ed2 ep2 ea2 (.ref h2) et2), es2⟩)
    (fc2 : PySem.W.codeIn K (.ref h2) "_law_number" = true)
    (fk2 : PySem.W.keepIn K (.ref f2) = true)
    (fa3 : PySem.W.nsIn K mainGlobals "_law_next" = some (some (.ref f3)))
    (fl3 : K.lookup f3 = some ⟨eo3, en3, .func (PySem.W.fnOf "_law_next" "_law_next" (defArgs sNext) (defBody sNext) (defScope sNext) .none eV3 ed3 ep3 ea3 (.ref h3) et3), es3⟩)
    (fc3 : PySem.W.codeIn K (.ref h3) "_law_next" = true)
    (fk3 : PySem.W.keepIn K (.ref f3) = true)
    (fa4 : PySem.W.nsIn K mainGlobals "_law_pick" = some (some (.ref f4)))
    (fl4 : K.lookup f4 = some ⟨eo4, en4, .func (PySem.W.fnOf "_law_pick" "_law_pick" (defArgs sPick) (defBody sPick) (defScope sPick) .none eV4 ed4 ep4 ea4 (.ref h4) et4), es4⟩)
    (fc4 : PySem.W.codeIn K (.ref h4) "_law_pick" = true)
    (fk4 : PySem.W.keepIn K (.ref f4) = true)
    (fa5 : PySem.W.nsIn K mainGlobals "law" = some (some (.ref f5)))
    (fl5 : K.lookup f5 = some ⟨eo5, en5, .func (PySem.W.fnOf "law" "law" (defArgs sLaw) (defBody sLaw) (defScope sLaw) .none eV5 ed5 ep5 ea5 (.ref h5) et5), es5⟩)
    (fc5 : PySem.W.codeIn K (.ref h5) "law" = true)
    (fk5 : PySem.W.keepIn K (.ref f5) = true)
    (z0 : PySem.W.nsIn K mainGlobals "len" = some none)
    (z1 : PySem.W.nsIn K mainGlobals "int" = some none)
    (z2 : PySem.W.nsIn K mainGlobals "range" = some none)
    (z3 : PySem.W.nsIn K mainGlobals "isinstance" = some none)
    (z4 : PySem.W.nsIn K mainGlobals "all" = some none)
    (z5 : PySem.W.nsIn K mainGlobals "Exception" = some none) :
    ∃ fd : FuncData, (∀ (s : Shared) (v : Value), BindsTo s fd ⟨[v], []⟩ [("script", v)]) ∧ ∀ base : Heap, K.In base → base.Ns mainGlobals mg → FnOk P w K mg base L2.CX0 5 fa fd ["script"] (spLaw K) := by
  have e := hfa.symm.trans (PySem.W.mg_of X G fa5)
  cases e
  have e0 : ExC K C0 := ⟨ini0, ovr0, sa0, ga0, gg0, exC0, hd0, kC0, cl0, ha0, hn, htk, mo0⟩
  have e1 : ExC K C1 := ⟨ini1, ovr1, sa1, ga1, gg1, exC1, hd1, kC1, cl1, ha1, hn, htk, mo1⟩
  have e2 : ExC K C2 := ⟨ini2, ovr2, sa2, ga2, gg2, exC2, hd2, kC2, cl2, ha2, hn, htk, mo2⟩
  have e3 : ExC K C3 := ⟨ini3, ovr3, sa3, ga3, gg3, exC3, hd3, kC3, cl3, ha3, hn, htk, mo3⟩
  have e4 : ExC K C4 := ⟨ini4, ovr4, sa4, ga4, gg4, exC4, hd4, kC4, cl4, ha4, hn, htk, mo4⟩
  have e5 : ExC K C5 := ⟨ini5, ovr5, sa5, ga5, gg5, exC5, hd5, kC5, cl5, ha5, hn, htk, mo5⟩
  have e6 : ExC K C6 := ⟨ini6, ovr6, sa6, ga6, gg6, exC6, hd6, kC6, cl6, ha6, hn, htk, mo6⟩
  have e7 : ExC K C7 := ⟨ini7, ovr7, sa7, ga7, gg7, exC7, hd7, kC7, cl7, ha7, hn, htk, mo7⟩
  have T : Cls K mg CF C0 C1 C2 C3 C4 C5 C6 C7 g0 g1 g2 g3 g4 g5 g6 g7 :=
    ⟨PySem.W.mg_of X G aCF, ⟨PySem.W.mg_of X G aC0, e0, kF0, kT0, kE0⟩, ⟨PySem.W.mg_of X G aC1, e1, kF1, kT1, kE1⟩, ⟨PySem.W.mg_of X G aC2, e2, kF2, kT2, kE2⟩, ⟨PySem.W.mg_of X G aC3, e3, kF3, kT3, kE3⟩, ⟨PySem.W.mg_of X G aC4, e4, kF4, kT4, kE4⟩, ⟨PySem.W.mg_of X G aC5, e5, kF5, kT5, kE5⟩, ⟨PySem.W.mg_of X G aC6, e6, kF6, kT6, kE6⟩, ⟨PySem.W.mg_of X G aC7, e7, kF7, kT7, kE7⟩,
    ⟨iC0, tC0, no0_0, nf0_0, _, _, _, _, _, _, _, _, _, _, _, _, _, _, _, l0, c0⟩, ⟨iC1, tC1, no1_0, nf1_0, _, _, _, _, _, _, _, _, _, _, _, _, _, _, _, l1, c1⟩, ⟨iC2, tC2, no2_0, nf2_0, _, _, _, _, _, _, _, _, _, _, _, _, _, _, _, l2, c2⟩, ⟨iC3, tC3, no3_0, nf3_0, _, _, _, _, _, _, _, _, _, _, _, _, _, _, _, l3, c3⟩, ⟨iC4, tC4, no4_0, nf4_0, _, _, _, _, _, _, _, _, _, _, _, _, _, _, _, l4, c4⟩, ⟨iC5, tC5, no5_0, nf5_0, _, _, _, _, _, _, _, _, _, _, _, _, _, _, _, l5, c5⟩, ⟨iC6, tC6, no6_0, nf6_0, _, _, _, _, _, _, _, _, _, _, _, _, _, _, _, l6, c6⟩, ⟨iC7, tC7, no7_0, nf7_0, no7_1, nf7_1, _, _, _, _, _, _, _, _, _, _, _, _, _, _, _, _, _, _, _, _, l7, c7⟩⟩
  have F0 := fun_mk (st := sCell) fl0 fc0 fk0
  have E0 : FunC K "_law_cell_at" sCell f0 (PySem.W.fnOf "_law_cell_at" "_law_cell_at" (defArgs sCell) (defBody sCell) (defScope sCell) .none eV0 ed0 ep0 ea0 (.ref h0) et0) h0 := ⟨⟨_, _, _, _, _, _, _, _, rfl, fl0, fc0⟩, fk0⟩
  have b0 := F0.binds (ps := ["script", "k"]) fun _ _ _ _ _ _ us hl => match us, hl with | [_, _], _ => rfl
  have F1 := fun_mk (st := sDraw) fl1 fc1 fk1
  have E1 : FunC K "_law_draw" sDraw f1 (PySem.W.fnOf "_law_draw" "_law_draw" (defArgs sDraw) (defBody sDraw) (defScope sDraw) .none eV1 ed1 ep1 ea1 (.ref h1) et1) h1 := ⟨⟨_, _, _, _, _, _, _, _, rfl, fl1, fc1⟩, fk1⟩
  have b1 := F1.binds (ps := ["cell", "k", "bound"]) fun _ _ _ _ _ _ us hl => match us, hl with | [_, _, _], _ => rfl
  have F2 := fun_mk (st := sNum) fl2 fc2 fk2
  have E2 : FunC K "_law_number" sNum f2 (PySem.W.fnOf "_law_number" "_law_number" (defArgs sNum) (defBody sNum) (defScope sNum) .none eV2 ed2 ep2 ea2 (.ref h2) et2) h2 := ⟨⟨_, _, _, _, _, _, _, _, rfl, fl2, fc2⟩, fk2⟩
  have b2 := F2.binds (ps := ["cell", "k", "bound"]) fun _ _ _ _ _ _ us hl => match us, hl with | [_, _, _], _ => rfl
  have F3 := fun_mk (st := sNext) fl3 fc3 fk3
  have E3 : FunC K "_law_next" sNext f3 (PySem.W.fnOf "_law_next" "_law_next" (defArgs sNext) (defBody sNext) (defScope sNext) .none eV3 ed3 ep3 ea3 (.ref h3) et3) h3 := ⟨⟨_, _, _, _, _, _, _, _, rfl, fl3, fc3⟩, fk3⟩
  have b3 := F3.binds (ps := ["draw", "bound"]) fun _ _ _ _ _ _ us hl => match us, hl with | [_, _], _ => rfl
  have F4 := fun_mk (st := sPick) fl4 fc4 fk4
  have E4 : FunC K "_law_pick" sPick f4 (PySem.W.fnOf "_law_pick" "_law_pick" (defArgs sPick) (defBody sPick) (defScope sPick) .none eV4 ed4 ep4 ea4 (.ref h4) et4) h4 := ⟨⟨_, _, _, _, _, _, _, _, rfl, fl4, fc4⟩, fk4⟩
  have b4 := F4.binds (ps := ["draw", "things"]) fun _ _ _ _ _ _ us hl => match us, hl with | [_, _], _ => rfl
  have F5 := fun_mk (st := sLaw) fl5 fc5 fk5
  have E5 : FunC K "law" sLaw fa (PySem.W.fnOf "law" "law" (defArgs sLaw) (defBody sLaw) (defScope sLaw) .none eV5 ed5 ep5 ea5 (.ref h5) et5) h5 := ⟨⟨_, _, _, _, _, _, _, _, rfl, fl5, fc5⟩, fk5⟩
  have ml := PySem.W.mg_none_of X G z0
  have mi := PySem.W.mg_none_of X G z1
  have mr := PySem.W.mg_none_of X G z2
  have ms := PySem.W.mg_none_of X G z3
  have ma := PySem.W.mg_none_of X G z4
  have mx := PySem.W.mg_none_of X G z5
  refine ⟨_, fun s v => .of_eq rfl, fun base _ _ => ok_law E5 T ms ma mx (fun p hK => ?_) (PySem.W.mg_of X G fa4) fk4 b4⟩
  have k0 := ok_cell (P := P) (w := w) (base := base) hK E0 ml
  have k1 := ok_draw (P := P) (w := w) (base := base) hK E1 mi
  have k2 := ok_num (P := P) (w := w) (base := base) hK E2 mi mr k1 (PySem.W.mg_of X G fa1) fk1 b1
  have k3 := ok_next (P := P) (w := w) (base := base) hK E3 mi k0 (PySem.W.mg_of X G fa0) fk0 b0 k2 (PySem.W.mg_of X G fa2) fk2 b2
  exact ok_pick hK E4 ml k3 (PySem.W.mg_of X G fa3) fk3 b3
theorem walk {l : PySem.W.OpenLaw} {q : Program} {loose : List Str} {XP : (Str → Option Value) → Heap → Prop} {YP : World → Heap → Prop} {d : DefRec} {K : Params → PySem.W.Frag} (hn : l.most = some 63) (hdf : d.params.defaults = [])
    (hY : ∀ (w : World) (h : Heap), YP w h → (K w.params).In h)
    (F : ∀ (w : World) (mg : Str → Option Value) (fa : Addr) (h : Heap), (K w.params).In h → h.Ns mainGlobals mg → mg d.name = some (.ref fa) →
      ∃ fd : FuncData, (∀ (s : Shared) (u : Value), BindsTo s fd ⟨[u], []⟩ [("script", u)]) ∧ ∀ base : Heap, (K w.params).In base → base.Ns mainGlobals mg → FnOk l.prog w (K w.params) mg base L2.CX0 5 fa fd ["script"] (spLaw (K w.params))) :
    PySem.W.WalkO q loose XP YP l.row.toRowW d [] (fun f vs => PySem.call f vs) :=
  L2.walk_of (n := 63) (k := 5) (x := "script") (CX := fun _ => L2.CX0) (sp := fun w => spLaw (K w.params)) hn (by decide) hdf ⟨rfl, by decide, by decide⟩ hY F (fun _ _ a ns hl _ hS => ⟨a, ns, rfl, hS, fun _ => rfl⟩) fun _ _ _ _ _ z => z
end K22
open PySem PySem.W PyProof.Rows
set_option maxRecDepth 100000 in
set_option maxHeartbeats 0 in
theorem PySem.Challenge.cw_readagain_k22_errors_holds : PySem.Challenge.rw_readagain_k22_errors.Holds := by
  w_on; o_law; k_head; (case hw => w_witness2)
  k_fill
  refine K22.walk (l := PySem.Challenge.rw_readagain_k22_errors) rfl rfl (fun w h Y => PySem.W.kIn_of Y) ?F
  case F =>
    intro w mg fa h KX G hmg
    refine' K22.all_mk KX G hmg ?aCF ?aC0 ?aC1 ?aC2 ?aC3 ?aC4 ?aC5 ?aC6 ?aC7 ?hn ?htk ?ini0 ?ovr0 ?sa0 ?ga0 ?gg0 ?exC0 ?hd0 ?kC0 ?cl0 ?ha0 ?mo0 ?iC0 ?tC0 ?no0_0 ?nf0_0 ?l0 ?c0 ?kF0 ?kT0 ?kE0 ?ini1 ?ovr1 ?sa1 ?ga1 ?gg1 ?exC1 ?hd1 ?kC1 ?cl1 ?ha1 ?mo1 ?iC1 ?tC1 ?no1_0 ?nf1_0 ?l1 ?c1 ?kF1 ?kT1 ?kE1 ?ini2 ?ovr2 ?sa2 ?ga2 ?gg2 ?exC2 ?hd2 ?kC2 ?cl2 ?ha2 ?mo2 ?iC2 ?tC2 ?no2_0 ?nf2_0 ?l2 ?c2 ?kF2 ?kT2 ?kE2 ?ini3 ?ovr3 ?sa3 ?ga3 ?gg3 ?exC3 ?hd3 ?kC3 ?cl3 ?ha3 ?mo3 ?iC3 ?tC3 ?no3_0 ?nf3_0 ?l3 ?c3 ?kF3 ?kT3 ?kE3 ?ini4 ?ovr4 ?sa4 ?ga4 ?gg4 ?exC4 ?hd4 ?kC4 ?cl4 ?ha4 ?mo4 ?iC4 ?tC4 ?no4_0 ?nf4_0 ?l4 ?c4 ?kF4 ?kT4 ?kE4 ?ini5 ?ovr5 ?sa5 ?ga5 ?gg5 ?exC5 ?hd5 ?kC5 ?cl5 ?ha5 ?mo5 ?iC5 ?tC5 ?no5_0 ?nf5_0 ?l5 ?c5 ?kF5 ?kT5 ?kE5 ?ini6 ?ovr6 ?sa6 ?ga6 ?gg6 ?exC6 ?hd6 ?kC6 ?cl6 ?ha6 ?mo6 ?iC6 ?tC6 ?no6_0 ?nf6_0 ?l6 ?c6 ?kF6 ?kT6 ?kE6 ?ini7 ?ovr7 ?sa7 ?ga7 ?gg7 ?exC7 ?hd7 ?kC7 ?cl7 ?ha7 ?mo7 ?iC7 ?tC7 ?no7_0 ?nf7_0 ?no7_1 ?nf7_1 ?l7 ?c7 ?kF7 ?kT7 ?kE7 ?fa0 ?fl0 ?fc0 ?fk0 ?fa1 ?fl1 ?fc1 ?fk1 ?fa2 ?fl2 ?fc2 ?fk2 ?fa3 ?fl3 ?fc3 ?fk3 ?fa4 ?fl4 ?fc4 ?fk4 ?fa5 ?fl5 ?fc5 ?fk5 ?z0 ?z1 ?z2 ?z3 ?z4 ?z5
    (case aCF => k_is)
    (case aC0 => k_is)
    (case aC1 => k_is)
    (case aC2 => k_is)
    (case aC3 => k_is)
    (case aC4 => k_is)
    (case aC5 => k_is)
    (case aC6 => k_is)
    (case aC7 => k_is)
    (case hn => k_is)
    (case htk => k_is)
    (case ini0 => kx_is)
    (case ovr0 => kx_is)
    (case sa0 => k_is)
    (case ga0 => k_is)
    (case gg0 => k_is)
    (case exC0 => k_is)
    (case hd0 => k_is)
    (case kC0 => k_is)
    (case cl0 => k_is)
    (case ha0 => k_is)
    (case mo0 => k_is)
    (case iC0 => k_is)
    (case tC0 => k_is)
    (case no0_0 => k_is)
    (case nf0_0 => k_is)
    (case l0 => k_is)
    (case c0 => k_is)
    (case kF0 => kit_is)
    (case kT0 => kit_is)
    (case kE0 => kit_is)
    (case ini1 => kx_is)
    (case ovr1 => kx_is)
    (case sa1 => k_is)
    (case ga1 => k_is)
    (case gg1 => k_is)
    (case exC1 => k_is)
    (case hd1 => k_is)
    (case kC1 => k_is)
    (case cl1 => k_is)
    (case ha1 => k_is)
    (case mo1 => k_is)
    (case iC1 => k_is)
    (case tC1 => k_is)
    (case no1_0 => k_is)
    (case nf1_0 => k_is)
    (case l1 => k_is)
    (case c1 => k_is)
    (case kF1 => kit_is)
    (case kT1 => kit_is)
    (case kE1 => kit_is)
    (case ini2 => kx_is)
    (case ovr2 => kx_is)
    (case sa2 => k_is)
    (case ga2 => k_is)
    (case gg2 => k_is)
    (case exC2 => k_is)
    (case hd2 => k_is)
    (case kC2 => k_is)
    (case cl2 => k_is)
    (case ha2 => k_is)
    (case mo2 => k_is)
    (case iC2 => k_is)
    (case tC2 => k_is)
    (case no2_0 => k_is)
    (case nf2_0 => k_is)
    (case l2 => k_is)
    (case c2 => k_is)
    (case kF2 => kit_is)
    (case kT2 => kit_is)
    (case kE2 => kit_is)
    (case ini3 => kx_is)
    (case ovr3 => kx_is)
    (case sa3 => k_is)
    (case ga3 => k_is)
    (case gg3 => k_is)
    (case exC3 => k_is)
    (case hd3 => k_is)
    (case kC3 => k_is)
    (case cl3 => k_is)
    (case ha3 => k_is)
    (case mo3 => k_is)
    (case iC3 => k_is)
    (case tC3 => k_is)
    (case no3_0 => k_is)
    (case nf3_0 => k_is)
    (case l3 => k_is)
    (case c3 => k_is)
    (case kF3 => kit_is)
    (case kT3 => kit_is)
    (case kE3 => kit_is)
    (case ini4 => kx_is)
    (case ovr4 => kx_is)
    (case sa4 => k_is)
    (case ga4 => k_is)
    (case gg4 => k_is)
    (case exC4 => k_is)
    (case hd4 => k_is)
    (case kC4 => k_is)
    (case cl4 => k_is)
    (case ha4 => k_is)
    (case mo4 => k_is)
    (case iC4 => k_is)
    (case tC4 => k_is)
    (case no4_0 => k_is)
    (case nf4_0 => k_is)
    (case l4 => k_is)
    (case c4 => k_is)
    (case kF4 => kit_is)
    (case kT4 => kit_is)
    (case kE4 => kit_is)
    (case ini5 => kx_is)
    (case ovr5 => kx_is)
    (case sa5 => k_is)
    (case ga5 => k_is)
    (case gg5 => k_is)
    (case exC5 => k_is)
    (case hd5 => k_is)
    (case kC5 => k_is)
    (case cl5 => k_is)
    (case ha5 => k_is)
    (case mo5 => k_is)
    (case iC5 => k_is)
    (case tC5 => k_is)
    (case no5_0 => k_is)
    (case nf5_0 => k_is)
    (case l5 => k_is)
    (case c5 => k_is)
    (case kF5 => kit_is)
    (case kT5 => kit_is)
    (case kE5 => kit_is)
    (case ini6 => kx_is)
    (case ovr6 => kx_is)
    (case sa6 => k_is)
    (case ga6 => k_is)
    (case gg6 => k_is)
    (case exC6 => k_is)
    (case hd6 => k_is)
    (case kC6 => k_is)
    (case cl6 => k_is)
    (case ha6 => k_is)
    (case mo6 => k_is)
    (case iC6 => k_is)
    (case tC6 => k_is)
    (case no6_0 => k_is)
    (case nf6_0 => k_is)
    (case l6 => k_is)
    (case c6 => k_is)
    (case kF6 => kit_is)
    (case kT6 => kit_is)
    (case kE6 => kit_is)
    (case ini7 => kx_is)
    (case ovr7 => kx_is)
    (case sa7 => k_is)
    (case ga7 => k_is)
    (case gg7 => k_is)
    (case exC7 => k_is)
    (case hd7 => k_is)
    (case kC7 => k_is)
    (case cl7 => k_is)
    (case ha7 => k_is)
    (case mo7 => k_is)
    (case iC7 => k_is)
    (case tC7 => k_is)
    (case no7_0 => k_is)
    (case nf7_0 => k_is)
    (case no7_1 => k_is)
    (case nf7_1 => k_is)
    (case l7 => k_is)
    (case c7 => k_is)
    (case kF7 => kit_is)
    (case kT7 => kit_is)
    (case kE7 => kit_is)
    (case fa0 => k_is)
    (case fl0 => k_is)
    (case fc0 => k_is)
    (case fk0 => k_is)
    (case fa1 => k_is)
    (case fl1 => k_is)
    (case fc1 => k_is)
    (case fk1 => k_is)
    (case fa2 => k_is)
    (case fl2 => k_is)
    (case fc2 => k_is)
    (case fk2 => k_is)
    (case fa3 => k_is)
    (case fl3 => k_is)
    (case fc3 => k_is)
    (case fk3 => k_is)
    (case fa4 => k_is)
    (case fl4 => k_is)
    (case fc4 => k_is)
    (case fk4 => k_is)
    (case fa5 => k_is)
    (case fl5 => k_is)
    (case fc5 => k_is)
    (case fk5 => k_is)
    (case z0 => k_is)
    (case z1 => k_is)
    (case z2 => k_is)
    (case z3 => k_is)
    (case z4 => k_is)
    (case z5 => k_is)
