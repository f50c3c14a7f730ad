import PyProof.Rows.All
import Wide.All
import OpenK.AllK
import Wide.FinOn
import HandS.GenList
import HandS.AnyAll
import HandS.Comp
import HandS.ForMost
import PyProof.ConsumeS
import HandS.ForExc
import HandS.IsInst
import HandS.ExcInit
import HandS.ExcValue
import KE.KExcInit
import KE.KExcIs
import KE.KIsAll
import HandS.TupAny
import HandS.TupMul
import HandS.CallLocal
import HandS.EndTab
import HandS.Wide
import HandS.Conv
import PyProof.StrBlock2
import HandS.Text
import HandS.DeepEq
import PyProof.SumWalkG
import PyProof.ListOps
import PyProof.EnumMake
import PyProof.Draws
import PyProof.TupleIter
import HandS.More
import PyProof.ListStr
import HandS.HotCalls
import HandS.ExcCtx
import HandS.Words
import PySem.Challenge.RW_readagain_k01_taken_sorts
import KE.KExcLine
import KE.RegKIsAll
set_option Elab.async false
set_option linter.all false
set_option maxRecDepth 100000
set_option maxHeartbeats 2000000
namespace GA
open PySem PySem.Spec PyProof.Rows L2 GenW

/-- a generator expression's block running: A' its around, s, H where it was made, fp its iterator's objects -/
abbrev gx (X : Cx) (A' : Around) (s : Shared) (H : Hp) (scope : Scope) (cenv : Env) (fp : List Addr) (pn : List (Addr × Obj)) : Cx :=
  { X with A := A', s_0 := s, H_0 := H, env := cenv, outer := X.stack, stack := cenv :: X.stack, ex := fp, fn := fun x => scope.names.lookup x == some .cell, pn := pn, xe := fun _ _ => False }
section
variable {X : Cx} {pins : List (Addr × Obj)} {σ : L2.St} {H : Hp} {s : Shared}
theorem gx_start {scope : Scope} {own : List (Str × Nat)} {fp : List Addr} {code : Value} {A' : Around} {pn : List (Addr × Obj)} {s1 : Shared} {m0 : Str → Option Value} {cenv : Env}
    (hce : genEnv scope (cloFrom X.env.cells scope.names []) s.heap.objs.size code builtinsNs X.env = cenv)
    (I : Inv X pins σ H s) (ok : BlkOk X.N X.env.scope scope own) (hcell : ∀ y ∈ scope.names, y.2 ≠ .cell) (hN : X.N.Nodup) (hfp : ∀ b ∈ fp, FpOk X pins H b ∧ b < s.heap.objs.size)
    (hA : A'.frames = some (cenv :: X.stack)) (hh : A'.handled = none) (hos : s1.os = s.os) (hb : AllBare s1.gens) (hk : ∀ b o, s.heap.get? b = some o → s1.heap.get? b = some o) (hn : s1.heap.Ns s.heap.objs.size m0)
    (hpn : ∀ p ∈ pn, s1.heap.get? p.1 = some p.2 ∧ s.heap.objs.size < p.1 ∧ ∀ v, p.2.data ≠ .cell v) :
    Inv (gx X A' s H scope cenv fp pn) [] (wipe σ (own.map (·.2))) H s1 := by
  have hfree : ∀ y ∈ scope.names, y.2 = .free → ∃ c, X.env.cells.lookup y.1 = some c := fun y hy e => by
    rcases ok.free y hy e with k | k
    · exact I.ok.has _ (.inl k)
    · exact I.ok.has _ (.inr k)
  have hL : cenv.locals = s.heap.objs.size := by rw [← hce]; rfl
  have hcl : cenv.cells = cloFrom X.env.cells scope.names [] := by rw [← hce]; rfl
  have hsc : cenv.scope = scope := by rw [← hce]; rfl
  have mem : ∀ {y c}, cenv.cells.lookup y = some c → X.env.cells.lookup y = some c ∧ c < s.heap.objs.size := fun {y c} e => by
    rw [hcl] at e
    have hm := PySem.mem_of_lookup e
    rcases cloFrom_mem hm with hm | ⟨h1, rfl⟩
    · cases hm
    · obtain ⟨c, hc⟩ := hfree _ h1 rfl
      rw [hc]
      obtain ⟨w, z⟩ := I.cell _ _ hc
      exact ⟨rfl, z.lt⟩
  have look : ∀ {y}, scope.names.lookup y = some .free → ∃ c, cenv.cells.lookup y = some c ∧ X.env.cells.lookup y = some c := fun {y} hl => by
    have hy : (y, NameKind.free) ∈ scope.names := PySem.mem_of_lookup hl
    obtain ⟨c', e'⟩ := mem_lookup (cloFrom_has (cells := X.env.cells) (acc := []) hy)
    rw [← hcl] at e'
    exact ⟨c', e', (mem e').1⟩
  have nocell : ∀ {y}, scope.names.lookup y ≠ some .cell := fun {y} e => hcell _ (PySem.mem_of_lookup e) rfl
  have okB : (gx X A' s H scope cenv fp pn).Ok := by
    refine ⟨I.ok.mod, by show cenv.scope.kind = _; rw [hsc]; exact ok.kind, by show cenv.globals = _; rw [← hce]; exact I.ok.glob, by show cenv.builtins = _; rw [← hce]; rfl, by show s.heap.objs.size ≤ cenv.locals; rw [hL]; exact Nat.le_refl _,
      fun y z c e1 e2 => I.ok.inj y z c (mem e1).1 (mem e2).1, fun y hy => ?_, fun y c z e => ?_, fun _ => hh, hA, .inr ⟨rfl, by rw [← hce]; rfl⟩, fun b hb => ⟨?_, fun y c e z => ?_⟩, I.bs, Nat.le_trans I.ok.bsz I.sz, fun b o e hb => ?_, fun b hb z => ?_, I.stack, I.stkFree⟩
    · have hy : cenv.scope.names.lookup y = some .cell ∨ cenv.scope.names.lookup y = some .free := hy
      rw [hsc] at hy
      rcases hy with hy | hy
      · exact absurd hy nocell
      · obtain ⟨c, h1, _⟩ := look hy
        exact ⟨c, h1⟩
    · have z : (scope.names.lookup y == some NameKind.cell) = true := z
      have z : scope.names.lookup y = some .cell := by simpa using z
      exact absurd z nocell
    · show b ≠ cenv.locals
      rw [hL]; exact Nat.ne_of_lt (hfp b hb).2
    · exact (hfp b hb).1.2.2.2.2.1 y c (mem e).1 z
    · rcases (hfp b hb).1.2.2.2.1 with z | z
      · exact I.ok.noex b o e z
      · exact absurd (Nat.lt_of_lt_of_le (Heap.lt_size e) (Nat.le_trans I.ok.bsz z)) (Nat.lt_irrefl _)
    · rcases List.mem_cons.mp (I.stkSub b z) with z | z
      · exact (hfp b hb).1.2.1 z
      · exact (hfp b hb).1.2.2.1 z
  refine ⟨okB, hos, hb, Un.kept hk, ⟨m0, ?_, fun i y av e1 e2 e3 => ?_⟩, fun y c e => ?_, ?_, fun y c e => ?_, fun p hp => ?_, I.hok.kept hk, by rw [wipe_length]; exact I.len⟩
  · show Heap.Ns _ cenv.locals _
    rw [hL]
    exact hn
  · obtain ⟨e2, hne⟩ := wipe_some e2
    have e3 : Vis cenv.scope y := e3
    rw [hsc] at e3
    have no : ∀ k, scope.names.lookup y = some k → (k = .local ∨ k = .cell) → False := fun k hk hh => by
      rcases ok.own _ (PySem.mem_of_lookup hk) hh with e' | e'
      · obtain ⟨p, hp, hpy⟩ := List.mem_map.mp e'
        have e3 := ok.ix p hp
        have : p.1 = y := hpy
        rw [this] at e3
        exact hne (List.mem_map.mpr ⟨p, hp, nodup_ix hN e3 e1⟩)
      · exact e' (List.mem_of_getElem? e1)
    have hfr : scope.names.lookup y = some .free := by
      rcases e3 with e3 | e3 | e3
      · exact (no _ e3 (.inl rfl)).elim
      · exact (no _ e3 (.inr rfl)).elim
      · exact e3
    obtain ⟨m, hn', hl⟩ := I.loc
    have hvis : Vis X.env.scope y := (ok.free _ (PySem.mem_of_lookup hfr) rfl).elim (fun k => .inr (.inl k)) (fun k => .inr (.inr k))
    obtain ⟨w, r, q⟩ := hl i y av e1 e2 hvis
    refine ⟨w, r, .inr ⟨.inr (by show cenv.scope.names.lookup y = _; rw [hsc]; exact hfr), ?_⟩⟩
    obtain ⟨c, h1, h2⟩ := look hfr
    rcases q with ⟨k, _⟩ | ⟨_, c', e', z⟩
    · have k : X.env.scope.names.lookup y = some .local := k
      rcases ok.free _ (PySem.mem_of_lookup hfr) rfl with k' | k' <;> rw [show X.env.scope.names.lookup y = _ from k'] at k <;> cases k
    · rw [h2] at e'; cases e'
      exact ⟨c, h1, z.keeps hk⟩
  · obtain ⟨w, z⟩ := I.cell y c (mem e).1
    exact ⟨w, z.keeps hk⟩
  · show H cenv.locals = none
    rw [hL]; exact I.hok.fresh (Nat.le_refl _)
  · exact I.freeC y c (mem e).1
  · have hp : p ∈ pn := by simpa using hp
    obtain ⟨p1, p2, p3⟩ := hpn p hp
    refine ⟨p1, I.hok.fresh (Nat.le_of_lt p2), ?_, fun hb => (List.mem_cons.mp (I.stkSub _ hb)).elim (fun z => absurd (Nat.lt_trans p2 (by rw [z]; exact I.lt)) (Nat.lt_irrefl _)) (I.nofs (Nat.le_of_lt p2)), p3⟩
    show p.1 ≠ cenv.locals
    rw [hL]; exact Nat.ne_of_gt p2
end
end GA
set_option linter.all false
set_option maxRecDepth 100000
set_option maxHeartbeats 2000000
namespace GA
open PySem PySem.Spec PyProof.Rows L2 GenW

structure Dozed (s s' : Shared) : Prop where
  os : s'.os = s.os
  bare : AllBare s'.gens
  keep : ∀ b o, s.heap.get? b = some o → s'.heap.get? b = some o

theorem Inv.dozed {X : Cx} {pins : List (Addr × Obj)} {σ : L2.St} {H : Hp} {s s' : Shared} (I : Inv X pins σ H s) (d : Dozed s s') : Inv X pins σ H s' :=
  I.call' (ch := []) d.os (Un.kept d.keep) (I.hok.kept d.keep) d.bare fun b z => by simp at z

/-- what the walk of a generator expression for all asks -/
def AllW (J : It) (g : TG) (te : TE) (σw : L2.St) (vs : List Nat) (n₀ : Nat) (QT QF : Hp → Prop) (W : Nat → Hp → Prop) : Prop :=
  ∀ i H, W i H → (i = n₀ ∧ J.stop i H ∧ QT H) ∨ (i < n₀ ∧ J.go i H ∧ ∀ x H', J.yld i H x H' → g x σw H' fun σ2 H2 => wipe σ2 vs = σw ∧ te σ2 H2 fun y H3 => ∃ c, y = .bl c ∧ (c = false → QF H3) ∧ (c = true → W (i + 1) H3))

def YA (G : Cx) (QF : Hp → Prop) : Protocol := fun n s₀ v s1 kap =>
  ∃ (σ' : L2.St) (H' : Hp) (c : Bool) (pins : List (Addr × Obj)), v = .bool c ∧ Inv G pins σ' H' s1 ∧ (c = false → QF H') ∧ (c = true → ∀ s', Dozed s1 s' → kap (.send .none) s')
def FA (G : Cx) (QT : Hp → Prop) (n : Nat) (s₀ s1 : Shared) : Prop := ∃ (σ' : L2.St) (H' : Hp), Inv G [] σ' H' s1 ∧ QT H'
def RA (G : Cx) (QT : Hp → Prop) : GenEnd := fun n s₀ r s1 => ((r = .ok (.ret .none) ∨ r = .ok .next) ∧ FA G QT n s₀ s1) ∨ ∃ e, r = .error e ∧ (fun _ _ => False : Value → Shared → Prop) e s1

section
variable {X : Cx} {σ : L2.St} {s4 : Shared} {H4 : Hp} {scope : Scope} {cenv : Env} {fp : List Addr} {pn : List (Addr × Obj)} {A : Around} {elt tg iter : Expr} {pos : Pos} {it : Addr} {J : It} {tn : Nat → Heap → Prop} {g : TG} {te : TE} {vs : List Nat} {n₀ : Nat} {QT QF : Hp → Prop} {W : Nat → Hp → Prop}

theorem seg_loop (G : Cx) (hG : gx X (A.over (.compLoop (.GeneratorExp elt [⟨tg, iter, [], 0⟩] scope pos) 0 (.ref it) .none cenv) []) s4 H4 scope cenv fp pn = G)
    (hc : X.calm = true) (hco : cenv.scope.isCoroutine = false) (T : Turn X.prog X.w X.K tg J fp it tn) (pg : PG G tg g) (pe : PE G elt te)
    (hpn : ∀ p ∈ pn, ∀ b ∈ fp, p.1 ≠ b) (hw : (wipe σ vs).length = σ.length)
    (hW : AllW J g te (wipe σ vs) vs n₀ QT QF W) :
    ∀ (k i : Nat) (s₀ s : Shared) (H : Hp), n₀ - i = k → W i H → Inv G [] (wipe σ vs) H s → tn i s.heap → (∀ b ∈ fp, H b = none) →
      Seg (model X.prog X.w) A (RA G QT) (YA G QF) k s₀ (.compLoop (.GeneratorExp elt [⟨tg, iter, [], 0⟩] scope pos) 0 (.ref it) .none cenv)
        ((model X.prog X.w).den (.compLoop (.GeneratorExp elt [⟨tg, iter, [], 0⟩] scope pos) 0 (.ref it) .none cenv)) [] s := by
  have hAg : A.over (.compLoop (.GeneratorExp elt [⟨tg, iter, [], 0⟩] scope pos) 0 (.ref it) .none cenv) [] = G.A := by rw [← hG]
  have hGe : G.env = cenv := by rw [← hG]
  have hGp : G.prog = X.prog := by rw [← hG]
  have hGw : G.w = X.w := by rw [← hG]
  have hGK : G.K = X.K := by rw [← hG]
  have hGc : G.calm = true := by rw [← hG]; exact hc
  have hGx : G.xe = fun _ _ => False := by rw [← hG]
  have hGex : G.ex = fp := by rw [← hG]
  have hGpn : G.pn = pn := by rw [← hG]
  have stat : ∀ {σ' : L2.St} {H' : Hp} {s' : Shared}, Inv G [] σ' H' s' → (∀ b ∈ fp, H' b = none) → ∀ b ∈ fp, FpOk G [] H' b := fun {σ' H' s'} I' hn b hb => by
    have hb' : b ∈ G.ex := by rw [hGex]; exact hb
    refine ⟨hn b hb, (I'.ok.exf b hb').1, I'.ok.exfs b hb', .inl hb', fun x c e => (I'.ok.exf b hb').2 x c e, fun p hp => hpn p ?_ b hb⟩
    rw [hGpn] at hp
    simpa using hp
  intro k
  induction k with
  | zero =>
    intro i s₀ s H hk hw0 I st nf
    rcases hW i H hw0 with ⟨hi, hstop, hq⟩ | ⟨hi, _⟩
    · show Seg _ A _ _ _ s₀ _ ((compTurn (.GeneratorExp elt [⟨tg, iter, [], 0⟩] scope pos) 0 (.ref it) .none cenv).onRaise (leaving cenv)) [] s
      rw [compTurn_gen, Sem.onRaise_eq_wrap]
      refine seg_bind_wrap (wpAny_standAt ?_)
      have td := T.done G hGp hGw hGK hGc i [] s _ H (fun _ _ => False) I (stat I nf) st hstop
      refine seg_bind_wrap ?_
      rw [hAg]
      refine wpAny_mono td (fun r s6 ⟨hr, I6⟩ => ?_) fun _ _ z => z.elim
      subst hr
      exact seg_end (.ok .next) (.inl ⟨.inr rfl, _, H, I6, hq⟩)
    · omega
  | succ k ih =>
    intro i s₀ s H hk hw0 I st nf
    rcases hW i H hw0 with ⟨hi, hstop, hq⟩ | ⟨hi, hgo, step⟩
    · omega
    · show Seg _ A _ _ _ s₀ _ ((compTurn (.GeneratorExp elt [⟨tg, iter, [], 0⟩] scope pos) 0 (.ref it) .none cenv).onRaise (leaving cenv)) [] s
      rw [compTurn_gen, Sem.onRaise_eq_wrap]
      refine seg_bind_wrap (wpAny_standAt ?_)
      have ti := T.item G hGp hGw hGK hGc i [] s _ H (fun _ _ => False) I (stat I nf) st hgo
      refine seg_bind_wrap ?_
      rw [hAg]
      refine wpAny_mono ti (fun r s6 ⟨u, hr, h6⟩ => ?_) fun _ _ z => z.elim
      subst hr
      refine seg_bind_wrap ?_
      rw [hAg]
      refine wpAny_mono h6 (fun _ s7 ⟨x, H7, I7, r7, y7, st7, n7⟩ => ?_) fun _ _ z => z.elim
      have I7' := I7.pinned (stat I7 n7) (T.obj _ _ st7)
      refine seg_bind_wrap ?_
      rw [hAg]
      have pgr := pg.run _ s7 _ H7 x u _ I7' r7 (step x H7 y7)
      rw [hGe, hGp, hGw, hGx] at pgr
      refine wpAny_mono pgr (fun _ s8 ⟨σ8, H8, I8, hw8, q8⟩ => ?_) fun _ _ z => z.elim
      simp only [List.forIn_nil]
      refine seg_bind_wrap (wpAny_pure ?_)
      simp only [if_true]
      have hy : ∀ v, yieldOut cenv v = yieldValue v := fun v => by simp only [yieldOut, hco, Bool.false_eq_true, if_false]
      simp only [hy]
      rw [Sem.bind_eq_wrap', Sem.bind_eq_wrap', Sem.wrap_wrap, Sem.wrap_wrap]
      refine seg_wrap ?_
      rw [hAg]
      have per := pe.run _ s8 σ8 H8 _ I8 q8
      rw [hGe, hGp, hGw, hGx] at per
      refine wpAny_mono per (fun v s9 ⟨y, H9, I9, r9, c, hyc, q0, q1⟩ => ?_) fun _ _ z => z.elim
      subst hyc
      have ev : v = Value.bool c := r9
      subst ev
      refine seg_at (seg_yield rfl rfl rfl ⟨σ8, H9, c, _, rfl, I9, q0, fun hct s' dz => ?_⟩)
      have I10 := Inv.dozed I9 dz
      have pin' : ∀ b ∈ fp, ∀ o, s7.heap.get? b = some o → s'.heap.get? b = some o ∧ H9 b = none := fun b hb o e =>
        let z := I10.pin (b, o) (List.mem_append_right _ (List.mem_append_right _ (mem_pinsAt hb e)))
        ⟨z.1, z.2.1⟩
      have hl : (wipe σ vs).length = σ8.length := by rw [← hw8, wipe_length]
      refine seg_again rfl (ih (i + 1) s' s' H9 (by omega) (q1 hct) ((I10.unpinned (pins := [])).weak hl fun j v e => ?_) (T.keep _ _ _ st7 fun b hb o e => (pin' b hb o e).1) fun b hb => ?_)
      · rw [← hw8] at e
        exact (wipe_some e).1
      · obtain ⟨o, e, _⟩ := T.obj _ _ st7 b hb
        exact (pin' b hb o e).2
end
end GA
set_option linter.all false
set_option maxRecDepth 100000
set_option maxHeartbeats 2000000
namespace GA
open PySem PySem.Spec PyProof.Rows L2 GenW

theorem all_loop {P : Program} {w : World} {G : Cx} {QT QF : Hp → Prop} {A : Around} {R : Result → Shared → Prop} {a : Addr} {g : Nat}
    (hh : A.handled = none) (hd : A.depth < recursionLimit)
    (hT : ∀ s' s1 σ' H', Inv G [] σ' H' s1 → QT H' → Dozed s1 s' → R (.ok (.ret (.bool true))) s')
    (hF : ∀ s' s1 pins σ' H', Inv G pins σ' H' s1 → QF H' → Dozed s1 s' → R (.ok (.ret (.bool false))) s')
    (hG : ∀ s1 pins σ' H', Inv G pins σ' H' s1 → s1.heap.IsGen a g) :
    ∀ (m : Nat) (s : Shared), s.heap.IsGen a g → s.heap.NoLimit →
      (∃ gs, s.gens[g]? = some gs ∧ gs.Goes (model P w) A.in1.in1 (RA G QT) (YA G QF) m (.send .none) (s.setGen g .running)) →
      codeAny (model P w) A (.builtin "all.loop" ⟨[.ref a], []⟩) R s := by
  intro m
  induction m with
  | zero =>
    intro s hg hl ⟨gs, hgs, hgo⟩
    refine codeAny_builtin F.entry_all_loop ?_
    rw [Around.under_plainId F.plain_all_loop _]
    show wpAny _ A.in1 (pyNext (.ref a) >>= _) _ _ s
    refine wpAny_bind (next_genG (A := A.in1) (F := FA G QT) (Er := fun _ _ => False) hh hl hd hg hgs hgo (fun v s₁ gs' hbare hv => ?_) (fun s₁ hp h' hk => ?_) fun e s₁ he => he.elim)
    · obtain ⟨σ', H', c, pins, rfl, I, q0, q1⟩ := hv
      refine wpAny_bind (wpAny_holding (wpAny_truthy_bool ?_))
      refine wpAny_bind (wpAny_letGo ?_)
      cases c with
      | true => exact (q1 rfl s₁ ⟨rfl, I.bare, fun _ _ e => e⟩).elim
      | false =>
        simp only [Bool.false_eq_true, if_false]
        refine wpAny_bind (wpAny_rule (wpAny_pure ?_))
        exact hF _ _ _ _ _ I (q0 rfl) ⟨rfl, allBare_setGen I.bare hbare, fun _ _ e => e⟩
    · obtain ⟨σ', H', I, q⟩ := hp
      refine wpAny_bind (wpAny_rule (wpAny_pure ?_))
      exact hT _ _ _ _ I q ⟨rfl, allBare_setGen I.bare rfl, hk⟩
  | succ m ih =>
    intro s hg hl ⟨gs, hgs, hgo⟩
    have hgl : g < s.gens.size := (Array.getElem?_eq_some_iff.mp hgs).1
    refine codeAny_builtin F.entry_all_loop ?_
    rw [Around.under_plainId F.plain_all_loop _]
    show wpAny _ A.in1 (pyNext (.ref a) >>= _) _ _ s
    refine wpAny_bind (wpAny_gsz (n := g + 1) hgl (next_genG (A := A.in1) (F := FA G QT) (Er := fun _ _ => False) hh hl hd hg hgs hgo (fun v s₁ gs' hbare hv => ?_) (fun s₁ hp h' hk => ?_) fun e s₁ he => he.elim))
    · intro hsz
      obtain ⟨σ', H', c, pins, rfl, I, q0, q1⟩ := hv
      refine wpAny_bind (wpAny_holding (wpAny_truthy_bool ?_))
      refine wpAny_bind (wpAny_letGo ?_)
      cases c with
      | true =>
        simp only [if_true]
        have hsz1 : g < s₁.gens.size := by
          have q : (s₁.setGen g gs').gens.size = s₁.gens.size := setGen_size _ _ _
          have hsz' : g + 1 ≤ (s₁.setGen g gs').gens.size := hsz
          omega
        refine wpAny_pure ⟨plainId_quiet F.plain_all_loop _, ih (s₁.setGen g gs') (hG s₁ pins σ' H' I) I.nolimit ⟨gs', setGen_at hsz1, ?_⟩⟩
        exact q1 rfl _ ⟨rfl, allBare_setGen (s := s₁.setGen g gs') (allBare_setGen I.bare hbare) rfl, fun _ _ e => e⟩
      | false =>
        simp only [Bool.false_eq_true, if_false]
        refine wpAny_bind (wpAny_rule (wpAny_pure ?_))
        exact hF _ _ _ _ _ I (q0 rfl) ⟨rfl, allBare_setGen I.bare hbare, fun _ _ e => e⟩
    · intro hsz
      obtain ⟨σ', H', I, q⟩ := hp
      refine wpAny_bind (wpAny_rule (wpAny_pure ?_))
      exact hT _ _ _ _ I q ⟨rfl, allBare_setGen I.bare rfl, hk⟩
end GA
set_option linter.all false
set_option maxRecDepth 100000
set_option maxHeartbeats 4000000
namespace GA
open PySem PySem.Spec PyProof.Rows L2 GenW GxR

/-- the generator expression's own scope -/
structure GenO (X : Cx) (scope : Scope) (own : List (Str × Nat)) : Prop where
  blk : BlkOk X.N X.env.scope scope own
  co : scope.isCoroutine = false
  cell : ∀ y ∈ scope.names, y.2 ≠ .cell
  dot : scope.names.lookup (".0" : Str) = some NameKind.local

abbrev ag (A : Around) (elt tg iter : Expr) (scope : Scope) (pos : Pos) (it : Addr) (cenv : Env) : Around :=
  A.in1.in1.over (.compLoop (.GeneratorExp elt [⟨tg, iter, [], 0⟩] scope pos) 0 (.ref it) .none cenv) []
theorem room_ag {A : Around} {elt tg iter : Expr} {scope : Scope} {pos : Pos} {it : Addr} {cenv : Env} {k : Nat} (r : Room (k + 1) A) : Room k (ag A elt tg iter scope pos it cenv) := by
  refine ⟨r.hd, ?_, ?_⟩
  · have := r.dp
    have e : (ag A elt tg iter scope pos it cenv).depth ≤ A.depth + 1 := Nat.le_of_eq rfl
    omega
  · have := r.un
    have e : (ag A elt tg iter scope pos it cenv).units ≤ A.units + 5 := Nat.le_of_eq rfl
    omega
theorem frames_ag {A : Around} {elt tg iter : Expr} {scope : Scope} {pos : Pos} {it : Addr} {cenv : Env} {l : List Env} (h : A.frames = some l) : (ag A elt tg iter scope pos it cenv).frames = some (cenv :: l) := by
  have e : (ag A elt tg iter scope pos it cenv).frames = pushEnvs [cenv] (pushEnvs [] A.frames) := by first | rfl | simp [ag, Around.over, Code.envs, Code.isFrame, Code.env?, envsOf]
  rw [e, h]
  rfl

def tAllG (P : Addr) (wi : TI) (g : TG) (te : TE) (vs : List Nat) : TE := fun σ H Q => wi σ H fun J H1 => TabG H1 P ∧ ∀ H2, Tabbed P H1 H2 → ∃ (n₀ : Nat) (W : Nat → Hp → Prop), W 0 H2 ∧
  AllW J g te (wipe σ vs) vs n₀ (fun H' => Q (.bl true) H') (fun H' => Q (.bl false) H') W

section
variable {X : Cx} {P c : Addr} {elt tg iter : Expr} {p pos gpos : Pos} {scope : Scope} {own : List (Str × Nat)} {k : Nat} {wi : TI} {g : TG} {te : TE}
theorem pe_allG (hc : X.calm = true) (hN : X.N.Nodup) (hr : Room (k + 1) X.A) (hg : Gl X "all") (hm : X.mg "all" = none) (hb : bootBuiltins "all" = some (.builtin "all")) (TB : TabB X.base X.mg c P) (hcode : X.env.code = .ref c)
    (S : GenO X scope own) (hi : PI X tg iter wi)
    (hpg : ∀ (A' : Around) (s : Shared) (H : Hp) (C : Addr) (cl : List (Str × Addr)) (code : Value) (fp : List Addr) (pn : List (Addr × Obj)), PG (gx X A' s H scope (genEnv scope cl C code builtinsNs X.env) fp pn) tg g)
    (hpe : ∀ (A' : Around) (s : Shared) (H : Hp) (C : Addr) (cl : List (Str × Addr)) (code : Value) (fp : List Addr) (pn : List (Addr × Obj)), Room k A' → PE (gx X A' s H scope (genEnv scope cl C code builtinsNs X.env) fp pn) elt te)
    (hs : ∀ v, genFold iter X.env v = pure v)
    (he : starEach [.GeneratorExp elt [⟨tg, iter, [], 0⟩] scope gpos] X.env = (false, eval (.GeneratorExp elt [⟨tg, iter, [], 0⟩] scope gpos) X.env) :: starEach [] X.env := by rfl) :
    PE X (.Call (.Name "all" p) [.GeneratorExp elt [⟨tg, iter, [], 0⟩] scope gpos] [] pos) (tAllG P wi g te (own.map (·.2))) := by
  refine ⟨fun pins s σ H Q I h => ?_⟩
  have hfree : ∀ y ∈ scope.names, y.2 = .free → ∃ c, X.env.cells.lookup y.1 = some c := fun y hy e => by
    rcases S.blk.free y hy e with k | k
    · exact I.ok.has _ (.inl k)
    · exact I.ok.has _ (.inr k)
  refine wpAny_Call_Name_kw (ld_blt I hg hm hb ?_)
  refine PyProof.Rows.callWith_builtin1 ?_ he (by rfl)
  rw [he]
  show wpAny _ _ (spliced ((false, eval (.GeneratorExp elt [⟨tg, iter, [], 0⟩] scope gpos) X.env) :: backTo pos (starEach [] X.env))) _ _ s
  refine Calls.spliced_cons ?_
  refine wpAny_GeneratorExp_make S.co (closure_ok hfree) S.cell S.dot S.blk.kind (by have := hr.dp; omega) ?_ hs
  refine thn (hi.run pins s σ H _ I h) fun xv s1 hx => thn hx fun itv s2 h2 => ?_
  obtain ⟨it, fp, tn, J, H2, e, I2, T, st2, f2, q⟩ := h2
  subst e
  obtain ⟨⟨ps, hP, ht⟩, q⟩ := q
  refine ⟨I2.nolimit, ?_⟩
  have hPs : s2.heap.get? P = some { cls := .none, data := .fields ps } := I2.hok P _ hP
  have hPlt : P < s2.heap.objs.size := Heap.lt_size hPs
  have cd : PySem.W.CodeHd s2.heap c P := TB.code.keeps fun b u e => I2.bk b u e
  have sz : ∀ b ∈ fp, b < s2.heap.objs.size := fun b hb => by
    obtain ⟨o, e, _⟩ := T.obj _ _ st2 b hb
    exact Heap.lt_size e
  have nP : ∀ b ∈ fp, b ≠ P := fun b hb z => by
    have e := (f2 b hb).1
    rw [z, hP] at e
    cases e
  have cont : ∀ (code : Value) (h3 : Heap) (tk : Nat) (ps' : Array Value), Heap.ExtBut P s2.heap h3 → s2.heap.objs.size ≤ h3.objs.size → h3.get? P = some { cls := .none, data := .fields ps' } → (∃ more, ps' = ps ++ more) → TriplesOk ps'.toList →
      wpAny (model X.prog X.w) X.A (builtinsFor X.env.globals X.env.builtins) (fun bi s₄ =>
        ∀ h', h'.Ns s₄.heap.objs.size (fun y => if y = ".0" then some (.ref it) else none) → Heap.SameBut s₄.heap.objs.size (s₄.heap.push { cls := .type "frame", data := .dict #[] }) h' →
          wpAny (model X.prog X.w) X.A (spliced (backTo pos (starEach [] X.env))) (fun us s₅ => wpAny (model X.prog X.w) X.A (call (.builtin "all") ([] ++ (.ref h'.objs.size :: us))) (EP X pins σ Q) X.xe s₅) X.xe
            { s₄ with
            gens := s₄.gens.push (.fresh (.compStart (.GeneratorExp elt [⟨tg, iter, [], 0⟩] scope gpos) 0 (.ref it) .none (genEnv scope (cloFrom X.env.cells scope.names []) s₄.heap.objs.size code bi X.env))),
            toks := s₄.toks + 1 + 1 + 1,
            heap := h'.push { cls := .type "generator", data := .fields #[.int s₄.gens.size 0, .str "<genexpr>" (s₄.toks + 1), .str (X.env.qual ++ "<genexpr>") (s₄.toks + 1 + 1)] } }) X.xe { s2 with heap := h3, toks := tk } := by
    intro code h3 tk ps' hx hsz hP3 hmore ht3
    obtain ⟨bm, ob, e1, e2, e3, e4, e5, e6, e7, e8⟩ := TB.bm
    have keep3 : ∀ b u, b ≠ P → s2.heap.get? b = some u → h3.get? b = some u := fun b u hb e => hx b u hb e
    refine wpAny_builtinsFor (m := X.mg) (by rw [I2.ok.glob]; exact (I2.mod.glob.keeps I2.bk).extBut hx TB.gP) e1 e2 (keep3 _ _ e4 (I2.bk _ _ e5)) e6 e7 e8 ?_
    intro h' hn' hs'
    obtain ⟨more, em⟩ := hmore
    -- the table has grown
    have I3 : Inv X pins σ (upd H2 P (.tbl (ps ++ more))) { s2 with heap := h3, toks := tk } := by
      have J := inv_tab (more := more) (h' := h3) (g' := s2.gens) (d' := s2.drawn) (t' := tk) I2 hP keep3 (by rw [← em]; exact hP3) I2.bare
      exact J
    have tb : Tabbed P H2 (upd H2 P (.tbl (ps ++ more))) := ⟨⟨ps ++ more, upd_same, by rw [← em]; exact ht3⟩, fun b hb => upd_ne hb⟩
    obtain ⟨n₀, W, w0, hW⟩ := q _ tb
    generalize hH3 : upd H2 P (.tbl (ps ++ more)) = H3 at I3 tb w0 hW
    have f3 : ∀ b ∈ fp, FpOk X pins H3 b ∧ b < h3.objs.size := fun b hb => by
      refine ⟨⟨?_, (f2 b hb).2⟩, Nat.lt_of_lt_of_le (sz b hb) hsz⟩
      rw [← hH3, upd_ne (nP b hb)]
      exact (f2 b hb).1
    have st3 : tn 0 h3 := T.keep _ _ _ st2 fun b hb o e => keep3 b o (nP b hb) e
    show wpAny (model X.prog X.w) X.A (spliced (backTo pos (starEach [] X.env))) _ _ _
    refine Calls.spliced_nil ?_
    have hsz' : h'.objs.size = h3.objs.size + 1 := by
      have := hs'.1
      rw [this]
      exact Heap.size_push ..
    have keep' : ∀ b o, h3.get? b = some o → h'.get? b = some o := fun b o e => hs'.extBut b o (Nat.ne_of_lt (Heap.lt_size e)) (Heap.get?_push_of_some _ e)
    generalize hgo : ({ cls := .type "generator", data := .fields #[.int s2.gens.size 0, .str "<genexpr>" (tk + 1), .str (X.env.qual ++ "<genexpr>") (tk + 1 + 1)] } : Obj) = go
    have keep5 : ∀ b o, h3.get? b = some o → (h'.push go).get? b = some o := fun b o e => Heap.get?_push_of_some _ (keep' b o e)
    have hgen : ∀ h : Heap, h.get? h'.objs.size = some go → h.IsGen h'.objs.size s2.gens.size := fun h e => ⟨go, _, _, e, by rw [← hgo], by rw [← hgo], by rw [← hgo]⟩
    have hpush : (h'.push go).get? h'.objs.size = some go := Heap.get?_push_size _ (by rw [← hgo]; rfl)
    have hgd : ∀ v, go.data ≠ .cell v := fun v z => by rw [← hgo] at z; cases z
    generalize hce : genEnv scope (cloFrom X.env.cells scope.names []) h3.objs.size code builtinsNs X.env = cenv
    generalize hs5 : ({ s2 with gens := s2.gens.push (.fresh (.compStart (.GeneratorExp elt [⟨tg, iter, [], 0⟩] scope gpos) 0 (.ref it) .none cenv)), toks := tk + 1 + 1 + 1, heap := h'.push go } : Shared) = s5
    have h5h : s5.heap = h'.push go := by rw [← hs5]
    have h5g : s5.gens = s2.gens.push (.fresh (.compStart (.GeneratorExp elt [⟨tg, iter, [], 0⟩] scope gpos) 0 (.ref it) .none cenv)) := by rw [← hs5]
    have h5o : s5.os = s2.os := by rw [← hs5]
    have g5 : s5.heap.IsGen h'.objs.size s2.gens.size := hgen _ (by rw [h5h]; exact hpush)
    have b5 : AllBare s5.gens := by rw [h5g]; exact I2.bare.push rfl
    refine call_function_tree F.kind_all F.plain_all F.entry_all (F.args_all1 _) ?_
    unfold Builtin.«all»
    refine wpAny_bind (m := oneArg "all" _) (wpAny_pure ?_)
    refine wpAny_bind (wpAny_pyIter_gen g5 ?_)
    refine wpAny_pure ⟨plainId_quiet F.plain_all_loop _, ?_⟩
    generalize hG : gx X (ag X.A elt tg iter scope gpos it cenv) { s2 with heap := h3, toks := tk } H3 scope cenv fp [(h'.objs.size, go)] = G
    have back : ∀ {pins' : List (Addr × Obj)} {σ' : L2.St} {H' : Hp} {s1 s' : Shared}, Inv G pins' σ' H' s1 → Dozed s1 s' → Inv X pins σ H' s' := fun {pins' σ' H' s1 s'} I' d => by
      rw [← hG] at I'
      have I7 : Inv X pins σ H' s1 := I3.call' (ch := fp) I'.os I'.base I'.hok I'.bare fun b hb => ⟨(f3 b hb).1.2.2.2.1, (f3 b hb).1.2.1, (f3 b hb).1.2.2.2.2.1, (f3 b hb).1.2.2.2.2.2⟩
      exact Inv.dozed I7 d
    refine all_loop (G := G) (QT := fun H' => Q (.bl true) H') (QF := fun H' => Q (.bl false) H') hr.hd (by have := hr.dp; omega)
      (fun s' s1 σ' H' I' hq d => ⟨.bl true, H', back I' d, rfl, hq⟩) (fun s' s1 pins' σ' H' I' hq d => ⟨.bl false, H', back I' d, rfl, hq⟩)
      (fun s1 pins' σ' H' I' => hgen _ (by rw [← hG] at I'; exact (I'.pin (h'.objs.size, go) (List.mem_append_left _ (List.mem_singleton.mpr rfl))).1))
      n₀ s5 g5 ?_ ⟨.fresh (.compStart (.GeneratorExp elt [⟨tg, iter, [], 0⟩] scope gpos) 0 (.ref it) .none cenv), by rw [h5g]; exact Array.getElem?_push_size .., rfl, ?_⟩
    · rw [h5h]
      exact I3.nolimit.keeps keep5
    -- the start
    have gset : AllBare (s5.setGen s2.gens.size .running).gens := allBare_setGen b5 rfl
    have IG : Inv G [] (wipe σ (own.map (·.2))) H3 (s5.setGen s2.gens.size .running) := by
      rw [← hG]
      refine gx_start (s := { s2 with heap := h3, toks := tk }) (m0 := fun y => if y = ".0" then some (.ref it) else none) hce I3 S.blk S.cell hN f3 (frames_ag I.ok.frames) hr.hd h5o gset (fun b o e => ?_) ?_ fun p hp => ?_
      · show (s5.setGen s2.gens.size .running).heap.get? b = some o
        have e' : h3.get? b = some o := e
        show s5.heap.get? b = some o
        rw [h5h]; exact keep5 b o e'
      · show s5.heap.Ns h3.objs.size _
        rw [h5h]; exact hn'.push _
      · rw [List.mem_singleton.mp hp]
        refine ⟨?_, ?_, hgd⟩
        · show s5.heap.get? _ = _
          rw [h5h]; exact hpush
        · show h3.objs.size < h'.objs.size
          omega
    have stG : tn 0 (s5.setGen s2.gens.size .running).heap := T.keep _ _ _ st3 fun b hb o e => by
      show s5.heap.get? b = some o
      rw [h5h]; exact keep5 b o e
    have hcoE : cenv.scope.isCoroutine = false := by rw [← hce]; exact S.co
    have hpnf : ∀ p ∈ [(h'.objs.size, go)], ∀ b ∈ fp, p.1 ≠ b := fun p hp b hb z => by
      rw [List.mem_singleton.mp hp] at z
      have h1 : b < h3.objs.size := (f3 b hb).2
      have z' : h'.objs.size = b := z
      rw [← z', hsz'] at h1
      exact Nat.lt_irrefl _ (Nat.lt_of_succ_lt h1)
    have loop := seg_loop (X := X) (A := X.A.in1.in1) (σ := σ) (vs := own.map (·.2)) (n₀ := n₀) (QT := fun H' => Q (.bl true) H') (QF := fun H' => Q (.bl false) H') (pn := [(h'.objs.size, go)]) (te := te) (g := g) (elt := elt) (tg := tg) (iter := iter) (pos := gpos) (scope := scope)
      G hG hc hcoE T (by rw [← hG, ← hce]; exact hpg _ _ _ _ _ _ _ _) (by rw [← hG, ← hce]; exact hpe _ _ _ _ _ _ _ _ (room_ag hr)) hpnf (wipe_length _ _) hW n₀ 0 (s5.setGen s2.gens.size .running) (s5.setGen s2.gens.size .running) H3 (Nat.sub_zero _) w0 IG stG fun b hb => (f3 b hb).1.1
    have hhA : (X.A.in1.in1.over (.compStart (.GeneratorExp elt [⟨tg, iter, [], 0⟩] scope gpos) 0 (.ref it) .none cenv) []).handled = none := hr.hd
    show Seg _ X.A.in1.in1 _ _ _ _ _ ((compStart (.GeneratorExp elt [⟨tg, iter, [], 0⟩] scope gpos) 0 (.ref it) .none cenv).onRaise (leaving cenv)) [] _
    unfold compStart
    rw [Sem.onRaise_eq_wrap]
    show Seg _ X.A.in1.in1 _ _ _ _ _ ((ask >>= _).wrap _ _ _ _) [] _
    refine seg_bind_wrap (wpAny_askSetting ?_)
    split
    · exact seg_again rfl loop
    · first
        | exact seg_bind_wrap (wpAny_rule (seg_bind_wrap (wpAny_standAt (seg_bind_wrap (T.self _ 0 _ _ _ stG (seg_again rfl loop))))))
        | (refine seg_bind_wrap (wpAny_rule ?_); show Seg _ X.A.in1.in1 _ _ _ _ _ ((standAt iter.pos >>= _).wrap _ _ _ _) [] _; exact seg_bind_wrap (wpAny_standAt (seg_bind_wrap (T.self _ 0 _ _ _ stG (seg_again rfl loop)))))
  cases hf : codeAmong gpos ps.toList with
  | none =>
    refine wpAny_genexprCodeX hcode (cd.code hPs ht) (cd.tab hPs) hf fun c' h' tk hx hge hlt hco' _ htab' _ => ?_
    obtain ⟨o1, vs, f1, tf, fl, tg', inF, tx, tt, op, _, _, _, _, _, _, _, _, _, htr, _⟩ := hco'
    exact cont _ h' tk _ hx (Nat.le_trans hge (Nat.le_of_lt hlt)) htab'.2 ⟨_, rfl⟩ htr
  | some cv =>
    refine wpAny_genexprCode_hit hcode (cd.code hPs ht) hf ?_
    exact cont cv s2.heap s2.toks ps (Heap.ExtBut.refl _ _) (Nat.le_refl _) hPs ⟨#[], by simp⟩ ht
end
end GA
set_option linter.all false
set_option maxRecDepth 100000
set_option maxHeartbeats 2000000
/-! Exceptions of the program over Exception, with an own __init__ that stores its arguments: made, kept as values, read. -/
namespace EXO
open PySem PySem.W PySem.Calls PyProof.Rows
open Builtin Builtin.ObjectAttr

abbrev chain : List Value := [.type "Exception", .type "BaseException", .type "object"]
/-- what the written part says of such a class -/
structure ExC (K : Frag) (C : Addr) : Prop where
  ini : excInitIn K C chain "Exception.__new__" = true
  ovr : excOver K C chain = true
  sa : findIn K (.ref C) "__setattr__" = some (some (.builtin "object.__setattr__"))
  ga : findIn K (.ref C) "__getattribute__" = some (some (.builtin "BaseException.__getattribute__"))
  gg : findIn K (.ref C) "__getattr__" = some none
  exC : subIn K (.ref C) (.type "BaseException") = some true
  hd : hasDictIn K C = true
  kC : keepIn K (.ref C) = true
  cl : (clsIn K C).isSome = true
  ha : findIn K (.ref C) "__class__" = some (some (.builtin "object.__class__"))
  hn : specialIn K (.builtin "object.__class__") "__get__" = some (some (.builtin "getset_descriptor.__get__"))
  tk : takesIn K (.builtin "object.__class__") = some true
  mo : mroIn K C (.type "object") = some true

section
variable {prog : Program} {w : World} {A : Around} {R : Result → Shared → Prop} {hp : Heap} {g : Array GenState} {d : Drawn} {t : Nat} {os : OsState} {K : Frag} {C x : Addr} {name : Str} {tk : Tok} {v : Value} {fv : Array Value}
/-- self.name = v, the first one -/
theorem first_store (X : K.In hp) (T : ExC K C) (hno : takerIn K C name = some none) (hx : hp.get? x = some ({ cls := .ref C, data := .fields fv } : Obj))
    (hq : ∀ h' tk' dx, (∀ b o, b ≠ x → hp.get? b = some o → h'.get? b = some o) → hp.objs.size ≤ dx → dx ≠ x →
      h'.get? x = some ({ cls := .ref C, dict := some dx, data := .fields fv } : Obj) → h'.Ns1 dx (fun y => if y = name then some v else none) → R (.ok (.ret .none)) ⟨h', g, d, tk', os⟩) :
    codeAny (model prog w) A (.call (.builtin "object.__setattr__") ⟨[.ref x, .str name tk, v], []⟩) R ⟨hp, g, d, t, os⟩ := by
  have hxs : x ≠ hp.objs.size := Nat.ne_of_lt (Heap.lt_size hx)
  obtain ⟨cd, hc, hh⟩ := any_some T.hd
  have hcls : Looks (model prog w) hp (classData C) cd := looks_clsIn X hc
  refine osa_openX (od := none) F.store_Exception X ⟨hx, rfl, rfl, trivial⟩ T.ovr hno fun b => ?_
  dsimp only
  obtain ⟨nm, bs, mro, ns, qn, hd, sn, sb, ab, col, del⟩ := cd
  dsimp only at hh
  subst hh
  unfold storeInOwnDict ownDictForStores
  repeat (first | with_reducible refine HandSPX.store_in_new ?_ ?_ | with_reducible refine wpAny_loadPart_at hx ?_ | with_reducible refine hcls.at ?_ | wp_step)
  · exact ⟨_, #[], _, (Heap.get?_update_ne _ _ _ _ hxs.symm).trans (Heap.get?_push_at rfl rfl), rfl, fun e he => absurd he (by simp), fun _ => rfl⟩
  · intro h' tk' hn' hs
    have hx1 := Heap.get?_push_of_some ({ cls := .type "dict", data := .dict #[] } : Obj) hx
    exact hq h' tk' hp.objs.size
      (fun b o hb ho => (hs.2 b (Nat.ne_of_lt (Heap.lt_size ho))).trans ((Heap.get?_update_ne _ _ _ _ hb).trans (Heap.get?_push_of_some _ ho)))
      (Nat.le_refl _) hxs.symm ((hs.2 x hxs).trans (Heap.get?_update_self _ hx1 rfl)) hn'

/-- a further one -/
theorem more_store {dx : Addr} {m0 : Str → Option Value} {nl : List Str} (X : K.In hp) (T : ExC K C) (hno : takerIn K C name = some none) (hx : hp.get? x = some ({ cls := .ref C, dict := some dx, data := .fields fv } : Obj))
    (hns : hp.Ns1 dx m0) (hw : Within m0 nl) (hz : nl.length ≤ 1000)
    (hq : ∀ h' tk', (∀ b o, b ≠ dx → hp.get? b = some o → h'.get? b = some o) → h'.Ns1 dx (fun y => if y = name then some v else m0 y) → R (.ok (.ret .none)) ⟨h', g, d, tk', os⟩) :
    codeAny (model prog w) A (.call (.builtin "object.__setattr__") ⟨[.ref x, .str name tk, v], []⟩) R ⟨hp, g, d, t, os⟩ := by
  obtain ⟨oD, esD, epD, hoD, hdD, _⟩ := hns.count hw
  obtain ⟨cd, hc, hh⟩ := any_some T.hd
  have hcls : Looks (model prog w) hp (classData C) cd := looks_clsIn X hc
  refine osa_openX (od := some oD) F.store_Exception X ⟨hx, rfl, rfl, hoD⟩ T.ovr hno fun b => ?_
  dsimp only
  obtain ⟨nm, bs, mro, ns, qn, hd, sn, sb, ab, col, del⟩ := cd
  dsimp only at hh
  subst hh
  unfold storeInOwnDict ownDictForStores
  repeat (first | with_reducible refine OEX.store_in_old hns hw hz ?_ | with_reducible refine wpAny_loadPart_at hx ?_ | with_reducible refine hcls.at ?_ | wp_step)
  intro h' tk' hn' hs
  exact hq h' tk' (fun b o hb ho => (hs.2 b hb).trans ho) hn'
end

/-- fields: names with the places of the arguments -/
def fl {α : Type} (ns : List (Str × Nat)) (us : List α) : List (Str × α) := ns.filterMap fun p => (us[p.2]?).map fun u => (p.1, u)
def mOf : List (Str × Value) → Str → Option Value
  | [] => fun _ => none
  | p :: r => fun y => if y = p.1 then some p.2 else mOf r y
/-- what __init__ leaves of a fresh exception at x -/
structure IniEnd (h h' : Heap) (x C dx t1 : Addr) (fs : List (Str × Value)) : Prop where
  keep : ∀ b o, b ≠ x → h.get? b = some o → h'.get? b = some o
  obj : h'.get? x = some ({ cls := .ref C, dict := some dx, data := .fields #[.ref t1, .none, .none, .none, .bool false, .none] } : Obj)
  dbig : h.objs.size ≤ dx
  dne : dx ≠ x
  ns : h'.Ns1 dx (mOf fs)
/-- __init__ of C stores its k arguments under the names ns -/
def Ini (prog : Program) (w : World) (K : Frag) (C fI : Addr) (k : Nat) (ns : List (Str × Nat)) : Prop :=
  ∀ (A : Around) (R : Result → Shared → Prop) (s : Shared) (x t0 : Addr) (us : List Value), us.length = k → K.In s.heap → s.heap.NoLimit → s.heap.get? x = some (HandSPX.excO C t0) → K.lookup x = none → A.depth < recursionLimit →
    (∀ h' tk dx, IniEnd s.heap h' x C dx t0 (fl ns us) → R (.ok (.ret .none)) { s with heap := h', toks := tk }) → codeAny (model prog w) A (.call (.ref fI) ⟨.ref x :: us, []⟩) R s
/-- a made exception -/
structure Made (h h' : Heap) (e C d : Addr) (fs : List (Str × Value)) : Prop where
  keep : ∀ b o, h.get? b = some o → h'.get? b = some o
  new : h.objs.size ≤ e
  obj : ∃ t1 : Addr, h'.get? e = some ({ cls := .ref C, dict := some d, data := .fields #[.ref t1, .none, .none, .none, .bool false, .none] } : Obj)
  dbig : h.objs.size ≤ d
  dne : d ≠ e
  ns : h'.Ns1 d (mOf fs)
section
variable {prog : Program} {w : World} {A : Around} {E : Value → Shared → Prop} {R : Result → Shared → Prop} {s : Shared} {K : Frag} {C fI : Addr} {ns : List (Str × Nat)} {k : Nat}
theorem made (T : ExC K C) (iC : findIn K (.ref C) "__init__" = some (some (.ref fI))) (tC : typeIn K (.ref fI) = some (.type "function")) (J : Ini prog w K C fI k ns) {us : List Value} (hk : us.length = k) (hz : us.length ≤ sizeLine)
    (X : K.In s.heap) (hlim : s.heap.NoLimit) (hroom : A.depth + 1 < recursionLimit)
    (hq : ∀ h' tk e d, Made s.heap h' e C d (fl ns us) → R (.ok (.ret (.ref e))) { s with heap := h', toks := tk }) :
    codeAny (model prog w) A (.call (.ref C) ⟨us, []⟩) R s := by
  obtain ⟨hp, g, dr, tk, os⟩ := s
  obtain ⟨nm, N', qn, bs, bm, hdct, sn, sub, ab, col, dd, k0, k1, k2, k3, k5, hC, hT⟩ := excInit_of (h := hp) X T.ini
  have kk : ∀ b o, hp.get? b = some o → ((hp.push (kdv_tup us)).push (HandSPX.excO C hp.objs.size)).get? b = some o := fun b o e => Heap.get?_push_of_some _ (Heap.get?_push_of_some _ e)
  have hget : ((hp.push (kdv_tup us)).push (HandSPX.excO C hp.objs.size)).get? (hp.objs.size + 1) = some (HandSPX.excO C hp.objs.size) := by heap_get
  have hnx : K.lookup (hp.objs.size + 1) = none := by
    cases e : K.lookup (hp.objs.size + 1) with
    | none => rfl
    | some o => exact absurd (Nat.lt_of_succ_lt (Heap.lt_size (X _ _ e))) (Nat.lt_irrefl _)
  refine HandSPX.call_own F.excBase_Exception hT hC (looks_findIn X iC) (fun self => bind_fn X self tC) hz ?_
  refine J _ _ ⟨(hp.push (kdv_tup us)).push (HandSPX.excO C hp.objs.size), g, dr, tk, os⟩ (hp.objs.size + 1) hp.objs.size us hk (X.keeps kk) (hlim.keeps kk) hget hnx hroom fun h' tk' dx ⟨k', hx, dn, dne, hns⟩ => ?_
  have z : hp.objs.size + 1 + 1 ≤ dx := by
    first
      | (simpa only [Heap.size_push] using dn)
      | exact dn
      | (have q := dn; rw [Heap.size_push, Heap.size_push] at q; exact q)
  exact ⟨rfl, hq h' tk' (hp.objs.size + 1) dx ⟨fun b o e => k' b o (Nat.ne_of_lt (Nat.lt_succ_of_lt (Heap.lt_size e))) (kk b o e), Nat.le_succ _, ⟨_, hx⟩, Nat.le_trans (Nat.le_trans (Nat.le_succ _) (Nat.le_succ _)) z, dne, hns⟩⟩
end
end EXO
set_option linter.all false
set_option maxRecDepth 100000
set_option maxHeartbeats 2000000
/-! The own __init__ of such a class: one field, or two. -/
namespace EXO
open PySem PySem.W PySem.Calls PyProof.Rows
open Builtin Builtin.ObjectAttr
def iA1 (p : String) (p1 p2 : Pos) : Arguments := { posonlyargs := [], args := [{ arg := "self", annotation := none, pos := p1 }, { arg := .ofString p, annotation := none, pos := p2 }], vararg := none, kwonlyargs := [], kw_defaults := [], kwarg := none, defaults := [] }
def iB1 (p : String) (q1 q2 q3 q4 : Pos) : List Stmt := [.Assign [.Attribute (.Name "self" q1) (.ofString p) q2] (.Name (.ofString p) q3) q4]
def iS1 (p : String) : Scope := { kind := .function, names := [(Str.ofString "self", .local), (.ofString p, .local)], isGenerator := false, isCoroutine := false, more := [] }
def iA2 (p r : String) (p1 p2 p3 : Pos) : Arguments := { posonlyargs := [], args := [{ arg := "self", annotation := none, pos := p1 }, { arg := .ofString p, annotation := none, pos := p2 }, { arg := .ofString r, annotation := none, pos := p3 }], vararg := none, kwonlyargs := [], kw_defaults := [], kwarg := none, defaults := [] }
def iB2 (p r : String) (q1 q2 q3 q4 r1 r2 r3 r4 : Pos) : List Stmt := [.Assign [.Attribute (.Name "self" q1) (.ofString p) q2] (.Name (.ofString p) q3) q4, .Assign [.Attribute (.Name "self" r1) (.ofString r) r2] (.Name (.ofString r) r3) r4]
def iS2 (p r : String) : Scope := { kind := .function, names := [(Str.ofString "self", .local), (.ofString p, .local), (.ofString r, .local)], isGenerator := false, isCoroutine := false, more := [] }
/-- what the written part says of C's __init__, at fI: one field -/
structure Tx1 (K : Frag) (C fI : Addr) (p : String) : Prop where
  iC : findIn K (.ref C) "__init__" = some (some (.ref fI))
  tC : typeIn K (.ref fI) = some (.type "function")
  no : takerIn K C (.ofString p) = some none
  nf : findIn K (.ref C) (.ofString p) = some none
  fn : ∃ (qn : Str) (oc : Value) (od : Option Addr) (doc pm : Value) (an : Option Addr) (cdv ct : Value) (osl : Array (Option Value)) (p1 p2 q1 q2 q3 q4 : Pos),
    K.lookup fI = some ⟨oc, od, .func (fnOf "__init__" qn (iA1 p p1 p2) (iB1 p q1 q2 q3 q4) (iS1 p) .none .none doc pm an cdv ct), osl⟩ ∧ codeIn K cdv qn = true
/-- two fields -/
structure Tx2 (K : Frag) (C fI : Addr) (p r : String) : Prop where
  iC : findIn K (.ref C) "__init__" = some (some (.ref fI))
  tC : typeIn K (.ref fI) = some (.type "function")
  no : takerIn K C (.ofString p) = some none
  nf : findIn K (.ref C) (.ofString p) = some none
  no' : takerIn K C (.ofString r) = some none
  nf' : findIn K (.ref C) (.ofString r) = some none
  fn : ∃ (qn : Str) (oc : Value) (od : Option Addr) (doc pm : Value) (an : Option Addr) (cdv ct : Value) (osl : Array (Option Value)) (p1 p2 p3 q1 q2 q3 q4 r1 r2 r3 r4 : Pos),
    K.lookup fI = some ⟨oc, od, .func (fnOf "__init__" qn (iA2 p r p1 p2 p3) (iB2 p r q1 q2 q3 q4 r1 r2 r3 r4) (iS2 p r) .none .none doc pm an cdv ct), osl⟩ ∧ codeIn K cdv qn = true
theorem ldN {M : Model} {A : Around} {E : Value → Shared → Prop} {s : Shared} {name : Str} {scope : Scope} {L a : Addr} {cd : Value} {m : Str → Option Value} {x : Str} {pos : Pos} {v : Value} {Q : Value → Shared → Prop} (hn : s.heap.Ns L m) (hv : m x = some v) (h : Q v s)
    (hk : scope.kind = .function := by rfl) (hl : (envOfC name scope L a cd).kindOf x = some .local := by rfl) (hd : (x == ("__debug__" : Str)) = false := by decide) :
    wpAny M A (eval (.Name x pos) (envOfC name scope L a cd)) Q E s := wpAny_Name (wpAny_loadName_local hk hl hn hv h) hd
section
variable {prog : Program} {w : World} {K : Frag} {C fI : Addr}
theorem ini_thing (T : ExC K C) (D : Tx1 K C fI "thing") : Ini prog w K C fI 1 [("thing", 0)] := by
  intro A R s x t0 us hk X hlim hx hnx hroom hq
  obtain ⟨v, rfl⟩ : ∃ v, us = [v] := match us, hk with | [v], _ => ⟨v, rfl⟩
  obtain ⟨qn, oc, od, doc, pm, an, cdv, ct, osl, p1, p2, q1, q2, q3, q4, ho, hcd⟩ := D.fn
  refine Att.call_fn (binds := [("self", .ref x), ("thing", v)]) X hlim ho hcd hroom (BindsTo.of_eq (by first | rfl | with_unfolding_all rfl)) (by first | rfl | decide | with_unfolding_all rfl) (fun s1 IC => ?_) rfl rfl rfl
  obtain ⟨h1, tk1, rfl⟩ := IC.toInCall.same
  have k := IC.toInCall.keep
  have hn := IC.toInCall.ns
  have X1 : K.In h1 := X.keeps k
  have hx1 := k _ _ hx
  show wpAny _ _ (execs _ _) _ _ _
  refine wpAny_execs_cons (plainObj_wpAny_Assign_Attribute ?_)
  refine ldN (v := v) hn (by first | rfl | with_unfolding_all rfl | kernel_rfl) (ldN (v := .ref x) hn (by first | rfl | with_unfolding_all rfl | kernel_rfl) ?_)
  refine set_plain X1 (ox := HandSPX.excO C t0) (od := none) ⟨hx1, rfl, rfl, trivial⟩ T.sa ?_
  refine first_store X1 T D.no hx1 fun h3 tk3 dx k3 dn dne hx3 hn3 => ?_
  show wpAny _ _ (execs _ _) _ _ _
  exact wpAny_execs_nil (hq h3 tk3 dx ⟨fun b o hb e => k3 b o hb (k b o e), hx3, Nat.le_of_lt (Nat.lt_of_lt_of_le hn.lt dn), dne, hn3⟩)
theorem ini_place (T : ExC K C) (D : Tx1 K C fI "place") : Ini prog w K C fI 1 [("place", 0)] := by
  intro A R s x t0 us hk X hlim hx hnx hroom hq
  obtain ⟨v, rfl⟩ : ∃ v, us = [v] := match us, hk with | [v], _ => ⟨v, rfl⟩
  obtain ⟨qn, oc, od, doc, pm, an, cdv, ct, osl, p1, p2, q1, q2, q3, q4, ho, hcd⟩ := D.fn
  refine Att.call_fn (binds := [("self", .ref x), ("place", v)]) X hlim ho hcd hroom (BindsTo.of_eq (by first | rfl | with_unfolding_all rfl)) (by first | rfl | decide | with_unfolding_all rfl) (fun s1 IC => ?_) rfl rfl rfl
  obtain ⟨h1, tk1, rfl⟩ := IC.toInCall.same
  have k := IC.toInCall.keep
  have hn := IC.toInCall.ns
  have X1 : K.In h1 := X.keeps k
  have hx1 := k _ _ hx
  show wpAny _ _ (execs _ _) _ _ _
  refine wpAny_execs_cons (plainObj_wpAny_Assign_Attribute ?_)
  refine ldN (v := v) hn (by first | rfl | with_unfolding_all rfl | kernel_rfl) (ldN (v := .ref x) hn (by first | rfl | with_unfolding_all rfl | kernel_rfl) ?_)
  refine set_plain X1 (ox := HandSPX.excO C t0) (od := none) ⟨hx1, rfl, rfl, trivial⟩ T.sa ?_
  refine first_store X1 T D.no hx1 fun h3 tk3 dx k3 dn dne hx3 hn3 => ?_
  show wpAny _ _ (execs _ _) _ _ _
  exact wpAny_execs_nil (hq h3 tk3 dx ⟨fun b o hb e => k3 b o hb (k b o e), hx3, Nat.le_of_lt (Nat.lt_of_lt_of_le hn.lt dn), dne, hn3⟩)
theorem ini_text (T : ExC K C) (D : Tx1 K C fI "text") : Ini prog w K C fI 1 [("text", 0)] := by
  intro A R s x t0 us hk X hlim hx hnx hroom hq
  obtain ⟨v, rfl⟩ : ∃ v, us = [v] := match us, hk with | [v], _ => ⟨v, rfl⟩
  obtain ⟨qn, oc, od, doc, pm, an, cdv, ct, osl, p1, p2, q1, q2, q3, q4, ho, hcd⟩ := D.fn
  refine Att.call_fn (binds := [("self", .ref x), ("text", v)]) X hlim ho hcd hroom (BindsTo.of_eq (by first | rfl | with_unfolding_all rfl)) (by first | rfl | decide | with_unfolding_all rfl) (fun s1 IC => ?_) rfl rfl rfl
  obtain ⟨h1, tk1, rfl⟩ := IC.toInCall.same
  have k := IC.toInCall.keep
  have hn := IC.toInCall.ns
  have X1 : K.In h1 := X.keeps k
  have hx1 := k _ _ hx
  show wpAny _ _ (execs _ _) _ _ _
  refine wpAny_execs_cons (plainObj_wpAny_Assign_Attribute ?_)
  refine ldN (v := v) hn (by first | rfl | with_unfolding_all rfl | kernel_rfl) (ldN (v := .ref x) hn (by first | rfl | with_unfolding_all rfl | kernel_rfl) ?_)
  refine set_plain X1 (ox := HandSPX.excO C t0) (od := none) ⟨hx1, rfl, rfl, trivial⟩ T.sa ?_
  refine first_store X1 T D.no hx1 fun h3 tk3 dx k3 dn dne hx3 hn3 => ?_
  show wpAny _ _ (execs _ _) _ _ _
  exact wpAny_execs_nil (hq h3 tk3 dx ⟨fun b o hb e => k3 b o hb (k b o e), hx3, Nat.le_of_lt (Nat.lt_of_lt_of_le hn.lt dn), dne, hn3⟩)
theorem ini_most (T : ExC K C) (D : Tx1 K C fI "most") : Ini prog w K C fI 1 [("most", 0)] := by
  intro A R s x t0 us hk X hlim hx hnx hroom hq
  obtain ⟨v, rfl⟩ : ∃ v, us = [v] := match us, hk with | [v], _ => ⟨v, rfl⟩
  obtain ⟨qn, oc, od, doc, pm, an, cdv, ct, osl, p1, p2, q1, q2, q3, q4, ho, hcd⟩ := D.fn
  refine Att.call_fn (binds := [("self", .ref x), ("most", v)]) X hlim ho hcd hroom (BindsTo.of_eq (by first | rfl | with_unfolding_all rfl)) (by first | rfl | decide | with_unfolding_all rfl) (fun s1 IC => ?_) rfl rfl rfl
  obtain ⟨h1, tk1, rfl⟩ := IC.toInCall.same
  have k := IC.toInCall.keep
  have hn := IC.toInCall.ns
  have X1 : K.In h1 := X.keeps k
  have hx1 := k _ _ hx
  show wpAny _ _ (execs _ _) _ _ _
  refine wpAny_execs_cons (plainObj_wpAny_Assign_Attribute ?_)
  refine ldN (v := v) hn (by first | rfl | with_unfolding_all rfl | kernel_rfl) (ldN (v := .ref x) hn (by first | rfl | with_unfolding_all rfl | kernel_rfl) ?_)
  refine set_plain X1 (ox := HandSPX.excO C t0) (od := none) ⟨hx1, rfl, rfl, trivial⟩ T.sa ?_
  refine first_store X1 T D.no hx1 fun h3 tk3 dx k3 dn dne hx3 hn3 => ?_
  show wpAny _ _ (execs _ _) _ _ _
  exact wpAny_execs_nil (hq h3 tk3 dx ⟨fun b o hb e => k3 b o hb (k b o e), hx3, Nat.le_of_lt (Nat.lt_of_lt_of_le hn.lt dn), dne, hn3⟩)
theorem ini_why (T : ExC K C) (D : Tx1 K C fI "why") : Ini prog w K C fI 1 [("why", 0)] := by
  intro A R s x t0 us hk X hlim hx hnx hroom hq
  obtain ⟨v, rfl⟩ : ∃ v, us = [v] := match us, hk with | [v], _ => ⟨v, rfl⟩
  obtain ⟨qn, oc, od, doc, pm, an, cdv, ct, osl, p1, p2, q1, q2, q3, q4, ho, hcd⟩ := D.fn
  refine Att.call_fn (binds := [("self", .ref x), ("why", v)]) X hlim ho hcd hroom (BindsTo.of_eq (by first | rfl | with_unfolding_all rfl)) (by first | rfl | decide | with_unfolding_all rfl) (fun s1 IC => ?_) rfl rfl rfl
  obtain ⟨h1, tk1, rfl⟩ := IC.toInCall.same
  have k := IC.toInCall.keep
  have hn := IC.toInCall.ns
  have X1 : K.In h1 := X.keeps k
  have hx1 := k _ _ hx
  show wpAny _ _ (execs _ _) _ _ _
  refine wpAny_execs_cons (plainObj_wpAny_Assign_Attribute ?_)
  refine ldN (v := v) hn (by first | rfl | with_unfolding_all rfl | kernel_rfl) (ldN (v := .ref x) hn (by first | rfl | with_unfolding_all rfl | kernel_rfl) ?_)
  refine set_plain X1 (ox := HandSPX.excO C t0) (od := none) ⟨hx1, rfl, rfl, trivial⟩ T.sa ?_
  refine first_store X1 T D.no hx1 fun h3 tk3 dx k3 dn dne hx3 hn3 => ?_
  show wpAny _ _ (execs _ _) _ _ _
  exact wpAny_execs_nil (hq h3 tk3 dx ⟨fun b o hb e => k3 b o hb (k b o e), hx3, Nat.le_of_lt (Nat.lt_of_lt_of_le hn.lt dn), dne, hn3⟩)
theorem ini_line_column (T : ExC K C) (D : Tx2 K C fI "line" "column") : Ini prog w K C fI 2 [("column", 1), ("line", 0)] := by
  intro A R s x t0 us hk X hlim hx hnx hroom hq
  obtain ⟨v, u, rfl⟩ : ∃ v u, us = [v, u] := match us, hk with | [v, u], _ => ⟨v, u, rfl⟩
  obtain ⟨qn, oc, od, doc, pm, an, cdv, ct, osl, p1, p2, p3, q1, q2, q3, q4, r1, r2, r3, r4, ho, hcd⟩ := D.fn
  refine Att.call_fn (binds := [("self", .ref x), ("line", v), ("column", u)]) X hlim ho hcd hroom (BindsTo.of_eq (by first | rfl | with_unfolding_all rfl)) (by first | rfl | decide | with_unfolding_all rfl) (fun s1 IC => ?_) rfl rfl rfl
  obtain ⟨h1, tk1, rfl⟩ := IC.toInCall.same
  have k := IC.toInCall.keep
  have hn := IC.toInCall.ns
  have X1 : K.In h1 := X.keeps k
  have hx1 := k _ _ hx
  have hxL : s.heap.objs.size ≠ x := Nat.ne_of_gt (Heap.lt_size hx)
  show wpAny _ _ (execs _ _) _ _ _
  refine wpAny_execs_cons (plainObj_wpAny_Assign_Attribute ?_)
  refine ldN (v := v) hn (by first | rfl | with_unfolding_all rfl | kernel_rfl) (ldN (v := .ref x) hn (by first | rfl | with_unfolding_all rfl | kernel_rfl) ?_)
  refine set_plain X1 (ox := HandSPX.excO C t0) (od := none) ⟨hx1, rfl, rfl, trivial⟩ T.sa ?_
  refine first_store X1 T D.no hx1 fun h3 tk3 dx k3 dn dne hx3 hn3 => ?_
  have hn3' := hn.at fun o e => k3 _ _ hxL e
  have X3 : K.In h3 := fun a o e => k3 a o (fun z => by rw [z, hnx] at e; cases e) (X1 a o e)
  have hw : Within (fun y => if y = (Str.ofString "line") then some v else none) [Str.ofString "line"] := Within.cons _ _ Within.nil
  obtain ⟨oD, esD, epD, hoD, hdD, _⟩ := hn3.count hw
  show wpAny _ _ (execs _ _) _ _ _
  refine wpAny_execs_cons (plainObj_wpAny_Assign_Attribute ?_)
  refine ldN (v := u) hn3' (by first | rfl | with_unfolding_all rfl | kernel_rfl) (ldN (v := .ref x) hn3' (by first | rfl | with_unfolding_all rfl | kernel_rfl) ?_)
  refine set_plain X3 (ox := { cls := .ref C, dict := some dx, data := .fields #[.ref t0, .none, .none, .none, .bool false, .none] }) (od := some oD) ⟨hx3, rfl, rfl, hoD⟩ T.sa ?_
  refine more_store X3 T D.no' hx3 hn3 hw (by simp) fun h4 tk4 k4 hn4 => ?_
  have old : ∀ {b : Addr} {o : Obj}, s.heap.get? b = some o → b ≠ dx := fun {b o} e => Nat.ne_of_lt (Nat.lt_of_lt_of_le (Heap.lt_size (k b o e)) dn)
  show wpAny _ _ (execs _ _) _ _ _
  exact wpAny_execs_nil (hq h4 tk4 dx ⟨fun b o hb e => k4 b o (old e) (k3 b o hb (k b o e)), k4 _ _ (Ne.symm dne) hx3, Nat.le_of_lt (Nat.lt_of_lt_of_le hn.lt dn), dne, hn4⟩)
end
end EXO
set_option linter.all false
set_option maxRecDepth 100000
set_option maxHeartbeats 2000000
/-! Such exceptions as values of ours: made, a field read, isinstance. -/
namespace EXO
open PySem PySem.Spec PyProof.Rows L2
theorem vals_get : ∀ {vs : List V} {us : List Value} {i : Nat} {v : V}, Vals vs us → vs[i]? = some v → ∃ u, us[i]? = some u ∧ RelV v u
  | _, _, i, _, .nil, e => by simp at e
  | _, _, 0, _, .cons r k, e => by
    simp at e
    subst e
    exact ⟨_, rfl, r⟩
  | _, _, i + 1, _, .cons r k, e => by
    obtain ⟨u, a, b⟩ := vals_get (i := i) k (by simpa using e)
    exact ⟨u, by simpa using a, b⟩
theorem fl_len {α : Type} (ns : List (Str × Nat)) (us : List α) : (fl ns us).length ≤ ns.length := List.length_filterMap_le _ _
theorem fl_rel {vs : List V} {us : List Value} (r : Vals vs us) : ∀ (ns : List (Str × Nat)) (f : Str), RelO ((fl ns vs).lookup f) (mOf (fl ns us) f)
  | [], f => True.intro
  | (n, i) :: ns, f => by
    have ih := fl_rel r ns f
    have hl := r.length
    cases hv : vs[i]? with
    | none =>
      have hu : us[i]? = none := by
        rw [List.getElem?_eq_none_iff] at hv ⊢
        omega
      have e1 : fl ((n, i) :: ns) vs = fl ns vs := by unfold fl; rw [List.filterMap_cons_none]; simp [hv]
      have e2 : fl ((n, i) :: ns) us = fl ns us := by unfold fl; rw [List.filterMap_cons_none]; simp [hu]
      rw [e1, e2]
      exact ih
    | some v =>
      obtain ⟨u, hu, ru⟩ := vals_get r hv
      have e1 : fl ((n, i) :: ns) vs = (n, v) :: fl ns vs := by unfold fl; rw [List.filterMap_cons_some]; simp [hv]
      have e2 : fl ((n, i) :: ns) us = (n, u) :: fl ns us := by unfold fl; rw [List.filterMap_cons_some]; simp [hu]
      rw [e1, e2, lookup_put]
      show RelO _ (if f = n then some u else mOf (fl ns us) f)
      by_cases h : f = n
      · rw [if_pos h, if_pos h]
        exact ru
      · rw [if_neg h, if_neg h]
        exact ih
section
variable {X : Cx} {e : Expr} {es : List Expr} {ta : TA} {te : TE} {x : Str} {C fI : Addr} {k : Nat} {ns : List (Str × Nat)} {p pos : Pos} {f : Str}
/-- C(e, ..) -/
def tMkX (C : Addr) (k : Nat) (ns : List (Str × Nat)) (ta : TA) : TE := fun σ H Q => ta σ H fun vs H1 => vs.length = k ∧ ∀ a d, H1 a = none → H1 d = none → a ≠ d → Q (.ref a) (upd (upd H1 d (exd d (fl ns vs))) a (exo a C (some d)))
theorem pe_mkx (T : ExC X.K C) (iC : PySem.W.findIn X.K (.ref C) "__init__" = some (some (.ref fI))) (tC : PySem.W.typeIn X.K (.ref fI) = some (.type "function")) (J : Ini X.prog X.w X.K C fI k ns) (hk : k ≤ 1000) (hr : Room 1 X.A)
    (hg : Gl X x) (hm : X.mg x = some (.ref C)) (ha : PA X (e :: es) ta) (hdb : (x == ("__debug__" : Str)) = false := by decide)
    (he : starEach (e :: es) X.env = (false, eval e X.env) :: starEach es X.env := by rfl) (hpl : (backTo pos (starEach es X.env)).any (·.1) = false := by rfl) :
    PE X (.Call (.Name x p) (e :: es) [] pos) (tMkX C k ns ta) := by
  refine ⟨fun pins s σ H Q I h => ?_⟩
  refine wpAny_Call_Name_kw (ld_glob I hg hm ?_ hdb)
  refine PySem.W.callWith_K (h₀ := X.base) I.ok.mod.kin T.kC (thn (ha.run pos pins s σ H _ I h) fun us s1 ⟨vs, H1, I1, r1, hl, q⟩ => ⟨I1.kIn, ?_⟩) he hpl
  have hul : us.length = k := r1.length.symm.trans hl
  show wpAny _ _ (call (.ref C) us) _ _ _
  have hlim := I1.nolimit
  obtain ⟨hp, g, dr, tk, os⟩ := s1
  refine wpAny_call (made (s := ⟨hp, g, dr, tk, os⟩) T iC tC J hul (by rw [hul, sizeLine_eq]; omega) I1.kIn hlim (by have := hr.dp; omega) fun h' tk' e d M => ?_)
  obtain ⟨G', g1, g2⟩ := restrict h' fun b => decide (b ≠ e)
  have gk : ∀ b, b ≠ e → G'.get? b = h'.get? b := fun b hb => g1 b (decide_eq_true hb)
  have ge : G'.get? e = none := g2 e (by simp)
  have old : ∀ b o, hp.get? b = some o → G'.get? b = some o := fun b o q => (gk b (Nat.ne_of_lt (Nat.lt_of_lt_of_le (Heap.lt_size q) M.new))).trans (M.keep b o q)
  have ob : ObjOk X.prog X.w (upd H1 d (exd d (fl ns vs))) G' d (exd d (fl ns vs)) := exd_ok (M.ns.at fun o q => (gk d M.dne).trans q) (fl_rel r1 ns)
  have J1 : Inv X pins σ (upd H1 d (exd d (fl ns vs))) ⟨G', g, dr, tk', os⟩ := I1.laid (t' := tk') old M.dbig ob
  have hfe : H1 e = none := I1.hok.fresh M.new
  have hfd : H1 d = none := I1.hok.fresh M.dbig
  obtain ⟨t1, hob⟩ := M.obj
  have J2 : Inv X pins σ (upd (upd H1 d (exd d (fl ns vs))) e (exo e C (some d))) ⟨h', g, dr, tk', os⟩ :=
    J1.laidN (t' := tk') (fun b o q => by
      by_cases hb : b = e
      · rw [hb] at q
        have q' : G'.get? e = some o := q
        rw [ge] at q'; cases q'
      · exact (gk b hb).symm.trans q) ge (by rw [upd_ne (Ne.symm M.dne)]; exact hfe) (exo_ok hob)
  exact ⟨.ref e, _, J2, rfl, q e d hfe hfd (Ne.symm M.dne)⟩
/-- e.f -/
def tAtX (K : PySem.W.Frag) (f : Str) (te : TE) : TE := fun σ H Q => te σ H fun x H1 => ∃ (a C d : Addr) (fs : List (Str × V)) (v : V), x = .ref a ∧ ExC K C ∧ PySem.W.findIn K (.ref C) f = some none ∧ H1 a = some (exo a C (some d)) ∧ H1 d = some (exd d fs) ∧ fs.lookup f = some v ∧ Q v H1
/-- where such an exception stands -/
theorem inst_at {K : PySem.W.Frag} {P : Program} {w : World} {H : Hp} {h : Heap} {a C d : Addr} {fs : List (Str × V)} (hok : HOk P w H h) (ea : H a = some (exo a C (some d))) (ed : H d = some (exd d fs)) :
    ∃ (ox od : Obj) (mA : Str → Option Value), PySem.W.InstAt h a ox C (some od) ∧ (∀ n, PySem.W.lookIn n od = some (mA n)) ∧ ∀ n, RelO (fs.lookup n) (mA n) := by
  obtain ⟨t1, hoe⟩ := exo_at hok ea
  obtain ⟨mA, hns, rel⟩ := exd_at hok ed
  obtain ⟨od, ho, hl⟩ := lookIn_ns hns
  exact ⟨_, od, mA, ⟨hoe, rfl, rfl, ho⟩, hl, rel⟩
theorem pe_atx (he : PE X e te) (hb : attributeBase e f X.env (eval e X.env) = eval e X.env := by rfl) : PE X (.Attribute e f pos) (tAtX X.K f te) := by
  refine ⟨fun pins s σ H Q I h => ?_⟩
  refine attr_of hb (thn (he.run pins s σ H _ I h) fun u s1 ⟨x, H1, I1, rx, a, C, d, fs, v, ex, T, hno, ea, ed, hl, q⟩ => ?_)
  subst ex
  obtain rfl : u = Value.ref a := rx
  obtain ⟨ox, od, mA, J, hli, rel⟩ := inst_at (K := X.K) I1.hok ea ed
  obtain ⟨u, hu, ru⟩ := RelO.some_of (v := v) (o := mA f) (by rw [← hl]; exact rel f)
  exact HandSPX.exc_get I1.kIn J T.ga T.gg T.exC (PySem.W.findObj_own T.hd hno rfl (by rw [hli, hu])) (handed_of ru) ⟨v, H1, I1.tok _, ru, q⟩
/-- isinstance(x, c), x such an exception -/
def rIsx (K : PySem.W.Frag) : List V → Hp → VK → Prop := fun xs H Q => ∃ (a C d : Addr) (fs : List (Str × V)) (c : V) (u : Value) (b : Bool), xs = [.ref a, c] ∧ ClsV c u ∧ ExC K C ∧ H a = some (exo a C (some d)) ∧ H d = some (exd d fs) ∧ PySem.W.kitOne K (.ref C) u = some b ∧ Q (.bl b) H
theorem call_isx : CallR X (.builtin "isinstance") (rIsx X.K) := by
  intro pins s σ H xs us Q I r h
  obtain ⟨a, C, d, fs, c, u, b, rfl, k, T, ea, ed, e, q⟩ := h
  obtain ⟨u1, u2, rfl, r1, r2⟩ := vals2 r
  have e2 := k.eq r2
  subst e2
  obtain rfl : u1 = Value.ref a := r1
  obtain ⟨ox, od, mA, J, _, _⟩ := inst_at (K := X.K) I.hok ea ed
  exact PySem.W.kia_one (PySem.W.kitx_exc T.cl T.ga T.gg T.exC T.ha T.hn T.tk T.mo) I.kIn J e (fun z => nomatch z) fun tk => ⟨.bl b, H, I.tok tk, rfl, q⟩
end
end EXO
set_option linter.all false
set_option maxRecDepth 100000
set_option maxHeartbeats 2000000
/-! A functional reading of defs: values as trees, expressions as functions of the slots and of the one list that changes. -/
namespace FL
open PySem PySem.Spec PyProof.Rows L2 GxR GA

inductive T where
  | non | bl (b : Bool) | int (i : Int) | str (cs : List Nat) | tup (ts : List T) | lst (ts : List T) | fls (ts : List T) | ref | exo (i : Nat) (ns : List Str) (ts : List T)
  deriving Inhabited

structure Pm where
  K : PySem.W.Frag
  d : Option Addr
  tabs : List Addr
  ex : List Addr
  cl : List Addr
/-- neither the list that changes nor one that is being made -/
def Fre (p : Pm) (a : Addr) : Prop := p.d ≠ some a ∧ a ∉ p.ex

/-- a list that nobody changes -/
def SqF (p : Pm) (H : Hp) (a : Addr) (xs : List V) : Prop := (Rd H a (.lst xs) ∧ Fre p a) ∨
    ∃ (o : Obj) (its : Array Value) (n : Nat), p.K.lookup a = some o ∧ o.cls = .type "list" ∧ o.dict = none ∧ o.data = .seq its n ∧ its.size ≤ sizeLine ∧ Vals xs its.toList
theorem SqF.sq {p : Pm} {H : Hp} {a : Addr} {xs : List V} (h : SqF p H a xs) : SqL p.K H a xs := h.elim (fun q => .inl q.1) .inr
mutual
def Rep (p : Pm) (H : Hp) : T → V → Prop
  | .non, v => v = .non
  | .bl b, v => v = .bl b
  | .int i, v => v = .int i
  | .str cs, v => ∃ x : Str, v = .str x ∧ x.cps.toList = cs
  | .tup ts, v => ∃ a vs, v = .ref a ∧ SqT p.K H a vs ∧ Reps p H ts vs
  | .lst ts, v => ∃ a vs, v = .ref a ∧ H a = some (.lst vs) ∧ Fre p a ∧ Reps p H ts vs
  | .fls ts, v => ∃ a vs, v = .ref a ∧ SqF p H a vs ∧ Reps p H ts vs
  | .ref, v => ∃ a, p.d = some a ∧ v = .ref a
  | .exo i ns ts, v => ∃ C a d vs, p.cl[i]? = some C ∧ v = .ref a ∧ H a = some (exo a C (some d)) ∧ H d = some (exd d (ns.zip vs)) ∧ Reps p H ts vs
def Reps (p : Pm) (H : Hp) : List T → List V → Prop
  | [], vs => vs = []
  | t :: ts, vs => ∃ v r, vs = v :: r ∧ Rep p H t v ∧ Reps p H ts r
end

/-- what a run keeps: all but the list that changes; the tables grow -/
structure Ext (p : Pm) (H H' : Hp) : Prop where
  tup : ∀ a xs, H a = some (.tup xs) → H' a = some (.tup xs)
  frz : ∀ a o u, H a = some (.frz o u) → H' a = some (.frz o u)
  lst : ∀ a xs, p.d ≠ some a → H a = some (.lst xs) → H' a = some (.lst xs)
  tab : ∀ P, TabG H P → TabG H' P
  ext : ∀ a φ, H a = some (.ext φ) → H' a = some (.ext φ)
theorem Ext.refl {p : Pm} {H : Hp} : Ext p H H := ⟨fun _ _ h => h, fun _ _ _ h => h, fun _ _ _ h => h, fun _ h => h, fun _ _ h => h⟩
theorem Ext.trans {p : Pm} {H H1 H2 : Hp} (a : Ext p H H1) (b : Ext p H1 H2) : Ext p H H2 :=
  ⟨fun c xs h => b.tup c xs (a.tup c xs h), fun c o u h => b.frz c o u (a.frz c o u h), fun c xs n h => b.lst c xs n (a.lst c xs n h), fun P h => b.tab P (a.tab P h), fun c φ h => b.ext c φ (a.ext c φ h)⟩
theorem Ext.same {p : Pm} {H H' : Hp} (s : Same H H') : Ext p H H' := ⟨fun a xs h => s _ _ h, fun a o u h => s _ _ h, fun a xs _ h => s _ _ h, fun P ⟨ps, h, t⟩ => ⟨ps, s _ _ h, t⟩, fun a φ h => s _ _ h⟩
theorem same_new {H : Hp} {p : Addr} (h : H p = none) (o : HO) : Same H (upd H p o) := fun b u q => by rw [upd_ne (ne_of_none q h)]; exact q
theorem Ext.tabbed {p : Pm} {H H' : Hp} {P : Addr} (h : TabG H P) (t : Tabbed P H H') : Ext p H H' := by
  obtain ⟨ps, hP, _⟩ := h
  have ne : ∀ a u, H a = some u → (∀ q, u ≠ .tbl q) → a ≠ P := fun a u e q z => by rw [z, hP] at e; exact q ps (Option.some.inj e).symm
  refine ⟨fun a xs h => ?_, fun a o u h => ?_, fun a xs _ h => ?_, fun Q h => ?_, fun a φ h => ?_⟩
  · rw [t.2 a (ne a _ h fun q z => by cases z)]; exact h
  · rw [t.2 a (ne a _ h fun q z => by cases z)]; exact h
  · rw [t.2 a (ne a _ h fun q z => by cases z)]; exact h
  · by_cases e : Q = P
    · rw [e]; exact t.1
    · obtain ⟨qs, hq, ht⟩ := h
      exact ⟨qs, by rw [t.2 Q e]; exact hq, ht⟩
  · rw [t.2 a (ne a _ h fun q z => by cases z)]; exact h

theorem Ext.sqT {p : Pm} {H H' : Hp} (e : Ext p H H') {a : Addr} {xs : List V} (h : SqT p.K H a xs) : SqT p.K H' a xs := by
  rcases h with (h | ⟨o, h⟩) | h
  · exact .inl (.inl (e.tup _ _ h))
  · exact .inl (.inr ⟨o, e.frz _ _ _ h⟩)
  · exact .inr h
theorem Ext.sqF {p : Pm} {H H' : Hp} (e : Ext p H H') {a : Addr} {xs : List V} (h : SqF p H a xs) : SqF p H' a xs := by
  rcases h with ⟨h | ⟨o, h⟩, n⟩ | h
  · exact .inl ⟨.inl (e.lst _ _ n.1 h), n⟩
  · exact .inl ⟨.inr ⟨o, e.frz _ _ _ h⟩, n⟩
  · exact .inr h
mutual
theorem Rep.ext {p : Pm} {H H' : Hp} (e : Ext p H H') : ∀ {t : T} {v : V}, Rep p H t v → Rep p H' t v
  | .non, _, h => h
  | .bl _, _, h => h
  | .int _, _, h => h
  | .str _, _, h => h
  | .tup ts, _, h => by
    obtain ⟨a, vs, rfl, s, r⟩ := h
    exact ⟨a, vs, rfl, e.sqT s, Reps.ext e r⟩
  | .lst ts, _, h => by
    obtain ⟨a, vs, rfl, s, n, r⟩ := h
    exact ⟨a, vs, rfl, e.lst _ _ n.1 s, n, Reps.ext e r⟩
  | .fls ts, _, h => by
    obtain ⟨a, vs, rfl, s, r⟩ := h
    exact ⟨a, vs, rfl, e.sqF s, Reps.ext e r⟩
  | .ref, _, h => h
  | .exo C ns ts, _, h => by
    obtain ⟨c, a, d, vs, hc, rfl, s, n, r⟩ := h
    exact ⟨c, a, d, vs, hc, rfl, e.ext _ _ s, e.ext _ _ n, Reps.ext e r⟩
theorem Reps.ext {p : Pm} {H H' : Hp} (e : Ext p H H') : ∀ {ts : List T} {vs : List V}, Reps p H ts vs → Reps p H' ts vs
  | [], _, h => h
  | t :: ts, _, h => by
    obtain ⟨v, r, rfl, a, b⟩ := h
    exact ⟨v, r, rfl, Rep.ext e a, Reps.ext e b⟩
end
theorem Reps.length {p : Pm} {H : Hp} : ∀ {ts : List T} {vs : List V}, Reps p H ts vs → vs.length = ts.length
  | [], _, h => by rw [show _ = [] from h]; rfl
  | t :: ts, _, h => by
    obtain ⟨v, r, rfl, _, b⟩ := h
    rw [List.length_cons, List.length_cons, Reps.length b]
theorem Reps.get {p : Pm} {H : Hp} : ∀ {ts : List T} {vs : List V} {i : Nat} {t : T}, Reps p H ts vs → ts[i]? = some t → ∃ v, vs[i]? = some v ∧ Rep p H t v
  | [], _, _, _, _, e => by simp at e
  | t :: ts, _, 0, _, h, e => by
    obtain ⟨v, r, rfl, a, _⟩ := h
    simp at e
    subst e
    exact ⟨v, rfl, a⟩
  | t :: ts, _, i + 1, u, h, e => by
    obtain ⟨v, r, rfl, _, b⟩ := h
    obtain ⟨x, q1, q2⟩ := Reps.get (i := i) b (by simpa using e)
    exact ⟨x, by simpa using q1, q2⟩
theorem Reps.getV {p : Pm} {H : Hp} : ∀ {ts : List T} {vs : List V} {i : Nat} {v : V}, Reps p H ts vs → vs[i]? = some v → ∃ t, ts[i]? = some t ∧ Rep p H t v
  | [], _, i, _, h, e => by rw [show _ = [] from h] at e; simp at e
  | t :: ts, _, 0, _, h, e => by
    obtain ⟨v, r, rfl, a, _⟩ := h
    simp at e
    subst e
    exact ⟨t, rfl, a⟩
  | t :: ts, _, i + 1, u, h, e => by
    obtain ⟨v, r, rfl, _, b⟩ := h
    obtain ⟨x, q1, q2⟩ := Reps.getV (i := i) b (by simpa using e)
    exact ⟨x, by simpa using q1, q2⟩
theorem Reps.append {p : Pm} {H : Hp} : ∀ {ts us : List T} {vs ws : List V}, Reps p H ts vs → Reps p H us ws → Reps p H (ts ++ us) (vs ++ ws)
  | [], _, _, _, h, g => by rw [show _ = [] from h]; exact g
  | t :: ts, _, _, _, h, g => by
    obtain ⟨v, r, rfl, a, b⟩ := h
    exact ⟨v, r ++ _, rfl, a, Reps.append b g⟩
theorem Reps.drop {p : Pm} {H : Hp} : ∀ {ts : List T} {vs : List V} (n : Nat), Reps p H ts vs → Reps p H (ts.drop n) (vs.drop n)
  | _, _, 0, h => h
  | [], _, n + 1, h => by rw [show _ = [] from h]; rfl
  | t :: ts, _, n + 1, h => by
    obtain ⟨v, r, rfl, a, b⟩ := h
    exact Reps.drop n b
theorem Reps.take {p : Pm} {H : Hp} : ∀ {ts : List T} {vs : List V} (n : Nat), Reps p H ts vs → Reps p H (ts.take n) (vs.take n)
  | _, _, 0, h => rfl
  | [], _, n + 1, h => by rw [show _ = [] from h]; rfl
  | t :: ts, _, n + 1, h => by
    obtain ⟨v, r, rfl, a, b⟩ := h
    exact ⟨v, r.take n, rfl, a, Reps.take n b⟩
theorem Reps.set {p : Pm} {H : Hp} {t : T} {v : V} (hv : Rep p H t v) : ∀ {ts : List T} {vs : List V} (n : Nat), Reps p H ts vs → Reps p H (ts.set n t) (vs.set n v)
  | [], _, n, h => by rw [show _ = [] from h]; rfl
  | u :: ts, _, 0, h => by
    obtain ⟨w, r, rfl, a, b⟩ := h
    exact ⟨v, r, rfl, hv, b⟩
  | u :: ts, _, n + 1, h => by
    obtain ⟨w, r, rfl, a, b⟩ := h
    exact ⟨w, r.set n v, rfl, a, Reps.set hv n b⟩
theorem Reps.nil {p : Pm} {H : Hp} : Reps p H [] [] := rfl
theorem Reps.cons {p : Pm} {H : Hp} {t : T} {v : V} {ts : List T} {vs : List V} (a : Rep p H t v) (b : Reps p H ts vs) : Reps p H (t :: ts) (v :: vs) := ⟨v, vs, rfl, a, b⟩

/-- the list that changes: what it holds; the tables are there -/
def DrOk (p : Pm) (H : Hp) (dr : List T) : Prop := match p.d with
  | none => True
  | some a => ∃ vs, H a = some (.lst vs) ∧ Reps p H dr vs
def Ok (p : Pm) (H : Hp) (dr : List T) : Prop := DrOk p H dr ∧ (∀ P ∈ p.tabs, TabG H P) ∧ ∀ a ∈ p.ex, p.d ≠ some a ∧ ∃ xs, H a = some (.lst xs)
theorem DrOk.ext {p : Pm} {H H' : Hp} {dr : List T} (e : Ext p H H') (k : ∀ a xs, H a = some (.lst xs) → H' a = some (.lst xs)) (h : DrOk p H dr) : DrOk p H' dr := by
  unfold DrOk at h ⊢
  cases hd : p.d with
  | none => trivial
  | some a =>
    rw [hd] at h
    obtain ⟨vs, h1, h2⟩ := h
    exact ⟨vs, k _ _ h1, h2.ext e⟩
theorem Ok.same {p : Pm} {H H' : Hp} {dr : List T} (s : Same H H') (h : Ok p H dr) : Ok p H' dr :=
  ⟨h.1.ext (.same s) fun a xs q => s _ _ q, fun P hP => (Ext.same (p := p) s).tab P (h.2.1 P hP), fun a ha => ⟨(h.2.2 a ha).1, let ⟨xs, q⟩ := (h.2.2 a ha).2; ⟨xs, s _ _ q⟩⟩⟩
theorem Ok.tabbed {p : Pm} {H H' : Hp} {P : Addr} {dr : List T} (g : TabG H P) (t : Tabbed P H H') (h : Ok p H dr) : Ok p H' dr := by
  have e := Ext.tabbed (p := p) g t
  refine ⟨h.1.ext e fun a xs q => ?_, fun P hP => e.tab P (h.2.1 P hP), fun a ha => ⟨(h.2.2 a ha).1, let ⟨xs, q⟩ := (h.2.2 a ha).2; ⟨xs, e.lst _ _ (h.2.2 a ha).1 q⟩⟩⟩
  obtain ⟨ps, hP, _⟩ := g
  rw [t.2 a fun z => by rw [z, hP] at q; cases q]
  exact q

abbrev Env := List (Option T)
/-- the slots hold what the environment says -/
def RelS (p : Pm) (H : Hp) (σ : L2.St) (env : Env) : Prop := σ.length = env.length ∧ ∀ (i : Nat) (t : T), env[i]? = some (some t) → ∃ v, σ[i]? = some (some v) ∧ Rep p H t v
theorem RelS.ext {p : Pm} {H H' : Hp} {σ : L2.St} {env : Env} (e : Ext p H H') (h : RelS p H σ env) : RelS p H' σ env := ⟨h.1, fun i t q => let ⟨v, a, b⟩ := h.2 i t q; ⟨v, a, b.ext e⟩⟩
theorem RelS.set {p : Pm} {H : Hp} {σ : L2.St} {env : Env} {t : T} {v : V} (h : RelS p H σ env) (r : Rep p H t v) (i : Nat) : RelS p H (σ.set i (some v)) (env.set i (some t)) := by
  refine ⟨by rw [List.length_set, List.length_set]; exact h.1, fun j u q => ?_⟩
  by_cases e : i = j
  · subst e
    have hl : i < env.length := by
      have := (List.getElem?_eq_some_iff.mp q).1
      simpa using this
    rw [List.getElem?_set_self hl] at q
    cases q
    exact ⟨v, List.getElem?_set_self (by rw [h.1]; exact hl), r⟩
  · rw [List.getElem?_set_ne e] at q
    obtain ⟨w, a, b⟩ := h.2 j u q
    exact ⟨w, by rw [List.getElem?_set_ne e]; exact a, b⟩
def wipeE (env : Env) : List Nat → Env
  | [] => env
  | v :: vs => (wipeE env vs).set v none
theorem RelS.wipe {p : Pm} {H : Hp} {σ : L2.St} {env : Env} (h : RelS p H σ env) : ∀ vs : List Nat, RelS p H (wipe σ vs) (wipeE env vs)
  | [] => h
  | i :: vs => by
    have q := RelS.wipe h vs
    unfold L2.wipe wipeE
    refine ⟨by rw [List.length_set, List.length_set]; exact q.1, fun j u z => ?_⟩
    by_cases e : i = j
    · subst e
      have hl : i < (wipeE env vs).length := by
        have := (List.getElem?_eq_some_iff.mp z).1
        simpa using this
      rw [List.getElem?_set_self hl] at z
      cases z
    · rw [List.getElem?_set_ne e] at z
      obtain ⟨w, a, b⟩ := q.2 j u z
      exact ⟨w, by rw [List.getElem?_set_ne e]; exact a, b⟩

/-! ### readings -/
abbrev EF := Env → List T → Option (T × List T)
abbrev TF := Env → List T → Option (Bool × List T)
abbrev AF := Env → List T → Option (List T × List T)
def tE (p : Pm) (f : EF) : TE := fun σ H Q => ∃ env dr t dr', RelS p H σ env ∧ Ok p H dr ∧ f env dr = some (t, dr') ∧ ∀ v H', Ext p H H' → Rep p H' t v → Ok p H' dr' → Q v H'
def tT (p : Pm) (f : TF) : TT := fun σ H Q => ∃ env dr t dr', RelS p H σ env ∧ Ok p H dr ∧ f env dr = some (t, dr') ∧ ∀ H', Ext p H H' → Ok p H' dr' → Q t H'
def tA (p : Pm) (f : AF) : TA := fun σ H Q => ∃ env dr ts dr', RelS p H σ env ∧ Ok p H dr ∧ f env dr = some (ts, dr') ∧ ∀ vs H', Ext p H H' → Reps p H' ts vs → Ok p H' dr' → Q vs H'
abbrev SE (p : Pm) (X : Cx) (e : Expr) (f : EF) : Prop := PE X e (tE p f)
abbrev SB (p : Pm) (X : Cx) (e : Expr) (f : TF) : Prop := PT X e (tT p f)
abbrev SA (p : Pm) (X : Cx) (es : List Expr) (f : AF) : Prop := PA X es (tA p f)

section
variable {X : Cx} {e : Expr} {es : List Expr}
theorem pe_imp {t t' : TE} (h : PE X e t) (hi : ∀ σ H Q, t' σ H Q → t σ H Q) : PE X e t' := ⟨fun pins s σ H Q I q => h.run pins s σ H Q I (hi σ H Q q)⟩
theorem pt_imp {t t' : TT} (h : PT X e t) (hi : ∀ σ H Q, t' σ H Q → t σ H Q) : PT X e t' := ⟨fun pins s σ H Q I q => h.run pins s σ H Q I (hi σ H Q q)⟩
theorem pa_imp {t t' : TA} (h : PA X es t) (hi : ∀ σ H Q, t' σ H Q → t σ H Q) : PA X es t' := ⟨fun pos pins s σ H Q I q => h.run pos pins s σ H Q I (hi σ H Q q)⟩
end
end FL
set_option linter.all false
set_option maxRecDepth 100000
set_option maxHeartbeats 2000000
namespace FL
open PySem PySem.Spec PyProof.Rows L2 GxR GA
def lim : Nat := 1000000
theorem lim_ok {n : Nat} (h : n ≤ lim) : n ≤ sizeLine := Nat.le_trans h (by decide)

section
variable {p : Pm} {X : Cx} {a b c e : Expr} {es : List Expr} {pos : Pos} {f g h : EF} {u : TF} {l : AF}

/-! ### leaves -/
def eVar (i : Nat) : EF := fun env dr => match env[i]? with | some (some t) => some (t, dr) | _ => none
theorem se_var {i : Nat} (h : PE X a (tVar i)) : SE p X a (eVar i) := pe_imp h fun σ H Q ⟨env, dr, t, dr', hR, hO, hf, q⟩ => by
  unfold eVar at hf
  split at hf
  · rename_i u e
    cases hf
    obtain ⟨v, x, y⟩ := hR.2 _ _ e
    exact ⟨v, x, q v H .refl y hO⟩
  · cases hf
def eC (t : T) : EF := fun _ dr => some (t, dr)
/-- a constant: its value hangs on no heap -/
theorem se_c {t : T} {v : V} (h : PE X a (tC v)) (r : ∀ H, Rep p H t v) : SE p X a (eC t) := pe_imp h fun σ H Q ⟨env, dr, t', dr', hR, hO, hf, q⟩ => by
  cases hf
  exact q v H .refl (r H) hO
theorem se_int {i : Int} {j : Nat} : SE p X (.Constant (.int i) j pos) (eC (.int i)) := se_c pe_int fun _ => rfl
theorem se_bl {i : Bool} {j : Nat} : SE p X (.Constant (.bool i) j pos) (eC (.bl i)) := se_c pe_bl fun _ => rfl
theorem se_non {j : Nat} : SE p X (.Constant .none j pos) (eC .non) := se_c pe_non fun _ => rfl
theorem se_str {x : Str} {j : Nat} (cs : List Nat) (hx : x.cps.toList = cs) : SE p X (.Constant (.str x) j pos) (eC (.str cs)) := se_c pe_str fun _ => ⟨x, rfl, hx⟩

/-! ### arguments, tuples, lists -/
def aNil : AF := fun _ dr => some ([], dr)
def aCons (f : EF) (l : AF) : AF := fun env dr => match f env dr with
  | none => none
  | some (x, dr1) => match l env dr1 with
    | none => none
    | some (xs, dr2) => some (x :: xs, dr2)
theorem sa_nil : SA p X [] aNil := pa_imp pa_nil fun σ H Q ⟨env, dr, t', dr', hR, hO, hf, q⟩ => by
  cases hf
  exact q [] H .refl .nil hO
theorem sa_cons (ha : SE p X e f) (hl : SA p X es l) (hs : starEach (e :: es) X.env = (false, eval e X.env) :: starEach es X.env := by rfl) : SA p X (e :: es) (aCons f l) := pa_imp (pa_cons ha hl hs) fun σ H Q ⟨env, dr, t', dr', hR, hO, hf, q⟩ => by
  unfold aCons at hf
  cases h1 : f env dr with
  | none => rw [h1] at hf; cases hf
  | some z =>
    obtain ⟨x, dr1⟩ := z
    rw [h1] at hf
    dsimp only at hf
    cases h2 : l env dr1 with
    | none => rw [h2] at hf; cases hf
    | some z =>
      obtain ⟨xs, dr2⟩ := z
      rw [h2] at hf
      cases hf
      exact ⟨env, dr, x, dr1, hR, hO, h1, fun v H1 e1 r1 o1 => ⟨env, dr1, xs, _, hR.ext e1, o1, h2, fun vs H2 e2 r2 o2 => q _ _ (e1.trans e2) (.cons (r1.ext e2) r2) o2⟩⟩
def eTup (l : AF) : EF := fun env dr => match l env dr with
  | some (xs, dr1) => if xs.length ≤ lim then some (.tup xs, dr1) else none
  | none => none
def eLst (l : AF) : EF := fun env dr => match l env dr with
  | some (xs, dr1) => if xs.length ≤ lim then some (.lst xs, dr1) else none
  | none => none
theorem d_ne {H : Hp} {dr : List T} (hO : Ok p H dr) {q : Addr} (hq : H q = none) : Fre p q := by
  refine ⟨fun z => ?_, fun z => ?_⟩
  · have := hO.1
    unfold DrOk at this
    rw [z] at this
    obtain ⟨vs, h1, _⟩ := this
    rw [hq] at h1
    cases h1
  · obtain ⟨_, xs, h⟩ := hO.2.2 q z
    rw [hq] at h
    cases h
theorem rep_tup {H : Hp} {q : Addr} {ts : List T} {vs : List V} (r : Reps p H ts vs) (hq : H q = none) : Rep p (upd H q (.tup vs)) (.tup ts) (.ref q) :=
  ⟨q, vs, rfl, .inl (.inl upd_same), r.ext (.same (same_new hq _))⟩
theorem rep_lst {H : Hp} {q : Addr} {ts : List T} {vs : List V} (r : Reps p H ts vs) (hq : H q = none) (hd : Fre p q) : Rep p (upd H q (.lst vs)) (.lst ts) (.ref q) :=
  ⟨q, vs, rfl, upd_same, hd, r.ext (.same (same_new hq _))⟩
theorem se_tup {x1} (hl : SA p X es l) : SE p X (.Tuple es x1 pos) (eTup l) := pe_imp (pe_tup hl) fun σ H Q ⟨env, dr, t', dr', hR, hO, hf, q⟩ => by
  unfold eTup at hf
  cases h1 : l env dr with
  | none => rw [h1] at hf; cases hf
  | some z =>
    obtain ⟨xs, dr1⟩ := z
    rw [h1] at hf
    dsimp only at hf
    split at hf
    · rename_i hz
      cases hf
      exact ⟨env, dr, xs, _, hR, hO, h1, fun vs H1 e1 r1 o1 => ⟨by rw [r1.length]; exact lim_ok hz, fun a ha => q _ _ (e1.trans (.same (same_new ha _))) (rep_tup r1 ha) (o1.same (same_new ha _))⟩⟩
    · cases hf
theorem se_lst (hl : SA p X es l) : SE p X (.List es pos) (eLst l) := pe_imp (pe_lst hl) fun σ H Q ⟨env, dr, t', dr', hR, hO, hf, q⟩ => by
  unfold eLst at hf
  cases h1 : l env dr with
  | none => rw [h1] at hf; cases hf
  | some z =>
    obtain ⟨xs, dr1⟩ := z
    rw [h1] at hf
    dsimp only at hf
    split at hf
    · rename_i hz
      cases hf
      exact ⟨env, dr, xs, _, hR, hO, h1, fun vs H1 e1 r1 o1 => ⟨by rw [r1.length]; exact lim_ok hz, fun a ha => q _ _ (e1.trans (.same (same_new ha _))) (rep_lst r1 ha (d_ne o1 ha)) (o1.same (same_new ha _))⟩⟩
    · cases hf

/-! ### two-place operations -/
def NewD (p : Pm) (H : Hp) : Prop := ∀ q, H q = none → Fre p q
theorem Ok.new {H : Hp} {dr : List T} (hO : Ok p H dr) : NewD p H := fun q hq => d_ne hO hq
def OpT (p : Pm) (X : Cx) (o : Value → Value → Sem Value) (h : T → T → Option T) : Prop :=
  OpR X o fun x y H Q => ∃ a b t, Rep p H a x ∧ Rep p H b y ∧ NewD p H ∧ h a b = some t ∧ ∀ v H', Same H H' → Rep p H' t v → Q v H'
theorem opr_imp {o : Value → Value → Sem Value} {r r' : R2} (h : OpR X o r) (hi : ∀ x y H Q, r' x y H Q → r x y H Q) : OpR X o r' := fun pins s σ H x y v u Q I rx ry q => h pins s σ H x y v u Q I rx ry (hi _ _ _ _ q)
theorem OpT.or {o : Value → Value → Sem Value} {h h' : T → T → Option T} (a : OpT p X o h) (b : OpT p X o h') : OpT p X o (fun x y => match h x y with | some t => some t | none => h' x y) := by
  refine opr_imp (OpR.or a b) fun x y H Q ⟨c, d, t, r1, r2, nd, hf, q⟩ => ?_
  dsimp only at hf
  cases hh : h c d with
  | some z => rw [hh] at hf; exact .inl ⟨c, d, t, r1, r2, nd, by rw [hh]; exact hf, q⟩
  | none => rw [hh] at hf; exact .inr ⟨c, d, t, r1, r2, nd, hf, q⟩
def eBin (h : T → T → Option T) (f g : EF) : EF := fun env dr => match f env dr with
  | none => none
  | some (x, dr1) => match g env dr1 with
    | none => none
    | some (y, dr2) => match h x y with
      | none => none
      | some t => some (t, dr2)
theorem bin_in {h : T → T → Option T} {env : Env} {dr dr' : List T} {t : T} (hf : eBin h f g env dr = some (t, dr')) : ∃ x dr1 y, f env dr = some (x, dr1) ∧ g env dr1 = some (y, dr') ∧ h x y = some t := by
  unfold eBin at hf
  cases h1 : f env dr with
  | none => rw [h1] at hf; cases hf
  | some z =>
    obtain ⟨x, dr1⟩ := z
    rw [h1] at hf
    dsimp only at hf
    cases h2 : g env dr1 with
    | none => rw [h2] at hf; cases hf
    | some z =>
      obtain ⟨y, dr2⟩ := z
      rw [h2] at hf
      dsimp only at hf
      cases h3 : h x y with
      | none => rw [h3] at hf; cases hf
      | some t' =>
        rw [h3] at hf
        cases hf
        exact ⟨x, dr1, y, rfl, h2, h3⟩
theorem tOp_bin {h : T → T → Option T} : ∀ σ H Q, tE p (eBin h f g) σ H Q → tOp (fun x y H Q => ∃ a b t, Rep p H a x ∧ Rep p H b y ∧ NewD p H ∧ h a b = some t ∧ ∀ v H', Same H H' → Rep p H' t v → Q v H') (tE p f) (tE p g) σ H Q :=
  fun σ H Q ⟨env, dr, t, dr', hR, hO, hf, q⟩ => by
    obtain ⟨x, dr1, y, h1, h2, h3⟩ := bin_in hf
    exact ⟨env, dr, x, dr1, hR, hO, h1, fun v H1 e1 r1 o1 => ⟨env, dr1, y, dr', hR.ext e1, o1, h2, fun w H2 e2 r2 o2 => ⟨x, y, t, r1.ext e2, r2, o2.new, h3, fun u H3 s3 r3 => q u H3 (e1.trans (e2.trans (.same s3))) r3 (o2.same s3)⟩⟩⟩
theorem se_bin {op : Operator} {h : T → T → Option T} (ho : OpT p X (binaryOp op) h) (ha : SE p X a f) (hb : SE p X b g) : SE p X (.BinOp a op b pos) (eBin h f g) := pe_imp (pe_op ho ha hb) tOp_bin
theorem se_cmp {op : CmpOp} {h : T → T → Option T} (ho : OpT p X (compareOp op) h) (ha : SE p X a f) (hb : SE p X b g) (hm : behindInMarks op b = false := by first | exact nomark _ | rfl) : SE p X (.Compare a [op] [b] pos) (eBin h f g) := pe_imp (pe_cmpR ho ha hb hm) tOp_bin
/-- a value as a test -/
def tB (f : EF) : TF := fun env dr => match f env dr with
  | some (.bl b, dr1) => some (b, dr1)
  | _ => none
theorem tB_in {env : Env} {dr dr' : List T} {b : Bool} (hf : tB f env dr = some (b, dr')) : f env dr = some (.bl b, dr') := by
  unfold tB at hf
  split at hf
  · rename_i h; cases hf; exact h
  · cases hf
theorem sb_cmp {op : CmpOp} {h : T → T → Option T} (ho : OpT p X (compareOp op) h) (ha : SE p X a f) (hb : SE p X b g) (hm : behindInMarks op b = false := by first | exact nomark _ | rfl) : SB p X (.Compare a [op] [b] pos) (tB (eBin h f g)) :=
  pt_imp (pt_cmpR ho ha hb hm) fun σ H Q ⟨env, dr, t, dr', hR, hO, hf, q⟩ => tOp_bin σ H _ ⟨env, dr, .bl t, dr', hR, hO, tB_in hf, fun v H' e r o => ⟨t, r, q H' e o⟩⟩
theorem sb_val (ha : SE p X a f) (he : ∀ whole, isTrue a X.env whole = (do let v ← whole; standAt a.pos; holding [v] (truthy v)) := by intro _; rfl) : SB p X a (tB f) :=
  pt_imp (pt_val ha he) fun σ H Q ⟨env, dr, t, dr', hR, hO, hf, q⟩ => ⟨env, dr, .bl t, dr', hR, hO, tB_in hf, fun v H' e r o => ⟨t, r, q H' e o⟩⟩
def eChain (h h' : T → T → Option T) (f g k : EF) : EF := fun env dr => match f env dr with
  | none => none
  | some (x, dr1) => match g env dr1 with
    | none => none
    | some (y, dr2) => match h x y with
      | some (.bl true) => (match k env dr2 with
        | none => none
        | some (z, dr3) => match h' y z with
          | none => none
          | some t => some (t, dr3))
      | some (.bl false) => some (.bl false, dr2)
      | _ => none
theorem tChain_in {h h' : T → T → Option T} {k : EF} : ∀ σ H Q, tE p (eChain h h' f g k) σ H Q → tChain (fun x y H Q => ∃ a b t, Rep p H a x ∧ Rep p H b y ∧ NewD p H ∧ h a b = some t ∧ ∀ v H', Same H H' → Rep p H' t v → Q v H') (fun x y H Q => ∃ a b t, Rep p H a x ∧ Rep p H b y ∧ NewD p H ∧ h' a b = some t ∧ ∀ v H', Same H H' → Rep p H' t v → Q v H') (tE p f) (tE p g) (tE p k) σ H Q :=
  fun σ H Q ⟨env, dr, t, dr', hR, hO, hf, q⟩ => by
    unfold eChain at hf
    cases h1 : f env dr with
    | none => rw [h1] at hf; cases hf
    | some z =>
      obtain ⟨x, dr1⟩ := z
      rw [h1] at hf
      dsimp only at hf
      cases h2 : g env dr1 with
      | none => rw [h2] at hf; cases hf
      | some z =>
        obtain ⟨y, dr2⟩ := z
        rw [h2] at hf
        dsimp only at hf
        refine ⟨env, dr, x, dr1, hR, hO, h1, fun v H1 e1 r1 o1 => ⟨env, dr1, y, dr2, hR.ext e1, o1, h2, fun w H2 e2 r2 o2 => ?_⟩⟩
        cases h3 : h x y with
        | none => rw [h3] at hf; cases hf
        | some b =>
          rw [h3] at hf
          cases b with
          | bl b =>
            refine ⟨x, y, .bl b, r1.ext e2, r2, o2.new, h3, fun u H3 s3 r3 => ⟨b, r3, ?_⟩⟩
            cases b with
            | false =>
              cases hf
              exact q _ H3 (e1.trans (e2.trans (.same s3))) rfl (o2.same s3)
            | true =>
              dsimp only at hf
              cases h4 : k env dr2 with
              | none => rw [h4] at hf; cases hf
              | some z =>
                obtain ⟨z, dr3⟩ := z
                rw [h4] at hf
                dsimp only at hf
                cases h5 : h' y z with
                | none => rw [h5] at hf; cases hf
                | some t2 =>
                  rw [h5] at hf
                  cases hf
                  exact ⟨env, dr2, z, _, (hR.ext e1).ext (e2.trans (.same s3)), o2.same s3, h4, fun v4 H4 e4 r4 o4 => ⟨y, z, _, (r2.ext (.same s3)).ext e4, r4, o4.new, h5, fun v5 H5 s5 r5 => q _ _ (e1.trans (e2.trans ((Ext.same s3).trans (e4.trans (.same s5))))) r5 (o4.same s5)⟩⟩
          | _ => cases hf
theorem se_chain {o1 o2 : CmpOp} {h h' : T → T → Option T} {k : EF} (ho : OpT p X (compareOp o1) h) (ho' : OpT p X (compareOp o2) h') (ha : SE p X a f) (hb : SE p X b g) (hc : SE p X c k)
    (hm : lastMarks [o1, o2] [b, c] = false := by with_unfolding_all rfl) : SE p X (.Compare a [o1, o2] [b, c] pos) (eChain h h' f g k) := pe_imp (pe_chain ho ho' ha hb hc hm) tChain_in
theorem sb_chain {o1 o2 : CmpOp} {h h' : T → T → Option T} {k : EF} (ho : OpT p X (compareOp o1) h) (ho' : OpT p X (compareOp o2) h') (ha : SE p X a f) (hb : SE p X b g) (hc : SE p X c k)
    (hm : lastMarks [o1, o2] [b, c] = false := by with_unfolding_all rfl) : SB p X (.Compare a [o1, o2] [b, c] pos) (tB (eChain h h' f g k)) := pt_imp (pt_chain ho ho' ha hb hc hm) fun σ H Q ⟨env, dr, t, dr', hR, hO, hf, q⟩ => tChain_in σ H _ ⟨env, dr, .bl t, dr', hR, hO, tB_in hf, fun v H' e r o => ⟨t, r, q H' e o⟩⟩

/-! ### and, or, not, if -/
def eAnd (f g : EF) : EF := fun env dr => match f env dr with
  | some (.bl true, dr1) => g env dr1
  | some (.bl false, dr1) => some (.bl false, dr1)
  | _ => none
def eOr (f g : EF) : EF := fun env dr => match f env dr with
  | some (.bl false, dr1) => g env dr1
  | some (.bl true, dr1) => some (.bl true, dr1)
  | _ => none
def eNot (f : EF) : EF := fun env dr => match f env dr with
  | some (.bl b, dr1) => some (.bl (!b), dr1)
  | _ => none
theorem se_one {op} (ha : SE p X a f) : SE p X (.BoolOp op [a] pos) f := pe_one ha
theorem se_and {rest : List Expr} (ha : SE p X a f) (hb : SE p X (.BoolOp .And (b :: rest) pos) g) : SE p X (.BoolOp .And (a :: b :: rest) pos) (eAnd f g) := pe_imp (pe_and ha hb) fun σ H Q ⟨env, dr, t, dr', hR, hO, hf, q⟩ => by
  unfold eAnd at hf
  split at hf
  · rename_i dr1 h1
    exact ⟨env, dr, _, dr1, hR, hO, h1, fun v H1 e1 r1 o1 => ⟨true, r1, by rw [if_pos rfl]; exact ⟨env, dr1, t, dr', hR.ext e1, o1, hf, fun v2 H2 e2 r2 o2 => q _ _ (e1.trans e2) r2 o2⟩⟩⟩
  · rename_i dr1 h1
    cases hf
    exact ⟨env, dr, _, _, hR, hO, h1, fun v H1 e1 r1 o1 => ⟨false, r1, by rw [if_neg Bool.false_ne_true]; exact q _ _ e1 rfl o1⟩⟩
  · cases hf
theorem se_or {rest : List Expr} (ha : SE p X a f) (hb : SE p X (.BoolOp .Or (b :: rest) pos) g) : SE p X (.BoolOp .Or (a :: b :: rest) pos) (eOr f g) := pe_imp (pe_or ha hb) fun σ H Q ⟨env, dr, t, dr', hR, hO, hf, q⟩ => by
  unfold eOr at hf
  split at hf
  · rename_i dr1 h1
    exact ⟨env, dr, _, dr1, hR, hO, h1, fun v H1 e1 r1 o1 => ⟨false, r1, by rw [if_neg Bool.false_ne_true]; exact ⟨env, dr1, t, dr', hR.ext e1, o1, hf, fun v2 H2 e2 r2 o2 => q _ _ (e1.trans e2) r2 o2⟩⟩⟩
  · rename_i dr1 h1
    cases hf
    exact ⟨env, dr, _, _, hR, hO, h1, fun v H1 e1 r1 o1 => ⟨true, r1, by rw [if_pos rfl]; exact q _ _ e1 rfl o1⟩⟩
  · cases hf
theorem se_not (ha : SE p X a f) : SE p X (.UnaryOp .Not a pos) (eNot f) := pe_imp (pe_not ha) fun σ H Q ⟨env, dr, t, dr', hR, hO, hf, q⟩ => by
  unfold eNot at hf
  split at hf
  · rename_i b dr1 h1
    cases hf
    exact ⟨env, dr, _, _, hR, hO, h1, fun v H1 e1 r1 o1 => ⟨b, r1, q _ _ e1 rfl o1⟩⟩
  · cases hf
def bAnd (f g : TF) : TF := fun env dr => match f env dr with
  | some (true, dr1) => g env dr1
  | some (false, dr1) => some (false, dr1)
  | none => none
def bOr (f g : TF) : TF := fun env dr => match f env dr with
  | some (false, dr1) => g env dr1
  | some (true, dr1) => some (true, dr1)
  | none => none
def bNot (f : TF) : TF := fun env dr => match f env dr with
  | some (b, dr1) => some (!b, dr1)
  | none => none
abbrev SW (p : Pm) (X : Cx) (e : Expr) (f : TF) : Prop := PW X e (tT p f)
theorem pw_imp {t t' : TT} (h : PW X e t) (hi : ∀ σ H Q, t' σ H Q → t σ H Q) : PW X e t' := ⟨fun wh pins s σ H Q I q => h.run wh pins s σ H Q I (hi σ H Q q)⟩
theorem sw_and1 {f : TF} (ha : SB p X a f) : SW p X (.BoolOp .And [a] pos) f := pw_and1 ha
theorem sw_or1 {f : TF} (ha : SB p X a f) : SW p X (.BoolOp .Or [a] pos) f := pw_or1 ha
theorem sw_and {rest : List Expr} {f g : TF} (ha : SB p X a f) (hb : SW p X (.BoolOp .And (b :: rest) pos) g) : SW p X (.BoolOp .And (a :: b :: rest) pos) (bAnd f g) := pw_imp (pw_and ha hb) fun σ H Q ⟨env, dr, t, dr', hR, hO, hf, q⟩ => by
  unfold bAnd at hf
  split at hf
  · rename_i dr1 h1
    exact ⟨env, dr, _, dr1, hR, hO, h1, fun H1 e1 o1 => by refine iteT ?_; exact ⟨env, dr1, t, dr', hR.ext e1, o1, hf, fun H2 e2 o2 => q _ (e1.trans e2) o2⟩⟩
  · rename_i dr1 h1
    cases hf
    exact ⟨env, dr, _, _, hR, hO, h1, fun H1 e1 o1 => by refine iteF ?_; exact q _ e1 o1⟩
  · cases hf
theorem sw_or {rest : List Expr} {f g : TF} (ha : SB p X a f) (hb : SW p X (.BoolOp .Or (b :: rest) pos) g) : SW p X (.BoolOp .Or (a :: b :: rest) pos) (bOr f g) := pw_imp (pw_or ha hb) fun σ H Q ⟨env, dr, t, dr', hR, hO, hf, q⟩ => by
  unfold bOr at hf
  split at hf
  · rename_i dr1 h1
    exact ⟨env, dr, _, dr1, hR, hO, h1, fun H1 e1 o1 => by refine iteF ?_; exact ⟨env, dr1, t, dr', hR.ext e1, o1, hf, fun H2 e2 o2 => q _ (e1.trans e2) o2⟩⟩
  · rename_i dr1 h1
    cases hf
    exact ⟨env, dr, _, _, hR, hO, h1, fun H1 e1 o1 => by refine iteT ?_; exact q _ e1 o1⟩
  · cases hf
theorem sb_w {f : TF} (h : SW p X e f) : SB p X e f := PW.pt h
theorem sb_not {f : TF} (ha : SB p X a f) : SB p X (.UnaryOp .Not a pos) (bNot f) := pt_imp (pt_not ha) fun σ H Q ⟨env, dr, t, dr', hR, hO, hf, q⟩ => by
  unfold bNot at hf
  split at hf
  · rename_i b dr1 h1
    cases hf
    exact ⟨env, dr, _, _, hR, hO, h1, fun H1 e1 o1 => q _ e1 o1⟩
  · cases hf
def eIf (u : TF) (f g : EF) : EF := fun env dr => match u env dr with
  | some (true, dr1) => f env dr1
  | some (false, dr1) => g env dr1
  | none => none
theorem se_if (hu : SB p X c u) (ha : SE p X a f) (hb : SE p X b g) : SE p X (.IfExp c a b pos) (eIf u f g) := pe_imp (pe_ifExp hu ha hb) fun σ H Q ⟨env, dr, t, dr', hR, hO, hf, q⟩ => by
  unfold eIf at hf
  split at hf
  · rename_i dr1 h1
    exact ⟨env, dr, _, dr1, hR, hO, h1, fun H1 e1 o1 => by refine iteT ?_; exact ⟨env, dr1, t, dr', hR.ext e1, o1, hf, fun v H2 e2 r2 o2 => q _ _ (e1.trans e2) r2 o2⟩⟩
  · rename_i dr1 h1
    exact ⟨env, dr, _, dr1, hR, hO, h1, fun H1 e1 o1 => by refine iteF ?_; exact ⟨env, dr1, t, dr', hR.ext e1, o1, hf, fun v H2 e2 r2 o2 => q _ _ (e1.trans e2) r2 o2⟩⟩
  · cases hf
end
end FL
set_option linter.all false
set_option maxRecDepth 100000
set_option maxHeartbeats 2000000
namespace FL
open PySem PySem.Spec PyProof.Rows L2 GxR GA

theorem str_ext {x y : Str} (h : x.cps.toList = y.cps.toList) : x = y := by
  obtain ⟨a⟩ := x
  obtain ⟨b⟩ := y
  have : a = b := Array.ext' h
  rw [this]
theorem str_of {x : Str} {c : Nat} (h : x.cps.toList = [c]) : x = ⟨#[c]⟩ := str_ext h
theorem str_len (x : Str) : x.length = x.cps.toList.length := by
  show x.cps.size = _
  simp
theorem str_app (x y : Str) : (x ++ y).cps.toList = x.cps.toList ++ y.cps.toList := by
  show (x.cps ++ y.cps).toList = _
  simp

section
variable {p : Pm} {X : Cx} (hK : p.K = X.K)

/-! ### arithmetic -/
def addT : T → T → Option T
  | .int i, .int j => some (.int (i + j))
  | .str x, .str y => if x.length + y.length ≤ lim then some (.str (x ++ y)) else none
  | .lst x, .lst y => if x.length + y.length ≤ lim then some (.lst (x ++ y)) else none
  | .tup x, .tup y => if x.length + y.length ≤ lim then some (.tup (x ++ y)) else none
  | _, _ => none
def addI : T → T → Option T
  | .int i, .int j => some (.int (i + j))
  | _, _ => none
def addS : T → T → Option T
  | .str x, .str y => if x.length + y.length ≤ lim then some (.str (x ++ y)) else none
  | _, _ => none
def addL : T → T → Option T
  | .lst x, .lst y => if x.length + y.length ≤ lim then some (.lst (x ++ y)) else none
  | _, _ => none
def addU : T → T → Option T
  | .tup x, .tup y => if x.length + y.length ≤ lim then some (.tup (x ++ y)) else none
  | _, _ => none
theorem ot_imp {o : Value → Value → Sem Value} {h h' : T → T → Option T} (a : OpT p X o h) (i : ∀ x y t, h' x y = some t → h x y = some t) : OpT p X o h' :=
  opr_imp a fun x y H Q ⟨c, d, t, r1, r2, nd, hf, q⟩ => ⟨c, d, t, r1, r2, nd, i _ _ _ hf, q⟩
theorem ot_addI : OpT p X (binaryOp .Add) addI := opr_imp op_add fun x y H Q ⟨a, b, t, r1, r2, _, hf, q⟩ => by
  cases a <;> cases b <;> try (cases hf; done)
  cases hf
  exact ⟨_, _, r1, r2, q _ H (Same.refl H) rfl⟩
theorem ot_addS : OpT p X (binaryOp .Add) addS := opr_imp op_add_str fun x y H Q ⟨a, b, t, r1, r2, _, hf, q⟩ => by
  cases a <;> cases b <;> try (cases hf; done)
  obtain ⟨x, rfl, e1⟩ := r1
  obtain ⟨y, rfl, e2⟩ := r2
  unfold addS at hf
  dsimp only at hf
  split at hf
  · rename_i hz
    cases hf
    refine ⟨x, y, rfl, rfl, lim_ok (by rw [str_len, str_len, e1, e2]; exact hz), q _ H (Same.refl H) ⟨_, rfl, ?_⟩⟩
    rw [str_app, e1, e2]
  · cases hf
theorem ot_addL : OpT p X (binaryOp .Add) addL := opr_imp op_cat fun x y H Q ⟨a, b, t, r1, r2, nd, hf, q⟩ => by
  cases a <;> cases b <;> try (cases hf; done)
  obtain ⟨a1, v1, rfl, h1, n1, s1⟩ := r1
  obtain ⟨a2, v2, rfl, h2, n2, s2⟩ := r2
  unfold addL at hf
  dsimp only at hf
  split at hf
  · rename_i hz
    cases hf
    exact ⟨a1, a2, v1, v2, rfl, rfl, h1, h2, lim_ok (by rw [s1.length, s2.length]; exact hz), fun b hb => q _ _ (same_new hb _) (rep_lst (s1.append s2) hb (nd b hb))⟩
  · cases hf
include hK in
theorem ot_addU : OpT p X (binaryOp .Add) addU := opr_imp op_catA fun x y H Q ⟨a, b, t, r1, r2, nd, hf, q⟩ => by
  cases a <;> cases b <;> try (cases hf; done)
  obtain ⟨a1, v1, rfl, h1, s1⟩ := r1
  obtain ⟨a2, v2, rfl, h2, s2⟩ := r2
  unfold addU at hf
  dsimp only at hf
  split at hf
  · rename_i hz
    cases hf
    refine ⟨a1, a2, v1, v2, rfl, rfl, hK ▸ h1, hK ▸ h2, lim_ok (by rw [s1.length, s2.length]; exact hz), fun e => ?_, fun e1 e2 => ?_, fun e1 e2 b hb => q _ _ (same_new hb _) (rep_tup (s1.append s2) hb)⟩
    · subst e
      have z := s1.length
      refine q _ H (Same.refl H) ⟨a2, v2, rfl, h2, ?_⟩
      rw [List.length_eq_zero_iff.mp z.symm]
      exact s2
    · subst e2
      have z := s2.length
      refine q _ H (Same.refl H) ⟨a1, v1, rfl, h1, ?_⟩
      rw [List.length_eq_zero_iff.mp z.symm, List.append_nil]
      exact s1
  · cases hf
include hK in
theorem ot_add : OpT p X (binaryOp .Add) addT := ot_imp (OpT.or ot_addI (OpT.or ot_addS (OpT.or ot_addL (ot_addU hK)))) fun x y t h => by
  cases x <;> cases y <;> try (cases h; done)
  · exact h
  · unfold addT at h
    dsimp only at h ⊢
    unfold addI addS
    dsimp only
    rw [h]
  · unfold addT at h
    dsimp only at h ⊢
    unfold addI addS addL addU
    dsimp only
    rw [h]
  · unfold addT at h
    dsimp only at h ⊢
    unfold addI addS addL
    dsimp only
    rw [h]
def subT : T → T → Option T
  | .int i, .int j => some (.int (i - j))
  | _, _ => none
theorem ot_sub : OpT p X (binaryOp .Sub) subT := opr_imp op_sub fun x y H Q ⟨a, b, t, r1, r2, _, hf, q⟩ => by
  cases a <;> cases b <;> try (cases hf; done)
  cases hf
  exact ⟨_, _, r1, r2, q _ H (Same.refl H) rfl⟩
def modT : T → T → Option T
  | .int i, .int j => if 0 < j then some (.int (i % j)) else none
  | _, _ => none
theorem ot_mod : OpT p X (binaryOp .Mod) modT := opr_imp op_mod fun x y H Q ⟨a, b, t, r1, r2, _, hf, q⟩ => by
  cases a <;> cases b <;> try (cases hf; done)
  unfold modT at hf
  dsimp only at hf
  split at hf
  · rename_i hz
    cases hf
    exact ⟨_, _, r1, r2, hz, q _ H (Same.refl H) rfl⟩
  · cases hf
def divT : T → T → Option T
  | .int i, .int j => if 0 < j ∧ j.natAbs.log2 < 9000 then some (.int (i / j)) else none
  | _, _ => none
theorem ot_div : OpT p X (binaryOp .FloorDiv) divT := opr_imp op_fdivW fun x y H Q ⟨a, b, t, r1, r2, _, hf, q⟩ => by
  cases a <;> cases b <;> try (cases hf; done)
  unfold divT at hf
  dsimp only at hf
  split at hf
  · rename_i hz
    cases hf
    exact ⟨_, _, r1, r2, hz, q _ H (Same.refl H) rfl⟩
  · cases hf
def powT : T → T → Option T
  | .int i, .int j => if 0 ≤ j ∧ j ≤ 1000 ∧ i.natAbs < 2 ^ 64 then some (.int (i ^ j.toNat)) else none
  | _, _ => none
theorem ot_pow : OpT p X (binaryOp .Pow) powT := opr_imp op_pow fun x y H Q ⟨a, b, t, r1, r2, _, hf, q⟩ => by
  cases a <;> cases b <;> try (cases hf; done)
  unfold powT at hf
  dsimp only at hf
  split at hf
  · rename_i hz
    cases hf
    exact ⟨_, _, r1, r2, ⟨hz.1, by omega, hz.2.2⟩, q _ H (Same.refl H) rfl⟩
  · cases hf
def repL (n : Nat) (xs : List α) : List α := (List.replicate n xs).flatten
def mulI : T → T → Option T
  | .int i, .int j => if i.natAbs.log2 + j.natAbs.log2 < 1000000 then some (.int (i * j)) else none
  | _, _ => none
def mulU : T → T → Option T
  | .tup x, .int k => if x ≠ [] ∧ 2 ≤ k ∧ k ≤ 1000 ∧ x.length ≤ 1000 then some (.tup (repL k.toNat x)) else none
  | _, _ => none
def mulS : T → T → Option T
  | .str x, .int k => if x.length ≤ 1000 ∧ k ≤ 1000 ∧ -1000 ≤ k then some (.str (repL k.toNat x)) else none
  | _, _ => none
instance (x : List T) : Decidable (x ≠ []) := by cases x <;> first | exact isFalse (fun h => h rfl) | exact isTrue (fun h => nomatch h)
theorem ot_mulI : OpT p X (binaryOp .Mult) mulI := opr_imp op_mulW fun x y H Q ⟨a, b, t, r1, r2, _, hf, q⟩ => by
  cases a <;> cases b <;> try (cases hf; done)
  unfold mulI at hf
  dsimp only at hf
  split at hf
  · rename_i hz
    cases hf
    exact ⟨_, _, r1, r2, hz, q _ H (Same.refl H) rfl⟩
  · cases hf
theorem Reps.rep {H : Hp} {ts : List T} {vs : List V} (r : Reps p H ts vs) : ∀ n : Nat, Reps p H (repL n ts) (repL n vs)
  | 0 => rfl
  | n + 1 => by
    unfold repL
    rw [List.replicate_succ, List.flatten_cons, List.replicate_succ, List.flatten_cons]
    exact r.append (Reps.rep r n)
include hK in
theorem ot_mulU : OpT p X (binaryOp .Mult) mulU := opr_imp op_repT fun x y H Q ⟨a, b, t, r1, r2, nd, hf, q⟩ => by
  cases a <;> cases b <;> try (cases hf; done)
  obtain ⟨a1, v1, rfl, h1, s1⟩ := r1
  unfold mulU at hf
  dsimp only at hf
  split at hf
  · rename_i hz
    cases hf
    obtain ⟨z1, z2, z3, z4⟩ := hz
    refine ⟨a1, _, v1, rfl, r2, hK ▸ h1, fun e => ?_, z2, z3, by rw [s1.length]; exact z4, fun b hb => q _ _ (same_new hb _) (rep_tup (s1.rep _) hb)⟩
    have := s1.length
    rw [e] at this
    exact z1 (List.length_eq_zero_iff.mp this.symm)
  · cases hf
theorem rep_txt (x : Str) : ∀ (n : Nat) (acc : Array Nat), ((List.replicate n x.cps).foldl (· ++ ·) acc).toList = acc.toList ++ repL n x.cps.toList
  | 0, acc => by simp [repL]
  | n + 1, acc => by
    rw [List.replicate_succ, List.foldl_cons, rep_txt x n]
    unfold repL
    rw [List.replicate_succ, List.flatten_cons]
    simp
theorem mul_txt (x : Str) (k : Int) : (Txt.mul x k).cps.toList = repL k.toNat x.cps.toList := by
  unfold Txt.mul
  by_cases h : k < 1
  · rw [if_pos h]
    have : k.toNat = 0 := by omega
    rw [this]
    rfl
  · rw [if_neg h]
    by_cases h2 : (k == 1 || x.length == 0) = true
    · rw [if_pos h2]
      simp only [Bool.or_eq_true, beq_iff_eq] at h2
      rcases h2 with h2 | h2
      · subst h2
        simp [repL]
      · have e : x.cps.toList = [] := List.length_eq_zero_iff.mp (by rw [← str_len]; exact h2)
        rw [e]
        unfold repL
        simp
    · rw [if_neg h2]
      have := rep_txt x k.toNat #[]
      simpa using this
theorem ot_mulS : OpT p X (binaryOp .Mult) mulS := by
  intro pins s σ H x y v u Q I rx ry ⟨a, b, t, r1, r2, nd, hf, q⟩
  cases a <;> cases b <;> try (cases hf; done)
  obtain ⟨x, rfl, e1⟩ := r1
  have r2 : y = _ := r2
  subst r2
  obtain ⟨t1, rfl⟩ := rx
  obtain ⟨t2, rfl⟩ := ry
  unfold mulS at hf
  dsimp only at hf
  split at hf
  · rename_i hz
    cases hf
    obtain ⟨z1, z2, z3⟩ := hz
    rename_i k
    have hx : x.length ≤ 1000 := by rw [str_len, e1]; exact z1
    refine SB.mul ⟨?_, fun h1 h2 => ?_, fun h1 h2 => ?_⟩ fun t' kk => ?_
    · simp only [Bool.or_eq_false_iff, decide_eq_false_iff_not]
      omega
    · have h3 : (x.length : Int) * k ≤ 1000 * 1000 := Int.mul_le_mul (by omega) (by omega) (by omega) (by omega)
      have h4 : (x.length : Int) ≤ (2 ^ 63 - 1) / k := Int.le_ediv_of_mul_le (by omega) (by omega)
      omega
    · have h3 : x.length * k.toNat ≤ 1000 * 1000 := Nat.mul_le_mul hx (by omega)
      show decide (_ > sizeLine) = false
      rw [decide_eq_false_iff_not, Nat.not_lt]
      exact Nat.le_trans h3 (by decide)
    · exact ⟨.str _, H, I.tok _, ⟨_, rfl⟩, q _ H (Same.refl H) ⟨_, rfl, by rw [mul_txt, e1]⟩⟩
  · cases hf
def mulT (x y : T) : Option T := match mulI x y with
  | some t => some t
  | none => match mulU x y with
    | some t => some t
    | none => mulS x y
include hK in
theorem ot_mul : OpT p X (binaryOp .Mult) mulT := OpT.or ot_mulI (OpT.or (ot_mulU hK) ot_mulS)
end
end FL
set_option linter.all false
set_option maxRecDepth 100000
set_option maxHeartbeats 2000000
namespace FL
open PySem PySem.Spec PyProof.Rows L2 GxR GA

section
variable {p : Pm} {X : Cx} (hK : p.K = X.K)

/-! ### comparisons -/
/-- == of scalars, where the rule answers -/
def eqT : T → T → Option Bool
  | .non, .non => some true
  | .non, .int _ => some false
  | .int _, .non => some false
  | .non, .bl _ => some false
  | .bl _, .non => some false
  | .non, .str _ => some false
  | .str _, .non => some false
  | .int i, .int j => some (decide (i = j))
  | .bl i, .bl j => some (decide (i = j))
  | .str i, .str j => some (decide (i = j))
  | .int _, .str _ => some false
  | .str _, .int _ => some false
  | .bl _, .str _ => some false
  | .str _, .bl _ => some false
  | _, _ => none
def cEq (x y : T) : Option T := (eqT x y).map .bl
def cNe (x y : T) : Option T := (eqT x y).map fun b => .bl (!b)
theorem eqT_ok {H : Hp} {a b : T} {x y : V} {c : Bool} (r1 : Rep p H a x) (r2 : Rep p H b y) (h : eqT a b = some c) : scal x y = true ∧ decide (x = y) = c := by
  cases a <;> cases b <;> try (cases h; done)
  all_goals cases h
  all_goals first
    | (have r1 : x = _ := r1; have r2 : y = _ := r2; subst r1; subst r2; refine ⟨rfl, ?_⟩; simp; done)
    | (obtain ⟨x', e1, _⟩ := r1; have r2 : y = _ := r2; subst e1; subst r2; exact ⟨rfl, by simp⟩)
    | (obtain ⟨y', e1, _⟩ := r2; have r1 : x = _ := r1; subst e1; subst r1; exact ⟨rfl, by simp⟩)
    | (obtain ⟨x', e1, h1⟩ := r1
       obtain ⟨y', e2, h2⟩ := r2
       subst e1; subst e2; subst h1; subst h2
       refine ⟨rfl, ?_⟩
       rw [Bool.eq_iff_iff, decide_eq_true_iff, decide_eq_true_iff]
       exact ⟨fun z => by cases z; rfl, fun z => by rw [str_ext z]⟩)
theorem ot_eq : OpT p X (compareOp .Eq) cEq := opr_imp op_eq fun x y H Q ⟨a, b, t, r1, r2, _, hf, q⟩ => by
  unfold cEq at hf
  cases h : eqT a b with
  | none => rw [h] at hf; cases hf
  | some c =>
    rw [h] at hf
    cases hf
    obtain ⟨s, e⟩ := eqT_ok r1 r2 h
    exact ⟨s, q _ H (Same.refl H) (by rw [e]; rfl)⟩
theorem ot_ne : OpT p X (compareOp .NotEq) cNe := opr_imp op_ne fun x y H Q ⟨a, b, t, r1, r2, _, hf, q⟩ => by
  unfold cNe at hf
  cases h : eqT a b with
  | none => rw [h] at hf; cases hf
  | some c =>
    rw [h] at hf
    cases hf
    obtain ⟨s, e⟩ := eqT_ok r1 r2 h
    exact ⟨s, q _ H (Same.refl H) (by rw [e]; rfl)⟩
def cLe : T → T → Option T
  | .int i, .int j => some (.bl (decide (i ≤ j)))
  | _, _ => none
def cGe : T → T → Option T
  | .int i, .int j => some (.bl (decide (j ≤ i)))
  | _, _ => none
def cGt : T → T → Option T
  | .int i, .int j => some (.bl (decide (j < i)))
  | _, _ => none
def cLtI : T → T → Option T
  | .int i, .int j => some (.bl (decide (i < j)))
  | _, _ => none
def cLtS : T → T → Option T
  | .str i, .str j => some (.bl (decide (i < j)))
  | _, _ => none
theorem ot_le : OpT p X (compareOp .LtE) cLe := opr_imp op_le fun x y H Q ⟨a, b, t, r1, r2, _, hf, q⟩ => by
  cases a <;> cases b <;> try (cases hf; done)
  cases hf
  exact ⟨_, _, r1, r2, q _ H (Same.refl H) rfl⟩
theorem ot_ge : OpT p X (compareOp .GtE) cGe := opr_imp op_ge fun x y H Q ⟨a, b, t, r1, r2, _, hf, q⟩ => by
  cases a <;> cases b <;> try (cases hf; done)
  cases hf
  exact ⟨_, _, r1, r2, q _ H (Same.refl H) rfl⟩
theorem ot_gt : OpT p X (compareOp .Gt) cGt := opr_imp op_gt fun x y H Q ⟨a, b, t, r1, r2, _, hf, q⟩ => by
  cases a <;> cases b <;> try (cases hf; done)
  cases hf
  exact ⟨_, _, r1, r2, q _ H (Same.refl H) rfl⟩
theorem ot_ltI : OpT p X (compareOp .Lt) cLtI := opr_imp op_lt fun x y H Q ⟨a, b, t, r1, r2, _, hf, q⟩ => by
  cases a <;> cases b <;> try (cases hf; done)
  cases hf
  exact ⟨_, _, r1, r2, q _ H (Same.refl H) rfl⟩
theorem ot_ltS : OpT p X (compareOp .Lt) cLtS := opr_imp op_lt_str fun x y H Q ⟨a, b, t, r1, r2, _, hf, q⟩ => by
  cases a <;> cases b <;> try (cases hf; done)
  cases hf
  obtain ⟨x, rfl, e1⟩ := r1
  obtain ⟨y, rfl, e2⟩ := r2
  subst e1
  subst e2
  exact ⟨_, _, rfl, rfl, q _ H (Same.refl H) rfl⟩
def cLt (x y : T) : Option T := match cLtI x y with
  | some t => some t
  | none => cLtS x y
theorem ot_lt : OpT p X (compareOp .Lt) cLt := OpT.or ot_ltI ot_ltS
def cIs : T → T → Option T
  | .non, .non => some (.bl true)
  | _, .non => some (.bl false)
  | _, _ => none
def cIsNot : T → T → Option T
  | .non, .non => some (.bl false)
  | _, .non => some (.bl true)
  | _, _ => none
def isNon : T → Bool
  | .non => true
  | _ => false
theorem isN {H : Hp} {a : T} {x : V} (r : Rep p H a x) : decide (x = .non) = isNon a := by
  cases a with
  | non => rw [show x = _ from r]; rfl
  | bl b => rw [show x = _ from r]; rfl
  | int b => rw [show x = _ from r]; rfl
  | str b => obtain ⟨z, rfl, _⟩ := r; rfl
  | tup b => obtain ⟨z, _, rfl, _⟩ := r; rfl
  | lst b => obtain ⟨z, _, rfl, _⟩ := r; rfl
  | fls b => obtain ⟨z, _, rfl, _⟩ := r; rfl
  | ref => obtain ⟨z, _, rfl⟩ := r; rfl
  | exo C b c => obtain ⟨_, z, _, _, _, rfl, _⟩ := r; rfl
theorem ot_is : OpT p X (compareOp .Is) cIs := opr_imp op_isN fun x y H Q ⟨a, b, t, r1, r2, _, hf, q⟩ => by
  cases b <;> try (cases a <;> cases hf; done)
  refine ⟨r2, ?_⟩
  rw [isN r1]
  cases a <;> cases hf <;> exact q _ H (Same.refl H) rfl
theorem ot_isNot : OpT p X (compareOp .IsNot) cIsNot := opr_imp op_notN fun x y H Q ⟨a, b, t, r1, r2, _, hf, q⟩ => by
  cases b <;> try (cases a <;> cases hf; done)
  refine ⟨r2, ?_⟩
  rw [isN r1]
  cases a <;> cases hf <;> exact q _ H (Same.refl H) rfl
/-- one sign in a text -/
def cInS : T → T → Option T
  | .str [c], .str cs => some (.bl (decide (c ∈ cs)))
  | _, _ => none
def cNinS : T → T → Option T
  | .str [c], .str cs => some (.bl (!decide (c ∈ cs)))
  | _, _ => none
theorem inS_in {h : T → T → Option T} {a b : T} {t : T} {k : Bool → Bool} (hh : h = fun x y => match x, y with | .str [c], .str cs => some (.bl (k (decide (c ∈ cs)))) | _, _ => none) (hf : h a b = some t) : ∃ c cs, a = .str [c] ∧ b = .str cs ∧ t = .bl (k (decide (c ∈ cs))) := by
  subst hh
  dsimp only at hf
  split at hf
  · cases hf
    exact ⟨_, _, rfl, rfl, rfl⟩
  · cases hf
theorem ot_inS : OpT p X (compareOp .In) cInS := opr_imp op_in_sign fun x y H Q ⟨a, b, t, r1, r2, _, hf, q⟩ => by
  obtain ⟨c, cs, rfl, rfl, rfl⟩ := inS_in (k := fun b => b) rfl hf
  obtain ⟨x, rfl, e1⟩ := r1
  obtain ⟨y, rfl, e2⟩ := r2
  refine ⟨c, y, by rw [str_of e1], rfl, ?_⟩
  rw [e2]
  exact q _ H (Same.refl H) rfl
theorem ot_ninS : OpT p X (compareOp .NotIn) cNinS := opr_imp op_notIn_sign fun x y H Q ⟨a, b, t, r1, r2, _, hf, q⟩ => by
  obtain ⟨c, cs, rfl, rfl, rfl⟩ := inS_in (k := fun b => !b) rfl hf
  obtain ⟨x, rfl, e1⟩ := r1
  obtain ⟨y, rfl, e2⟩ := r2
  refine ⟨c, y, by rw [str_of e1], rfl, ?_⟩
  rw [e2]
  exact q _ H (Same.refl H) rfl
def flatT : T → Bool
  | .non => true
  | .bl _ => true
  | .int _ => true
  | .str _ => true
  | _ => false
def eqF : T → T → Bool
  | .non, .non => true
  | .bl a, .bl b => a == b
  | .bl a, .int b => (if a then 1 else 0) == b
  | .int a, .bl b => a == (if b then 1 else 0)
  | .int a, .int b => a == b
  | .str a, .str b => a == b
  | _, _ => false
theorem flat_ok {H : Hp} {a : T} {x : V} (r : Rep p H a x) (f : flatT a = true) : flatV x = true := by
  cases a with
  | non => rw [show x = _ from r]; rfl
  | bl b => rw [show x = _ from r]; rfl
  | int b => rw [show x = _ from r]; rfl
  | str b => obtain ⟨z, rfl, _⟩ := r; rfl
  | tup b => cases f
  | lst b => cases f
  | fls b => cases f
  | ref => cases f
  | exo C b c => cases f
theorem eqF_ok {H : Hp} {a b : T} {x y : V} (r1 : Rep p H a x) (r2 : Rep p H b y) (f1 : flatT a = true) (f2 : flatT b = true) : eqV x y = eqF a b := by
  cases a <;> cases b <;> try (cases f1; done)
  all_goals try (cases f2; done)
  all_goals first
    | (have r1 : x = _ := r1; have r2 : y = _ := r2; subst r1; subst r2; rfl)
    | (obtain ⟨x', e1, _⟩ := r1; have r2 : y = _ := r2; subst e1; subst r2; rfl)
    | (obtain ⟨y', e1, _⟩ := r2; have r1 : x = _ := r1; subst e1; subst r1; rfl)
    | (obtain ⟨x', e1, h1⟩ := r1
       obtain ⟨y', e2, h2⟩ := r2
       subst e1; subst e2; subst h1; subst h2
       show (x' == y') = (x'.cps.toList == y'.cps.toList)
       rw [Bool.eq_iff_iff, beq_iff_eq, beq_iff_eq]
       exact ⟨fun z => by rw [z], str_ext⟩)
theorem in_ok {H : Hp} {a : T} {x : V} (r : Rep p H a x) (f : flatT a = true) : ∀ {ts : List T} {vs : List V}, Reps p H ts vs → ts.all flatT = true → vs.all flatV = true ∧ inV x vs = ts.any fun t => eqF t a
  | [], _, h, _ => by rw [show _ = [] from h]; exact ⟨rfl, rfl⟩
  | t :: ts, _, h, g => by
    obtain ⟨v, w, rfl, h1, h2⟩ := h
    rw [List.all_cons, Bool.and_eq_true] at g
    obtain ⟨i1, i2⟩ := in_ok r f h2 g.2
    refine ⟨by rw [List.all_cons, flat_ok h1 g.1, i1]; rfl, ?_⟩
    unfold inV at i2 ⊢
    rw [List.any_cons, List.any_cons, i2, eqF_ok h1 r g.1 f]
def cInQ (neg : Bool) (x : T) : T → Option T
  | .tup ts => if flatT x = true ∧ ts.all flatT = true then some (.bl (if neg then !(ts.any fun t => eqF t x) else ts.any fun t => eqF t x)) else none
  | .lst ts => if flatT x = true ∧ ts.all flatT = true then some (.bl (if neg then !(ts.any fun t => eqF t x) else ts.any fun t => eqF t x)) else none
  | _ => none
include hK in
theorem ot_inQ' (neg : Bool) {o : CmpOp} (ho : OpR X (compareOp o) (rIn X.K neg)) : OpT p X (compareOp o) (cInQ neg) := opr_imp ho fun x y H Q ⟨a, b, t, r1, r2, _, hf, q⟩ => by
  cases b with
  | tup ts =>
    unfold cInQ at hf
    dsimp only at hf
    split at hf
    · rename_i hz
      cases hf
      obtain ⟨c, vs, rfl, h1, s1⟩ := r2
      obtain ⟨i1, i2⟩ := in_ok r1 hz.1 s1 hz.2
      refine ⟨c, vs, rfl, .inr (hK ▸ h1), flat_ok r1 hz.1, i1, ?_⟩
      rw [i2]
      exact q _ H (Same.refl H) rfl
    · cases hf
  | lst ts =>
    unfold cInQ at hf
    dsimp only at hf
    split at hf
    · rename_i hz
      cases hf
      obtain ⟨c, vs, rfl, h1, n1, s1⟩ := r2
      obtain ⟨i1, i2⟩ := in_ok r1 hz.1 s1 hz.2
      refine ⟨c, vs, rfl, .inl (.inl (.inl h1)), flat_ok r1 hz.1, i1, ?_⟩
      rw [i2]
      exact q _ H (Same.refl H) rfl
    · cases hf
  | _ => cases hf
def cIn (x y : T) : Option T := match cInS x y with
  | some t => some t
  | none => cInQ false x y
def cNin (x y : T) : Option T := match cNinS x y with
  | some t => some t
  | none => cInQ true x y
include hK in
theorem ot_in : OpT p X (compareOp .In) cIn := OpT.or ot_inS (ot_inQ' hK false op_in_seq)
include hK in
theorem ot_nin : OpT p X (compareOp .NotIn) cNin := OpT.or ot_ninS (ot_inQ' hK true op_notIn_seq)
end
end FL
set_option linter.all false
set_option maxRecDepth 100000
set_option maxHeartbeats 2000000
namespace FL
open PySem PySem.Spec PyProof.Rows L2 GxR GA

section
variable {p : Pm} {X : Cx} (hK : p.K = X.K)

/-! ### built-ins by name -/
def CaT (p : Pm) (X : Cx) (f : Value) (h : List T → Option T) : Prop :=
  CallR X f fun xs H Q => ∃ ts t, Reps p H ts xs ∧ NewD p H ∧ h ts = some t ∧ ∀ v H', Same H H' → Rep p H' t v → Q v H'
theorem cr_imp {f : Value} {r r' : List V → Hp → VK → Prop} (h : CallR X f r) (i : ∀ xs H Q, r' xs H Q → r xs H Q) : CallR X f r' := fun pins s σ H xs us Q I rv q => h pins s σ H xs us Q I rv (i _ _ _ q)
theorem CaT.or {f : Value} {h h' : List T → Option T} (a : CaT p X f h) (b : CaT p X f h') : CaT p X f (fun ts => match h ts with | some t => some t | none => h' ts) := by
  intro pins s σ H xs us Q I rv ⟨ts, t, r, nd, hf, q⟩
  dsimp only at hf
  cases hh : h ts with
  | some z => rw [hh] at hf; exact a pins s σ H xs us Q I rv ⟨ts, t, r, nd, by rw [hh]; exact hf, q⟩
  | none => rw [hh] at hf; exact b pins s σ H xs us Q I rv ⟨ts, t, r, nd, hf, q⟩
def eB (h : List T → Option T) (l : AF) : EF := fun env dr => match l env dr with
  | none => none
  | some (ts, dr1) => match h ts with
    | none => none
    | some t => some (t, dr1)
theorem tB_call {h : List T → Option T} {l : AF} : ∀ σ H Q, tE p (eB h l) σ H Q → tCB (fun xs H Q => ∃ ts t, Reps p H ts xs ∧ NewD p H ∧ h ts = some t ∧ ∀ v H', Same H H' → Rep p H' t v → Q v H') (tA p l) σ H Q :=
  fun σ H Q ⟨env, dr, t, dr', hR, hO, hf, q⟩ => by
    unfold eB at hf
    cases h1 : l env dr with
    | none => rw [h1] at hf; cases hf
    | some z =>
      obtain ⟨ts, dr1⟩ := z
      rw [h1] at hf
      dsimp only at hf
      cases h2 : h ts with
      | none => rw [h2] at hf; cases hf
      | some t' =>
        rw [h2] at hf
        cases hf
        exact ⟨env, dr, ts, _, hR, hO, h1, fun vs H1 e1 r1 o1 => ⟨ts, _, r1, o1.new, h2, fun v H2 s2 r2 => q v H2 (e1.trans (.same s2)) r2 (o1.same s2)⟩⟩
theorem se_callB {e : Expr} {es : List Expr} {x : Str} {pp pos : Pos} {id : String} {h : List T → Option T} {l : AF} (hc : CaT p X (.builtin id) h) (hm : X.mg x = none) (hv : bootBuiltins x = some (.builtin id)) (ha : SA p X (e :: es) l) (hg : Gl X x := by rfl)
    (hn : x ≠ "__name__" := by decide) (hdb : (x == ("__debug__" : Str)) = false := by decide)
    (he : starEach (e :: es) X.env = (false, eval e X.env) :: starEach es X.env := by rfl) (hpl : (backTo pos (starEach es X.env)).any (·.1) = false := by rfl) : SE p X (.Call (.Name x pp) (e :: es) [] pos) (eB h l) :=
  pe_imp (pe_callB hc hg hm hv ha hn hdb he hpl) tB_call
theorem se_callT {e : Expr} {es : List Expr} {x : Str} {pp pos : Pos} {id : String} {h : List T → Option T} {l : AF} (hc : CaT p X (.type id) h) (hm : X.mg x = none) (hv : bootBuiltins x = some (.type id)) (ha : SA p X (e :: es) l) (hg : Gl X x := by rfl)
    (hn : x ≠ "__name__" := by decide) (hdb : (x == ("__debug__" : Str)) = false := by decide)
    (he : starEach (e :: es) X.env = (false, eval e X.env) :: starEach es X.env := by rfl) (hpl : (backTo pos (starEach es X.env)).any (·.1) = false := by rfl) : SE p X (.Call (.Name x pp) (e :: es) [] pos) (eB h l) :=
  pe_imp (pe_callTy hc hg hm hv ha hn hdb he hpl) tB_call

/-- a sequence's items as it is read -/
def seqT : T → Option (List T)
  | .tup ts => some ts
  | .lst ts => some ts
  | .fls ts => some ts
  | _ => none
theorem seq_ok {H : Hp} {a : T} {x : V} {ts : List T} (r : Rep p H a x) (h : seqT a = some ts) : ∃ c vs, x = .ref c ∧ (SqL p.K H c vs ∨ SqT p.K H c vs) ∧ Reps p H ts vs := by
  cases a <;> cases h
  · obtain ⟨c, vs, rfl, h1, s1⟩ := r
    exact ⟨c, vs, rfl, .inr h1, s1⟩
  · obtain ⟨c, vs, rfl, h1, n1, s1⟩ := r
    exact ⟨c, vs, rfl, .inl (.inl (.inl h1)), s1⟩
  · obtain ⟨c, vs, rfl, h1, s1⟩ := r
    exact ⟨c, vs, rfl, .inl h1.sq, s1⟩
theorem rep1 {H : Hp} {ts : List T} {vs : List V} {a : T} (h : Reps p H (a :: []) vs) : ∃ v, vs = [v] ∧ Rep p H a v := by
  obtain ⟨v, r, rfl, h1, h2⟩ := h
  rw [show r = [] from h2]
  exact ⟨v, rfl, h1⟩
def lenQ : List T → Option T
  | [a] => (seqT a).map fun ts => .int ts.length
  | _ => none
def lenS : List T → Option T
  | [.str cs] => if cs.length ≤ lim then some (.int cs.length) else none
  | _ => none
include hK in
theorem ca_lenQ : CaT p X (.builtin "len") lenQ := cr_imp call_len_seq fun xs H Q ⟨ts, t, r, nd, hf, q⟩ => by
  unfold lenQ at hf
  split at hf
  · rename_i a
    obtain ⟨v, rfl, r1⟩ := rep1 (ts := []) r
    cases h : seqT a with
    | none => rw [h] at hf; cases hf
    | some ys =>
      rw [h] at hf
      cases hf
      obtain ⟨c, vs, rfl, h1, s1⟩ := seq_ok r1 h
      refine ⟨c, vs, rfl, hK ▸ h1, ?_⟩
      rw [s1.length]
      exact q _ H (Same.refl H) rfl
  · cases hf
theorem ca_lenS : CaT p X (.builtin "len") lenS := cr_imp call_len_str fun xs H Q ⟨ts, t, r, nd, hf, q⟩ => by
  unfold lenS at hf
  split at hf
  · rename_i cs
    obtain ⟨v, rfl, z, rfl, e⟩ := rep1 (ts := []) r
    split at hf
    · rename_i hz
      cases hf
      refine ⟨z, rfl, lim_ok (by rw [str_len, e]; exact hz), ?_⟩
      rw [str_len, e]
      exact q _ H (Same.refl H) rfl
    · cases hf
  · cases hf
def lenT (ts : List T) : Option T := match lenQ ts with
  | some t => some t
  | none => lenS ts
include hK in
theorem ca_len : CaT p X (.builtin "len") lenT := CaT.or (ca_lenQ hK) ca_lenS

/-! isinstance -/
def isiInt : T → Option Bool
  | .int _ => some true
  | .bl _ => some true
  | .fls _ => none
  | .ref => none
  | .exo _ _ _ => none
  | _ => some false
def isiBool : T → Option Bool
  | .bl _ => some true
  | .fls _ => none
  | .ref => none
  | .exo _ _ _ => none
  | _ => some false
def isiStr : T → Option Bool
  | .str _ => some true
  | .fls _ => none
  | .ref => none
  | .exo _ _ _ => none
  | _ => some false
def isiTup : T → Option Bool
  | .tup _ => some true
  | .fls _ => none
  | .ref => none
  | .exo _ _ _ => none
  | _ => some false
theorem ty_ok {H : Hp} {a : T} {x : V} (r : Rep p H a x) : match a with
    | .non => TyX p.K H x (.type "NoneType")
    | .bl _ => TyX p.K H x (.type "bool")
    | .int _ => TyX p.K H x (.type "int")
    | .str _ => TyX p.K H x (.type "str")
    | .tup _ => TyX p.K H x (.type "tuple")
    | .lst _ => TyX p.K H x (.type "list")
    | .fls _ => True
    | .ref => True
    | .exo _ _ _ => True := by
  cases a with
  | non => have r : x = _ := r; subst r; exact .base .non
  | bl b => have r : x = _ := r; subst r; exact .base (.bl _)
  | int b => have r : x = _ := r; subst r; exact .base (.int _)
  | str b => obtain ⟨z, rfl, _⟩ := r; exact .base (.str _)
  | tup b =>
    obtain ⟨z, _, rfl, h, _⟩ := r
    rcases h with (h | ⟨o, h⟩) | ⟨o, _, _, h, c, _⟩
    · exact .base (.tup h)
    · exact .fTuple h
    · exact .kTuple h c
  | lst b => obtain ⟨z, _, rfl, h, _⟩ := r; exact .base (.lst h)
  | fls b => trivial
  | ref => trivial
  | exo C b c => trivial
def isiF (g : T → Option Bool) : List T → Option T
  | [a] => (g a).map .bl
  | _ => none
/-- isinstance(e, C), C a built-in type's name -/
theorem se_isi {e ce : Expr} {pp pos : Pos} {f : EF} {g : T → Option Bool} {n : String} (hK : p.K = X.K) (hg' : ∀ a b, g a = some b → ∃ tn, (∀ H x, Rep p H a x → TyX p.K H x (.type tn)) ∧ kitB tn n = some b) (ha : SE p X e f) (hc : PE X ce (tC (.ty n))) (hm : X.mg "isinstance" = none)
    (hg : Gl X "isinstance" := by rfl) (he : starEach [e, ce] X.env = (false, eval e X.env) :: starEach [ce] X.env := by rfl) (he2 : starEach [ce] X.env = (false, eval ce X.env) :: starEach [] X.env := by rfl) (hpl : (backTo pos (starEach [ce] X.env)).any (·.1) = false := by rfl) :
    SE p X (.Call (.Name "isinstance" pp) [e, ce] [] pos) (eB (isiF g) (aCons f aNil)) := by
  refine pe_imp (pe_callB call_isi hg hm PyProof.Rows.boot_isinstance (pa_cons ha (pa_cons hc pa_nil he2) he) (by decide) (by decide) he hpl) fun σ H Q ⟨env, dr, t, dr', hR, hO, hf, q⟩ => ?_
  unfold eB aCons aNil at hf
  cases h1 : f env dr with
  | none => rw [h1] at hf; cases hf
  | some z =>
    obtain ⟨a, dr1⟩ := z
    rw [h1] at hf
    dsimp only at hf
    unfold isiF at hf
    dsimp only at hf
    cases h2 : g a with
    | none => rw [h2] at hf; cases hf
    | some b =>
      rw [h2] at hf
      cases hf
      obtain ⟨tn, ht, hk⟩ := hg' a b h2
      exact ⟨env, dr, a, _, hR, hO, h1, fun v H1 e1 r1 o1 => ⟨v, .ty n, .type tn, .type n, b, rfl, .ty n, hK ▸ ht H1 v r1, kit_ty hk, q _ _ e1 rfl o1⟩⟩
theorem isi_int : ∀ a b, isiInt a = some b → ∃ tn, (∀ H x, Rep p H a x → TyX p.K H x (.type tn)) ∧ kitB tn "int" = some b := fun a b h => by
  cases a <;> cases h
  · exact ⟨"NoneType", fun H x r => ty_ok r, by decide +kernel⟩
  · exact ⟨"bool", fun H x r => ty_ok r, by decide +kernel⟩
  · exact ⟨"int", fun H x r => ty_ok r, by decide +kernel⟩
  · exact ⟨"str", fun H x r => ty_ok r, by decide +kernel⟩
  · exact ⟨"tuple", fun H x r => ty_ok r, by decide +kernel⟩
  · exact ⟨"list", fun H x r => ty_ok r, by decide +kernel⟩
theorem isi_bool : ∀ a b, isiBool a = some b → ∃ tn, (∀ H x, Rep p H a x → TyX p.K H x (.type tn)) ∧ kitB tn "bool" = some b := fun a b h => by
  cases a <;> cases h
  · exact ⟨"NoneType", fun H x r => ty_ok r, by decide +kernel⟩
  · exact ⟨"bool", fun H x r => ty_ok r, by decide +kernel⟩
  · exact ⟨"int", fun H x r => ty_ok r, by decide +kernel⟩
  · exact ⟨"str", fun H x r => ty_ok r, by decide +kernel⟩
  · exact ⟨"tuple", fun H x r => ty_ok r, by decide +kernel⟩
  · exact ⟨"list", fun H x r => ty_ok r, by decide +kernel⟩
theorem isi_str : ∀ a b, isiStr a = some b → ∃ tn, (∀ H x, Rep p H a x → TyX p.K H x (.type tn)) ∧ kitB tn "str" = some b := fun a b h => by
  cases a <;> cases h
  · exact ⟨"NoneType", fun H x r => ty_ok r, by decide +kernel⟩
  · exact ⟨"bool", fun H x r => ty_ok r, by decide +kernel⟩
  · exact ⟨"int", fun H x r => ty_ok r, by decide +kernel⟩
  · exact ⟨"str", fun H x r => ty_ok r, by decide +kernel⟩
  · exact ⟨"tuple", fun H x r => ty_ok r, by decide +kernel⟩
  · exact ⟨"list", fun H x r => ty_ok r, by decide +kernel⟩
theorem isi_tup : ∀ a b, isiTup a = some b → ∃ tn, (∀ H x, Rep p H a x → TyX p.K H x (.type tn)) ∧ kitB tn "tuple" = some b := fun a b h => by
  cases a <;> cases h
  · exact ⟨"NoneType", fun H x r => ty_ok r, by decide +kernel⟩
  · exact ⟨"bool", fun H x r => ty_ok r, by decide +kernel⟩
  · exact ⟨"int", fun H x r => ty_ok r, by decide +kernel⟩
  · exact ⟨"str", fun H x r => ty_ok r, by decide +kernel⟩
  · exact ⟨"tuple", fun H x r => ty_ok r, by decide +kernel⟩
  · exact ⟨"list", fun H x r => ty_ok r, by decide +kernel⟩

/-! int(x), tuple(x), list(x) -/
def intF : List T → Option T
  | [.int i] => some (.int i)
  | _ => none
theorem ca_int : CaT p X (.type "int") intF := cr_imp call_int1 fun xs H Q ⟨ts, t, r, nd, hf, q⟩ => by
  unfold intF at hf
  split at hf
  · cases hf
    obtain ⟨v, rfl, r1⟩ := rep1 (ts := []) r
    rw [show v = _ from r1]
    exact .inl ⟨_, rfl, q _ H (Same.refl H) rfl⟩
  · cases hf
def tupF : List T → Option T
  | [.tup ts] => some (.tup ts)
  | [.lst ts] => some (.tup ts)
  | [.fls ts] => some (.tup ts)
  | _ => none
include hK in
theorem ca_tuple : CaT p X (.type "tuple") tupF := cr_imp call_tuple_of fun xs H Q ⟨ts, t, r, nd, hf, q⟩ => by
  unfold tupF at hf
  split at hf
  · cases hf
    obtain ⟨v, rfl, r1⟩ := rep1 (ts := []) r
    obtain ⟨c, vs, rfl, h1, s1⟩ := id r1
    exact ⟨c, vs, rfl, .inr ⟨hK ▸ h1, q _ H (Same.refl H) r1⟩⟩
  · cases hf
    obtain ⟨v, rfl, r1⟩ := rep1 (ts := []) r
    obtain ⟨c, vs, rfl, h1, n1, s1⟩ := r1
    exact ⟨c, vs, rfl, .inl ⟨.inl (.inl h1), fun b hb => q _ _ (same_new hb _) (rep_tup s1 hb)⟩⟩
  · cases hf
    obtain ⟨v, rfl, r1⟩ := rep1 (ts := []) r
    obtain ⟨c, vs, rfl, h1, s1⟩ := r1
    exact ⟨c, vs, rfl, .inl ⟨hK ▸ h1.sq, fun b hb => q _ _ (same_new hb _) (rep_tup s1 hb)⟩⟩
  · cases hf
def listF : List T → Option T
  | [a] => (seqT a).map .lst
  | _ => none
include hK in
theorem ca_list : CaT p X (.type "list") listF := cr_imp call_list_of fun xs H Q ⟨ts, t, r, nd, hf, q⟩ => by
  unfold listF at hf
  split at hf
  · rename_i a
    obtain ⟨v, rfl, r1⟩ := rep1 (ts := []) r
    cases h : seqT a with
    | none => rw [h] at hf; cases hf
    | some ys =>
      rw [h] at hf
      cases hf
      obtain ⟨c, vs, rfl, h1, s1⟩ := seq_ok r1 h
      exact ⟨c, vs, rfl, hK ▸ h1, fun b hb => q _ _ (same_new hb _) (rep_lst s1 hb (nd b hb))⟩
  · cases hf

/-! any, all, sum, min of lists -/
def blsT : List T → Option (List Bool)
  | [] => some []
  | .bl b :: r => (blsT r).map (b :: ·)
  | _ => none
def intsT : List T → Option (List Int)
  | [] => some []
  | .int b :: r => (intsT r).map (b :: ·)
  | _ => none
theorem bls_ok {H : Hp} : ∀ {ts : List T} {vs : List V} {bs : List Bool}, Reps p H ts vs → blsT ts = some bs → vs = bs.map V.bl
  | [], _, _, r, h => by cases h; rw [show _ = [] from r]; rfl
  | t :: ts, _, bs, r, h => by
    obtain ⟨v, w, rfl, h1, h2⟩ := r
    cases t <;> try (cases h; done)
    unfold blsT at h
    cases hh : blsT ts with
    | none => rw [hh] at h; cases h
    | some cs =>
      rw [hh] at h
      cases h
      rw [show v = _ from h1, bls_ok h2 hh]
      rfl
theorem ints_ok {H : Hp} : ∀ {ts : List T} {vs : List V} {bs : List Int}, Reps p H ts vs → intsT ts = some bs → vs = bs.map V.int
  | [], _, _, r, h => by cases h; rw [show _ = [] from r]; rfl
  | t :: ts, _, bs, r, h => by
    obtain ⟨v, w, rfl, h1, h2⟩ := r
    cases t <;> try (cases h; done)
    unfold intsT at h
    cases hh : intsT ts with
    | none => rw [hh] at h; cases h
    | some cs =>
      rw [hh] at h
      cases h
      rw [show v = _ from h1, ints_ok h2 hh]
      rfl
def anyF : List T → Option T
  | [.lst ts] => (blsT ts).map fun bs => .bl (bs.any id)
  | _ => none
def allF : List T → Option T
  | [.lst ts] => (blsT ts).map fun bs => .bl (bs.all id)
  | _ => none
def sumF : List T → Option T
  | [.lst ts] => (intsT ts).map fun bs => .int bs.sum
  | _ => none
theorem ca_any (hc : X.calm = true) : CaT p X (.builtin "any") anyF := cr_imp (cr_any hc) fun xs H Q ⟨ts, t, r, nd, hf, q⟩ => by
  unfold anyF at hf
  split at hf
  · rename_i ys
    obtain ⟨v, rfl, r1⟩ := rep1 (ts := []) r
    obtain ⟨c, vs, rfl, h1, n1, s1⟩ := r1
    cases h : blsT ys with
    | none => rw [h] at hf; cases hf
    | some bs =>
      rw [h] at hf
      cases hf
      have := bls_ok s1 h
      subst this
      exact ⟨c, bs, rfl, .inl (.inl h1), q _ H (Same.refl H) rfl⟩
  · cases hf
theorem ca_all (hc : X.calm = true) : CaT p X (.builtin "all") allF := cr_imp (cr_all hc) fun xs H Q ⟨ts, t, r, nd, hf, q⟩ => by
  unfold allF at hf
  split at hf
  · rename_i ys
    obtain ⟨v, rfl, r1⟩ := rep1 (ts := []) r
    obtain ⟨c, vs, rfl, h1, n1, s1⟩ := r1
    cases h : blsT ys with
    | none => rw [h] at hf; cases hf
    | some bs =>
      rw [h] at hf
      cases hf
      have := bls_ok s1 h
      subst this
      exact ⟨c, bs, rfl, .inl (.inl h1), q _ H (Same.refl H) rfl⟩
  · cases hf
theorem ca_sum (hc : X.calm = true) : CaT p X (.builtin "sum") sumF := cr_imp (cr_sum hc) fun xs H Q ⟨ts, t, r, nd, hf, q⟩ => by
  unfold sumF at hf
  split at hf
  · rename_i ys
    obtain ⟨v, rfl, r1⟩ := rep1 (ts := []) r
    obtain ⟨c, vs, rfl, h1, n1, s1⟩ := r1
    cases h : intsT ys with
    | none => rw [h] at hf; cases hf
    | some bs =>
      rw [h] at hf
      cases hf
      have := ints_ok s1 h
      subst this
      exact ⟨c, bs, rfl, .inl (.inl h1), q _ H (Same.refl H) rfl⟩
  · cases hf
def leastI : List Int → Option Int
  | [] => none
  | [a] => some a
  | a :: r => (leastI r).map fun m => if a < m then a else m
theorem least_ok : ∀ {bs : List Int} {m : Int}, leastI bs = some m → m ∈ bs ∧ ∀ y ∈ bs, m ≤ y
  | [], _, h => by cases h
  | [a], m, h => by cases h; simp
  | a :: b :: r, m, h => by
    unfold leastI at h
    cases hh : leastI (b :: r) with
    | none => rw [hh] at h; cases h
    | some n =>
      rw [hh] at h
      cases h
      obtain ⟨h1, h2⟩ := least_ok hh
      by_cases c : a < n
      · simp only [if_pos c]
        exact ⟨List.mem_cons_self, fun y hy => by
          rcases List.mem_cons.mp hy with e | hy
          · omega
          · have := h2 y hy; omega⟩
      · simp only [if_neg c]
        exact ⟨List.mem_cons_of_mem _ h1, fun y hy => by
          rcases List.mem_cons.mp hy with e | hy
          · omega
          · exact h2 y hy⟩
def minF : List T → Option T
  | [.lst ts] => match intsT ts with
    | some bs => (leastI bs).map .int
    | none => none
  | _ => none
theorem ca_min (hc : X.calm = true) : CaT p X (.builtin "min") minF := cr_imp (cr_min hc) fun xs H Q ⟨ts, t, r, nd, hf, q⟩ => by
  unfold minF at hf
  split at hf
  · rename_i ys
    obtain ⟨v, rfl, r1⟩ := rep1 (ts := []) r
    obtain ⟨c, vs, rfl, h1, n1, s1⟩ := r1
    cases h : intsT ys with
    | none => rw [h] at hf; cases hf
    | some bs =>
      rw [h] at hf
      dsimp only at hf
      have := ints_ok s1 h
      subst this
      cases h2 : leastI bs with
      | none => rw [h2] at hf; cases hf
      | some m =>
        rw [h2] at hf
        cases hf
        obtain ⟨m1, m2⟩ := least_ok h2
        refine ⟨c, bs, rfl, .inl (.inl h1), List.length_pos_of_mem m1, fun m' hm' hle => ?_⟩
        have e : m' = m := Int.le_antisymm (hle m m1) (m2 m' hm')
        rw [e]
        exact q _ H (Same.refl H) rfl
  · cases hf

/-! ''.join(list) -/
def strsT : List T → Option (List (List Nat))
  | [] => some []
  | .str b :: r => (strsT r).map (b :: ·)
  | _ => none
def joinL (sep : List Nat) : List (List Nat) → List Nat
  | [] => []
  | [a] => a
  | a :: r => a ++ sep ++ joinL sep r
def joinF (sep : T) : T → Option T
  | a => match sep, seqT a with
    | .str cs, some ts => match strsT ts with
      | some xs => if (xs.map (·.length)).sum + xs.length * cs.length ≤ lim then some (.str (joinL cs xs)) else none
      | none => none
    | _, _ => none
end
end FL
set_option linter.all false
set_option maxRecDepth 100000
set_option maxHeartbeats 2000000
namespace FL
open PySem PySem.Spec PyProof.Rows L2 GxR GA

section
variable {p : Pm} {X : Cx} (hK : p.K = X.K)

theorem atI_map {H : Hp} {ts : List T} {vs : List V} {i : Int} {t : T} (r : Reps p H ts vs) (h : atI ts i = some t) : ∃ v, atI vs i = some v ∧ Rep p H t v := by
  unfold atI at h ⊢
  rw [r.length]
  cases e : ixN ts.length i with
  | none => rw [e] at h; cases h
  | some j =>
    rw [e] at h
    exact r.get h
/-- a[i] -/
def ixT (dr : List T) : T → T → Option T
  | .tup ts, .int i => atI ts i
  | .lst ts, .int i => atI ts i
  | .fls ts, .int i => atI ts i
  | .str cs, .int i => if cs.length ≤ lim then (atI cs i).map fun c => .str [c] else none
  | .ref, .int i => atI dr i
  | _, _ => none
def eIx (f g : EF) : EF := fun env dr => match f env dr with
  | none => none
  | some (x, dr1) => match g env dr1 with
    | none => none
    | some (y, dr2) => match ixT dr2 x y with
      | none => none
      | some t => some (t, dr2)
include hK in
theorem se_ix {a b : Expr} {pos : Pos} {f g : EF} (ha : SE p X a f) (hb : SE p X b g) (hs : PlainIx b := by exact fun _ _ => rfl) : SE p X (.Subscript a b pos) (eIx f g) := pe_imp (pe_ix ix_seq ha hb hs) fun σ H Q ⟨env, dr, t, dr', hR, hO, hf, q⟩ => by
  unfold eIx at hf
  cases h1 : f env dr with
  | none => rw [h1] at hf; cases hf
  | some z =>
    obtain ⟨x, dr1⟩ := z
    rw [h1] at hf
    dsimp only at hf
    cases h2 : g env dr1 with
    | none => rw [h2] at hf; cases hf
    | some z =>
      obtain ⟨y, dr2⟩ := z
      rw [h2] at hf
      dsimp only at hf
      cases h3 : ixT dr2 x y with
      | none => rw [h3] at hf; cases hf
      | some t' =>
        rw [h3] at hf
        cases hf
        refine ⟨env, dr, x, dr1, hR, hO, h1, fun v H1 e1 r1 o1 => ⟨env, dr1, y, _, hR.ext e1, o1, h2, fun w H2 e2 r2 o2 => ?_⟩⟩
        replace r1 := r1.ext e2
        replace q := fun v r => q v H2 (e1.trans e2) r o2
        cases x <;> cases y <;> try (cases h3; done)
        · rename_i cs i
          unfold ixT at h3
          dsimp only at h3
          split at h3
          · rename_i hz
            obtain ⟨z, rfl, ez⟩ := r1
            cases h4 : atI cs i with
            | none => rw [h4] at h3; cases h3
            | some c =>
              rw [h4] at h3
              cases h3
              exact .inr (.inr ⟨z, i, c, rfl, r2, lim_ok (by rw [str_len, ez]; exact hz), by rw [ez]; exact h4, q _ ⟨_, rfl, rfl⟩⟩)
          · cases h3
        · rename_i ts i
          obtain ⟨c, vs, rfl, hh, s1⟩ := r1
          obtain ⟨u, u1, u2⟩ := atI_map s1 h3
          exact .inr (.inl ⟨c, vs, i, u, rfl, r2, hK ▸ hh, u1, q _ u2⟩)
        · rename_i ts i
          obtain ⟨c, vs, rfl, hh, n1, s1⟩ := r1
          obtain ⟨u, u1, u2⟩ := atI_map s1 h3
          exact .inl ⟨c, vs, i, u, rfl, r2, .inl (.inl hh), u1, q _ u2⟩
        · rename_i ts i
          obtain ⟨c, vs, rfl, hh, s1⟩ := r1
          obtain ⟨u, u1, u2⟩ := atI_map s1 h3
          exact .inl ⟨c, vs, i, u, rfl, r2, hK ▸ hh.sq, u1, q _ u2⟩
        · rename_i i
          obtain ⟨c, hd, rfl⟩ := r1
          have od := o2.1
          unfold DrOk at od
          rw [hd] at od
          obtain ⟨vs, hh, s1⟩ := od
          obtain ⟨u, u1, u2⟩ := atI_map s1 h3
          exact .inl ⟨c, vs, i, u, rfl, r2, .inl (.inl hh), u1, q _ u2⟩

/-! slices -/
def cutL {α : Type} (xs : List α) (lo hi : Option Int) : List α := (xs.drop (HT.sIx xs.length 0 lo)).take (HT.sIx xs.length xs.length hi - HT.sIx xs.length 0 lo)
def slT (t : T) (lo hi : Option Int) : Option T := match t with
  | .tup ts => some (.tup (cutL ts lo hi))
  | .lst ts => some (.lst (cutL ts lo hi))
  | .fls ts => some (.lst (cutL ts lo hi))
  | .str cs => if cs.length ≤ lim then some (.str (cutL cs lo hi)) else none
  | _ => none
theorem cut_ok {H : Hp} {ts : List T} {vs : List V} (r : Reps p H ts vs) (lo hi : Option Int) : Reps p H (cutL ts lo hi) (cutV vs lo hi) := by
  unfold cutL cutV
  rw [r.length]
  exact (r.drop _).take _
theorem cutL_all {α : Type} (xs : List α) (lo hi : Option Int) (h : HT.sIx xs.length 0 lo = 0 ∧ HT.sIx xs.length xs.length hi = xs.length) : cutL xs lo hi = xs := by
  unfold cutL
  rw [h.1, h.2, List.drop_zero, Nat.sub_zero, List.take_length]
def rSlF (p : Pm) : V → Option Int → Option Int → Hp → VK → Prop := fun x lo hi H Q => ∃ a t, Rep p H a x ∧ NewD p H ∧ slT a lo hi = some t ∧ ∀ v H', Same H H' → Rep p H' t v → Q v H'
include hK in
theorem sl_f : SlR X (rSlF p) := by
  intro pins s σ H x v vl vu lo hi sl Q I rx hs pl pu ⟨a, t, r, nd, hf, q⟩
  unfold slT at hf
  cases a <;> try (cases hf; done)
  · rename_i cs
    dsimp only at hf
    split at hf
    · rename_i hz
      cases hf
      obtain ⟨z, rfl, ez⟩ := r
      refine sl_str pins s σ H _ v vl vu lo hi sl Q I rx hs pl pu ⟨z, rfl, lim_ok (by rw [str_len, ez]; exact hz), q _ H (Same.refl H) ⟨_, rfl, ?_⟩⟩
      unfold cutS cutL
      rw [str_len, ez]
    · cases hf
  · cases hf
    obtain ⟨c, vs, rfl, hh, s1⟩ := id r
    refine sl_tupA pins s σ H _ v vl vu lo hi sl Q I rx hs pl pu ⟨c, vs, rfl, hK ▸ hh, fun hw => ?_, fun hw b hb => q _ _ (same_new hb _) (rep_tup (cut_ok s1 lo hi) hb)⟩
    have hl := s1.length
    rw [hl] at hw
    refine q _ H (Same.refl H) ?_
    rw [cutL_all _ _ _ hw]
    exact r
  · cases hf
    obtain ⟨c, vs, rfl, hh, n1, s1⟩ := r
    exact sl_list pins s σ H _ v vl vu lo hi sl Q I rx hs pl pu ⟨c, vs, rfl, .inl (.inl hh), fun b hb => q _ _ (same_new hb _) (rep_lst (cut_ok s1 lo hi) hb (nd b hb))⟩
  · cases hf
    obtain ⟨c, vs, rfl, hh, s1⟩ := r
    exact sl_list pins s σ H _ v vl vu lo hi sl Q I rx hs pl pu ⟨c, vs, rfl, hK ▸ hh.sq, fun b hb => q _ _ (same_new hb _) (rep_lst (cut_ok s1 lo hi) hb (nd b hb))⟩
def eSlLo (f g : EF) : EF := fun env dr => match f env dr with
  | none => none
  | some (x, dr1) => match g env dr1 with
    | some (.int i, dr2) => (match slT x (some i) none with
      | none => none
      | some t => some (t, dr2))
    | _ => none
def eSlHi (f g : EF) : EF := fun env dr => match f env dr with
  | none => none
  | some (x, dr1) => match g env dr1 with
    | some (.int i, dr2) => (match slT x none (some i) with
      | none => none
      | some t => some (t, dr2))
    | _ => none
include hK in
theorem se_sllo {a b : Expr} {pos p2 : Pos} {f g : EF} (ha : SE p X a f) (hb : SE p X b g) : SE p X (.Subscript a (.Slice (some b) none none p2) pos) (eSlLo f g) := pe_imp (pe_slice (sl_f hK) ha (po_some hb) po_none) fun σ H Q ⟨env, dr, t, dr', hR, hO, hf, q⟩ => by
  unfold eSlLo at hf
  cases h1 : f env dr with
  | none => rw [h1] at hf; cases hf
  | some z =>
    obtain ⟨x, dr1⟩ := z
    rw [h1] at hf
    dsimp only at hf
    split at hf
    · rename_i i dr2 h2
      cases h3 : slT x (some i) none with
      | none => rw [h3] at hf; cases hf
      | some t' =>
        rw [h3] at hf
        cases hf
        exact ⟨env, dr, x, dr1, hR, hO, h1, fun v H1 e1 r1 o1 => ⟨env, dr1, _, _, hR.ext e1, o1, h2, fun w H2 e2 r2 o2 => ⟨i, r2, x, _, r1.ext e2, o2.new, h3, fun u H3 s3 r3 => q u H3 (e1.trans (e2.trans (.same s3))) r3 (o2.same s3)⟩⟩⟩
    · cases hf
include hK in
theorem se_slhi {a b : Expr} {pos p2 : Pos} {f g : EF} (ha : SE p X a f) (hb : SE p X b g) : SE p X (.Subscript a (.Slice none (some b) none p2) pos) (eSlHi f g) := pe_imp (pe_slice (sl_f hK) ha po_none (po_some hb)) fun σ H Q ⟨env, dr, t, dr', hR, hO, hf, q⟩ => by
  unfold eSlHi at hf
  cases h1 : f env dr with
  | none => rw [h1] at hf; cases hf
  | some z =>
    obtain ⟨x, dr1⟩ := z
    rw [h1] at hf
    dsimp only at hf
    split at hf
    · rename_i i dr2 h2
      cases h3 : slT x none (some i) with
      | none => rw [h3] at hf; cases hf
      | some t' =>
        rw [h3] at hf
        cases hf
        exact ⟨env, dr, x, dr1, hR, hO, h1, fun v H1 e1 r1 o1 => ⟨env, dr1, _, _, hR.ext e1, o1, h2, fun w H2 e2 r2 o2 => ⟨i, r2, x, _, r1.ext e2, o2.new, h3, fun u H3 s3 r3 => q u H3 (e1.trans (e2.trans (.same s3))) r3 (o2.same s3)⟩⟩⟩
    · cases hf

/-! ### calls of defs -/
abbrev Phi := List T → List T → Option (T × List T)
/-- a def's promise by its function; the lists being made are the caller's own -/
def spF (p : Pm) (n : Nat) (φ : Phi) : Sp := fun vs H Q _ => ∃ ex ts dr t dr', ts.length = n ∧ Reps { p with ex := ex } H ts vs ∧ Ok { p with ex := ex } H dr ∧ φ ts dr = some (t, dr') ∧
  ∀ v H', Ext { p with ex := ex } H H' → Rep { p with ex := ex } H' t v → Ok { p with ex := ex } H' dr' → Q v H'
def eCall (n : Nat) (φ : Phi) (l : AF) : EF := fun env dr => match l env dr with
  | none => none
  | some (ts, dr1) => if ts.length = n then φ ts dr1 else none
variable {f : Addr} {fd : FuncData} {ps : List Str} {k j n : Nat} {φ : Phi} {x : Str} {pp pos : Pos} {e : Expr} {es : List Expr} {l : AF}
theorem tC_call : ∀ σ H Q, tE p (eCall n φ l) σ H Q → tCall (spF p n φ) [] E0 (tA p l) σ H Q := fun σ H Q ⟨env, dr, t, dr', hR, hO, hf, q⟩ => by
  unfold eCall at hf
  cases h1 : l env dr with
  | none => rw [h1] at hf; cases hf
  | some z =>
    obtain ⟨ts, dr1⟩ := z
    rw [h1] at hf
    dsimp only at hf
    split at hf
    · rename_i hn
      refine ⟨env, dr, ts, dr1, hR, hO, h1, fun vs H1 e1 r1 o1 => ?_⟩
      show spF p n φ (vs ++ []) H1 Q E0
      rw [List.append_nil]
      exact ⟨p.ex, ts, dr1, t, dr', hn, r1, o1, hf, fun v H2 e2 r2 o2 => q v H2 (e1.trans e2) r2 o2⟩
    · cases hf
theorem se_call (F : FnOk X.prog X.w X.K X.mg X.base L2.CX0 k f fd ps (spF p n φ)) (hr : Room j X.A) (hkj : k ≤ j) (hm : X.mg x = some (.ref f)) (hk : PySem.W.keepIn X.K (.ref f) = true) (hb : Binds X.K fd ps []) (ha : SA p X (e :: es) l) (hg : Gl X x := by rfl)
    (hdb : (x == ("__debug__" : Str)) = false := by decide) (he : starEach (e :: es) X.env = (false, eval e X.env) :: starEach es X.env := by rfl) (hpl : (backTo pos (starEach es X.env)).any (·.1) = false := by rfl) :
    SE p X (.Call (.Name x pp) (e :: es) [] pos) (eCall n φ l) := pe_imp (pe_call F (hr.mono hkj) hg hm hk hb .nil L2.pass0 ha hdb he hpl) tC_call
theorem se_call0 (F : FnOk X.prog X.w X.K X.mg X.base L2.CX0 k f fd ps (spF p n φ)) (hr : Room j X.A) (hkj : k ≤ j) (hm : X.mg x = some (.ref f)) (hk : PySem.W.keepIn X.K (.ref f) = true) (hb : Binds X.K fd ps []) (hg : Gl X x := by rfl)
    (hdb : (x == ("__debug__" : Str)) = false := by decide) : SE p X (.Call (.Name x pp) [] [] pos) (eCall n φ aNil) := pe_imp (pe_call0 F (hr.mono hkj) hg hm hk hb .nil L2.pass0 hdb) fun σ H Q h => by
  obtain ⟨env, dr, ts, dr1, hR, hO, h1, q⟩ := tC_call σ H Q h
  unfold aNil at h1
  cases h1
  exact q [] H .refl .nil hO
theorem spF_ex {ex : List Addr} {P : Program} {w : World} {K : PySem.W.Frag} {mg : Str → Option Value} {base : Heap} {CX : CXT} (F : FnOk P w K mg base CX k f fd ps (spF p n φ)) : FnOk P w K mg base CX k f fd ps (spF { p with ex := ex } n φ) :=
  F.imp fun vs H Q E h => h
end
end FL
set_option linter.all false
set_option maxRecDepth 100000
set_option maxHeartbeats 2000000
namespace FL
open PySem PySem.Spec PyProof.Rows L2 GxR GA

/-! ### more, fewer lists being made -/
abbrev Pm.w (p : Pm) (ex : List Addr) : Pm := { p with ex := ex }
mutual
theorem Rep.more {p : Pm} {H : Hp} {ex : List Addr} (h : ∀ a ∈ ex, a ∈ p.ex ∨ H a = none) : ∀ {t : T} {v : V}, Rep p H t v → Rep (p.w ex) H t v
  | .non, _, r => r
  | .bl _, _, r => r
  | .int _, _, r => r
  | .str _, _, r => r
  | .tup ts, _, r => by
    obtain ⟨a, vs, rfl, s, q⟩ := r
    exact ⟨a, vs, rfl, s, Reps.more h q⟩
  | .lst ts, _, r => by
    obtain ⟨a, vs, rfl, s, n, q⟩ := r
    exact ⟨a, vs, rfl, s, ⟨n.1, fun z => (h a z).elim n.2 fun e => by rw [s] at e; cases e⟩, Reps.more h q⟩
  | .fls ts, _, r => by
    obtain ⟨a, vs, rfl, s, q⟩ := r
    refine ⟨a, vs, rfl, ?_, Reps.more h q⟩
    rcases s with ⟨s, n⟩ | s
    · exact .inl ⟨s, n.1, fun z => (h a z).elim n.2 fun e => by rcases s with s | ⟨_, s⟩ <;> rw [s] at e <;> cases e⟩
    · exact .inr s
  | .ref, _, r => r
  | .exo C ns ts, _, r => by
    obtain ⟨c, a, d, vs, hc, rfl, s, n, q⟩ := r
    exact ⟨c, a, d, vs, hc, rfl, s, n, Reps.more h q⟩
theorem Reps.more {p : Pm} {H : Hp} {ex : List Addr} (h : ∀ a ∈ ex, a ∈ p.ex ∨ H a = none) : ∀ {ts : List T} {vs : List V}, Reps p H ts vs → Reps (p.w ex) H ts vs
  | [], _, r => r
  | t :: ts, _, r => by
    obtain ⟨v, w, rfl, a, b⟩ := r
    exact ⟨v, w, rfl, Rep.more h a, Reps.more h b⟩
end
mutual
theorem Rep.less {p : Pm} {H : Hp} {ex : List Addr} (h : ∀ a ∈ p.ex, a ∈ ex) : ∀ {t : T} {v : V}, Rep (p.w ex) H t v → Rep p H t v
  | .non, _, r => r
  | .bl _, _, r => r
  | .int _, _, r => r
  | .str _, _, r => r
  | .tup ts, _, r => by
    obtain ⟨a, vs, rfl, s, q⟩ := r
    exact ⟨a, vs, rfl, s, Reps.less h q⟩
  | .lst ts, _, r => by
    obtain ⟨a, vs, rfl, s, n, q⟩ := r
    exact ⟨a, vs, rfl, s, ⟨n.1, fun z => n.2 (h a z)⟩, Reps.less h q⟩
  | .fls ts, _, r => by
    obtain ⟨a, vs, rfl, s, q⟩ := r
    refine ⟨a, vs, rfl, ?_, Reps.less h q⟩
    rcases s with ⟨s, n⟩ | s
    · exact .inl ⟨s, n.1, fun z => n.2 (h a z)⟩
    · exact .inr s
  | .ref, _, r => r
  | .exo C ns ts, _, r => by
    obtain ⟨c, a, d, vs, hc, rfl, s, n, q⟩ := r
    exact ⟨c, a, d, vs, hc, rfl, s, n, Reps.less h q⟩
theorem Reps.less {p : Pm} {H : Hp} {ex : List Addr} (h : ∀ a ∈ p.ex, a ∈ ex) : ∀ {ts : List T} {vs : List V}, Reps (p.w ex) H ts vs → Reps p H ts vs
  | [], _, r => r
  | t :: ts, _, r => by
    obtain ⟨v, w, rfl, a, b⟩ := r
    exact ⟨v, w, rfl, Rep.less h a, Reps.less h b⟩
end
theorem Ext.w {p : Pm} {ex : List Addr} {H H' : Hp} (e : Ext p H H') : Ext (p.w ex) H H' := ⟨e.tup, e.frz, e.lst, e.tab, e.ext⟩
theorem Ext.unw {p : Pm} {ex : List Addr} {H H' : Hp} (e : Ext (p.w ex) H H') : Ext p H H' := ⟨e.tup, e.frz, e.lst, e.tab, e.ext⟩
theorem RelS.more {p : Pm} {H : Hp} {ex : List Addr} {σ : L2.St} {env : Env} (h : ∀ a ∈ ex, a ∈ p.ex ∨ H a = none) (r : RelS p H σ env) : RelS (p.w ex) H σ env := ⟨r.1, fun i t q => let ⟨v, a, b⟩ := r.2 i t q; ⟨v, a, b.more h⟩⟩
theorem RelS.less {p : Pm} {H : Hp} {ex : List Addr} {σ : L2.St} {env : Env} (h : ∀ a ∈ p.ex, a ∈ ex) (r : RelS (p.w ex) H σ env) : RelS p H σ env := ⟨r.1, fun i t q => let ⟨v, a, b⟩ := r.2 i t q; ⟨v, a, b.less h⟩⟩
theorem DrOk.more {p : Pm} {H : Hp} {ex : List Addr} {dr : List T} (h : ∀ a ∈ ex, a ∈ p.ex ∨ H a = none) (r : DrOk p H dr) : DrOk (p.w ex) H dr := by
  unfold DrOk at r ⊢
  show match p.d with | none => True | some a => ∃ vs, H a = some (.lst vs) ∧ Reps (p.w ex) H dr vs
  cases hd : p.d with
  | none => trivial
  | some a =>
    rw [hd] at r
    obtain ⟨vs, h1, h2⟩ := r
    exact ⟨vs, h1, h2.more h⟩
theorem DrOk.less {p : Pm} {H : Hp} {ex : List Addr} {dr : List T} (h : ∀ a ∈ p.ex, a ∈ ex) (r : DrOk (p.w ex) H dr) : DrOk p H dr := by
  unfold DrOk at r ⊢
  have r : match p.d with | none => True | some a => ∃ vs, H a = some (.lst vs) ∧ Reps (p.w ex) H dr vs := r
  cases hd : p.d with
  | none => trivial
  | some a =>
    rw [hd] at r
    obtain ⟨vs, h1, h2⟩ := r
    exact ⟨vs, h1, h2.less h⟩
theorem Ok.less {p : Pm} {H : Hp} {ex : List Addr} {dr : List T} (h : ∀ a ∈ p.ex, a ∈ ex) (r : Ok (p.w ex) H dr) : Ok p H dr := ⟨r.1.less h, r.2.1, fun a ha => r.2.2 a (h a ha)⟩

/-! ### the list being made grows: nothing else looks at it -/
mutual
theorem Rep.updD {q : Pm} {H : Hp} {D : Addr} {zs : List V} (hD : D ∈ q.ex) (hL : ∃ xs, H D = some (.lst xs)) : ∀ {t : T} {v : V}, Rep q H t v → Rep q (upd H D (.lst zs)) t v
  | .non, _, r => r
  | .bl _, _, r => r
  | .int _, _, r => r
  | .str _, _, r => r
  | .tup ts, _, r => by
    obtain ⟨a, vs, rfl, s, w⟩ := r
    obtain ⟨xs, hL'⟩ := hL
    refine ⟨a, vs, rfl, ?_, Reps.updD hD ⟨xs, hL'⟩ w⟩
    rcases s with (s | ⟨o, s⟩) | s
    · exact .inl (.inl (by rw [upd_ne (fun z => by rw [z, hL'] at s; cases s)]; exact s))
    · exact .inl (.inr ⟨o, by rw [upd_ne (fun z => by rw [z, hL'] at s; cases s)]; exact s⟩)
    · exact .inr s
  | .lst ts, _, r => by
    obtain ⟨a, vs, rfl, s, n, w⟩ := r
    exact ⟨a, vs, rfl, by rw [upd_ne (show a ≠ D from fun z => n.2 (by rw [z]; exact hD))]; exact s, n, Reps.updD hD hL w⟩
  | .fls ts, _, r => by
    obtain ⟨a, vs, rfl, s, w⟩ := r
    refine ⟨a, vs, rfl, ?_, Reps.updD hD hL w⟩
    rcases s with ⟨s | ⟨o, s⟩, n⟩ | s
    · exact .inl ⟨.inl (by rw [upd_ne (show a ≠ D from fun z => n.2 (by rw [z]; exact hD))]; exact s), n⟩
    · exact .inl ⟨.inr ⟨o, by rw [upd_ne (show a ≠ D from fun z => n.2 (by rw [z]; exact hD))]; exact s⟩, n⟩
    · exact .inr s
  | .ref, _, r => r
  | .exo C ns ts, _, r => by
    obtain ⟨c, a, d, vs, hc, rfl, s, n, w⟩ := r
    have ne : ∀ {b : Addr} {φ : Heap → Prop}, H b = some (.ext φ) → b ≠ D := fun {b φ} e z => by
      obtain ⟨xs, q⟩ := hL
      rw [z, q] at e
      cases e
    exact ⟨c, a, d, vs, hc, rfl, by rw [upd_ne (ne s)]; exact s, by rw [upd_ne (ne n)]; exact n, Reps.updD hD hL w⟩
theorem Reps.updD {q : Pm} {H : Hp} {D : Addr} {zs : List V} (hD : D ∈ q.ex) (hL : ∃ xs, H D = some (.lst xs)) : ∀ {ts : List T} {vs : List V}, Reps q H ts vs → Reps q (upd H D (.lst zs)) ts vs
  | [], _, r => r
  | t :: ts, _, r => by
    obtain ⟨v, w, rfl, a, b⟩ := r
    exact ⟨v, w, rfl, Rep.updD hD hL a, Reps.updD hD hL b⟩
end
theorem RelS.updD {q : Pm} {H : Hp} {D : Addr} {zs : List V} {σ : L2.St} {env : Env} (hD : D ∈ q.ex) (hL : ∃ xs, H D = some (.lst xs)) (r : RelS q H σ env) : RelS q (upd H D (.lst zs)) σ env := ⟨r.1, fun i t z => let ⟨v, a, b⟩ := r.2 i t z; ⟨v, a, b.updD hD hL⟩⟩
theorem Ok.updD {q : Pm} {H : Hp} {D : Addr} {zs : List V} {dr : List T} (o : Ok q H dr) (hD : D ∈ q.ex) (hL : ∃ xs, H D = some (.lst xs)) : Ok q (upd H D (.lst zs)) dr := by
  obtain ⟨o1, o2, o3⟩ := o
  refine ⟨?_, fun P hP => ?_, fun a ha => ⟨(o3 a ha).1, ?_⟩⟩
  · unfold DrOk at o1 ⊢
    cases hd : q.d with
    | none => trivial
    | some a =>
      rw [hd] at o1
      obtain ⟨vs, h1, h2⟩ := o1
      have ne : a ≠ D := fun z => (o3 D hD).1 (by rw [hd, z])
      exact ⟨vs, by rw [upd_ne ne]; exact h1, h2.updD hD hL⟩
  · obtain ⟨ps, h1, h2⟩ := o2 P hP
    obtain ⟨xs, hL'⟩ := hL
    exact ⟨ps, by rw [upd_ne (fun z => by rw [z, hL'] at h1; cases h1)]; exact h1, h2⟩
  · by_cases e : a = D
    · rw [e]; exact ⟨zs, upd_same⟩
    · rw [upd_ne e]; exact (o3 a ha).2

/-! ### what is walked -/
def ItOk (p : Pm) (J : It) (ts : List T) (H1 : Hp) : Prop := ∀ (ex : List Addr), (∀ a ∈ ex, a ∈ p.ex ∨ H1 a = none) → ∀ H, Ext p H1 H → ∀ i : Nat,
  (∀ t, ts[i]? = some t → J.go i H ∧ ∀ x H', J.yld i H x H' → Same H H' ∧ Rep (p.w ex) H' t x) ∧ (i = ts.length → J.stop i H)
def tI (p : Pm) (fi : AF) : TI := fun σ H R => ∃ env dr ts dr', RelS p H σ env ∧ Ok p H dr ∧ fi env dr = some (ts, dr') ∧ ∀ J H1, Ext p H H1 → Ok p H1 dr' → ItOk p J ts H1 → R J H1
abbrev SI (p : Pm) (X : Cx) (tg iter : Expr) (fi : AF) : Prop := PI X tg iter (tI p fi)
section
variable {p : Pm} {X : Cx} (hK : p.K = X.K) {tg e : Expr} {f : EF}
theorem it_list {c : Addr} {ts : List T} {vs : List V} {H : Hp} (hf : SqF p H c vs) (r : Reps p H ts vs) : ItOk p (Itl p.K c) ts H := by
  intro ex hex H2 e i
  have s2 := (e.sqF hf).sq
  have r2 := (r.more hex).ext e.w
  have inj : ∀ xs, SqL p.K H2 c xs → True := fun _ _ => trivial
  refine ⟨fun t ht => ?_, fun hi => ⟨vs, s2, by rw [r.length]; omega⟩⟩
  obtain ⟨v, h1, h2⟩ := r2.get ht
  exact ⟨⟨vs, v, s2, h1⟩, fun x H' ⟨e1, h3⟩ => by
    subst e1
    have := h3 vs s2
    rw [h1] at this
    cases this
    exact ⟨Same.refl _, h2⟩⟩
theorem it_tup {c : Addr} {ts : List T} {vs : List V} {H : Hp} (hf : SqT p.K H c vs) (r : Reps p H ts vs) : ItOk p (Itt p.K c) ts H := by
  intro ex hex H2 e i
  have s2 := e.sqT hf
  have r2 := (r.more hex).ext e.w
  refine ⟨fun t ht => ?_, fun hi => ⟨vs, s2, by rw [r.length]; omega⟩⟩
  obtain ⟨v, h1, h2⟩ := r2.get ht
  exact ⟨⟨vs, v, s2, h1⟩, fun x H' ⟨e1, h3⟩ => by
    subst e1
    have := h3 vs s2
    rw [h1] at this
    cases this
    exact ⟨Same.refl _, h2⟩⟩
theorem it_str {x : Str} {H : Hp} : ItOk p (Its x) (x.cps.toList.map fun c => .str [c]) H := by
  intro ex hex H2 e i
  refine ⟨fun t ht => ?_, fun hi => by rw [hi, List.length_map]; simp [Its]⟩
  rw [List.getElem?_map] at ht
  cases hc : x.cps.toList[i]? with
  | none => rw [hc] at ht; cases ht
  | some c =>
    rw [hc] at ht
    cases ht
    have hi := (List.getElem?_eq_some_iff.mp hc).1
    refine ⟨show i < x.cps.size by simpa using hi, fun v H' ⟨e1, c', e2, e3⟩ => ?_⟩
    subst e1
    rw [← Array.getElem?_toList, hc] at e2
    cases e2
    exact ⟨Same.refl _, _, e3, rfl⟩
def rngL (lo : Int) (n : Nat) : List T := (List.range n).map fun (i : Nat) => .int (lo + (i : Int))
theorem it_rng {lo : Int} {n : Nat} {H : Hp} : ItOk p (Itr lo n) (rngL lo n) H := by
  intro ex hex H2 e i
  unfold rngL
  refine ⟨fun t ht => ?_, fun hi => by rw [hi, List.length_map, List.length_range]; exact Nat.le_refl _⟩
  rw [List.getElem?_map] at ht
  cases hc : (List.range n)[i]? with
  | none => rw [hc] at ht; cases ht
  | some c =>
    rw [hc] at ht
    cases ht
    obtain ⟨hi, e2⟩ := List.getElem?_eq_some_iff.mp hc
    rw [List.getElem_range] at e2
    subst e2
    rw [List.length_range] at hi
    exact ⟨hi, fun v H' ⟨e1, e3⟩ => by subst e1; exact ⟨Same.refl _, e3⟩⟩
/-- a list, a tuple, a text -/
def iSeq (f : EF) : AF := fun env dr => match f env dr with
  | some (.tup ts, dr1) => some (ts, dr1)
  | some (.lst ts, dr1) => some (ts, dr1)
  | some (.fls ts, dr1) => some (ts, dr1)
  | some (.str cs, dr1) => some (cs.map (fun c => .str [c]), dr1)
  | _ => none
include hK in
theorem si_seq (ha : SE p X e f) : SI p X tg e (iSeq f) := ⟨fun pins s σ H R I ⟨env, dr, ts, dr', hR, hO, hf, q⟩ => by
  unfold iSeq at hf
  split at hf
  · rename_i us dr1 h1
    cases hf
    refine (pi_tup ha).run pins s σ H R I ⟨env, dr, _, _, hR, hO, h1, fun v H1 e1 r1 o1 => ?_⟩
    obtain ⟨c, vs, rfl, hh, s1⟩ := r1
    exact ⟨c, rfl, ⟨vs, hK ▸ hh⟩, hK ▸ q _ H1 e1 o1 (it_tup hh s1)⟩
  · rename_i us dr1 h1
    cases hf
    refine (pi_list ha).run pins s σ H R I ⟨env, dr, _, _, hR, hO, h1, fun v H1 e1 r1 o1 => ?_⟩
    obtain ⟨c, vs, rfl, hh, n1, s1⟩ := r1
    exact ⟨c, rfl, ⟨vs, .inl (.inl hh)⟩, hK ▸ q _ H1 e1 o1 (it_list (.inl ⟨.inl hh, n1⟩) s1)⟩
  · rename_i us dr1 h1
    cases hf
    refine (pi_list ha).run pins s σ H R I ⟨env, dr, _, _, hR, hO, h1, fun v H1 e1 r1 o1 => ?_⟩
    obtain ⟨c, vs, rfl, hh, s1⟩ := r1
    exact ⟨c, rfl, ⟨vs, hK ▸ hh.sq⟩, hK ▸ q _ H1 e1 o1 (it_list hh s1)⟩
  · rename_i us dr1 h1
    cases hf
    refine (pi_str ha).run pins s σ H R I ⟨env, dr, _, _, hR, hO, h1, fun v H1 e1 r1 o1 => ?_⟩
    obtain ⟨x, rfl, ex⟩ := r1
    subst ex
    exact ⟨x, rfl, q _ H1 e1 o1 it_str⟩
  · cases hf⟩
def rngOk (i : Int) : Prop := -(2 ^ 62) ≤ i ∧ i < 2 ^ 62
instance (i : Int) : Decidable (rngOk i) := inferInstanceAs (Decidable (_ ∧ _))
def iRng1 (l : EF) : AF := fun env dr => match l env dr with
  | some (.int j, dr1) => if rngOk j then some (rngL 0 j.toNat, dr1) else none
  | _ => none
def iRng2 (l g : EF) : AF := fun env dr => match l env dr with
  | some (.int i, dr1) => (match g env dr1 with
    | some (.int j, dr2) => if rngOk i ∧ rngOk j then some (rngL i (j - i).toNat, dr2) else none
    | _ => none)
  | _ => none
theorem si_rng1 {a : Expr} {f : EF} {pp pos : Pos} (hm : X.mg "range" = none) (ha : SE p X a f) (hg : Gl X "range" := by rfl) (hs : starEach [a] X.env = [(false, eval a X.env)] := by rfl) : SI p X tg (.Call (.Name "range" pp) [a] [] pos) (FL.iRng1 f) := ⟨fun pins s σ H R I ⟨env, dr, ts, dr', hR, hO, hf, q⟩ => by
  unfold FL.iRng1 at hf
  split at hf
  · rename_i j dr1 h1
    split at hf
    · rename_i hz
      cases hf
      refine (pi_range1 hg hm (pa_cons ha pa_nil hs) hs).run pins s σ H R I ⟨env, dr, _, _, hR, hO, h1, fun v H1 e1 r1 o1 => ?_⟩
      exact ⟨j, by rw [show v = _ from r1], hz.1, hz.2, q _ H1 e1 o1 it_rng⟩
    · cases hf
  · cases hf⟩
theorem si_rng2 {a b : Expr} {f g : EF} {pp pos : Pos} (hm : X.mg "range" = none) (ha : SE p X a f) (hb : SE p X b g) (hg : Gl X "range" := by rfl) (hs : starEach [a, b] X.env = [(false, eval a X.env), (false, eval b X.env)] := by rfl) (hs2 : starEach [b] X.env = [(false, eval b X.env)] := by rfl) :
    SI p X tg (.Call (.Name "range" pp) [a, b] [] pos) (FL.iRng2 f g) := ⟨fun pins s σ H R I ⟨env, dr, ts, dr', hR, hO, hf, q⟩ => by
  unfold FL.iRng2 at hf
  split at hf
  · rename_i i dr1 h1
    split at hf
    · rename_i j dr2 h2
      split at hf
      · rename_i hz
        cases hf
        refine (pi_range2 hg hm (pa_cons ha (pa_cons hb pa_nil hs2) (by rw [hs, hs2])) hs hs2).run pins s σ H R I ⟨env, dr, _, _, hR, hO, h1, fun v H1 e1 r1 o1 => ⟨env, dr1, _, _, hR.ext e1, o1, h2, fun u H2 e2 r2 o2 => ?_⟩⟩
        exact ⟨i, j, by rw [show v = _ from r1, show u = _ from r2], ⟨hz.1.1, hz.1.2, hz.2.1, hz.2.2⟩, q _ H2 (e1.trans e2) o2 it_rng⟩
      · cases hf
    · cases hf
  · cases hf⟩

/-! ### list comprehensions -/
abbrev BF := T → Env → Option Env
def bN (i : Nat) : BF := fun t env => some (env.set i (some t))
def bN2 (i j : Nat) : BF := fun t env => match t with
  | .tup [a, b] => some ((env.set i (some a)).set j (some b))
  | _ => none
def uYes : TF := fun _ dr => some (true, dr)
def lcGo (b : BF) (u : TF) (f : EF) (envw : Env) : List T → List T → Option (List T × List T)
  | [], dr => some ([], dr)
  | t :: ts, dr => match b t envw with
    | none => none
    | some env1 => match u env1 dr with
      | none => none
      | some (false, dr1) => lcGo b u f envw ts dr1
      | some (true, dr1) => match f env1 dr1 with
        | none => none
        | some (y, dr2) => match lcGo b u f envw ts dr2 with
          | none => none
          | some (ys, dr3) => some (y :: ys, dr3)
def lcF (fi : AF) (b : BF) (u : TF) (f : EF) (vs : List Nat) : EF := fun env dr => match fi env dr with
  | none => none
  | some (ts, dr1) => match lcGo b u f (wipeE env vs) ts dr1 with
    | none => none
    | some (ys, dr2) => if ys.length ≤ lim then some (.lst ys, dr2) else none
/-- what a target's reading does with a tree -/
def GOk (p : Pm) (X : Cx) (g : TG) (b : BF) (vs : List Nat) : Prop := ∀ (ex : List Addr) (t : T) (v : V) (σ : L2.St) (H : Hp) (env env1 : Env) (Q : L2.St → Hp → Prop), Rep (p.w ex) H t v → RelS (p.w ex) H σ env → b t env = some env1 →
  (∀ σ2, RelS (p.w ex) H σ2 env1 → wipe σ2 vs = wipe σ vs → Q σ2 H) → g v σ H Q
theorem wipe_set {σ : L2.St} {v : Option V} {i : Nat} : ∀ {vs : List Nat}, i ∈ vs → wipe (σ.set i v) vs = wipe σ vs
  | [], h => by cases h
  | j :: vs, h => by
    unfold wipe
    by_cases e : i ∈ vs
    · rw [wipe_set e]
    · have : i = j := by
        rcases List.mem_cons.mp h with h | h
        · exact h
        · exact absurd h e
      subst this
      clear h
      have key : ∀ (us : List Nat) (τ : L2.St), i ∉ us → wipe (τ.set i v) us = (wipe τ us).set i v := by
        intro us
        induction us with
        | nil => intro τ _; rfl
        | cons k us ih =>
          intro τ hk
          unfold wipe
          rw [ih τ fun z => hk (List.mem_cons_of_mem _ z), List.set_comm _ _ (fun z => hk (by rw [z]; exact List.mem_cons_self))]
      rw [key vs σ e, List.set_set]
theorem g_name {i : Nat} {vs : List Nat} (h : i ∈ vs) : GOk p X (gName i) (bN i) vs := fun ex t v σ H env env1 Q r rs e q => by
  cases e
  exact q _ (rs.set r i) (wipe_set h)
include hK in
theorem g_two {i j : Nat} {vs : List Nat} (hi : i ∈ vs) (hj : j ∈ vs) : GOk p X (gTup X.K 2 (gCons (gName i) (gCons (gName j) gNil))) (bN2 i j) vs := fun ex t v σ H env env1 Q r rs e q => by
  unfold bN2 at e
  split at e
  · cases e
    obtain ⟨a, xs, rfl, hh, s1⟩ := r
    obtain ⟨x, r1, rfl, hx, s2⟩ := s1
    obtain ⟨y, r2, rfl, hy, s3⟩ := s2
    have : r2 = [] := s3
    subst this
    refine ⟨a, [x, y], rfl, hK ▸ hh, rfl, x, [y], rfl, y, [], rfl, rfl, q _ ((rs.set hx i).set hy j) ?_⟩
    rw [wipe_set hj, wipe_set hi]
  · cases e
theorem lc_go_cons {b : BF} {u : TF} {f : EF} {envw : Env} {t : T} {ts dr ys dr' : List T} (h : lcGo b u f envw (t :: ts) dr = some (ys, dr')) :
    ∃ env1, b t envw = some env1 ∧ ((∃ dr1, u env1 dr = some (false, dr1) ∧ lcGo b u f envw ts dr1 = some (ys, dr')) ∨ ∃ dr1 y dr2 zs, u env1 dr = some (true, dr1) ∧ f env1 dr1 = some (y, dr2) ∧ lcGo b u f envw ts dr2 = some (zs, dr') ∧ ys = y :: zs) := by
  unfold lcGo at h
  cases h1 : b t envw with
  | none => rw [h1] at h; cases h
  | some env1 =>
    rw [h1] at h
    dsimp only at h
    refine ⟨env1, rfl, ?_⟩
    split at h
    · cases h
    · rename_i dr1 h2
      exact .inl ⟨dr1, h2, h⟩
    · rename_i dr1 h2
      right
      cases h3 : f env1 dr1 with
      | none => rw [h3] at h; cases h
      | some z =>
        obtain ⟨y, dr2⟩ := z
        rw [h3] at h
        dsimp only at h
        cases h4 : lcGo b u f envw ts dr2 with
        | none => rw [h4] at h; cases h
        | some z =>
          obtain ⟨zs, dr3⟩ := z
          rw [h4] at h
          cases h
          exact ⟨dr1, y, dr2, zs, h2, h3, h4, rfl⟩
theorem lc_len {b : BF} {u : TF} {f : EF} {envw : Env} : ∀ {ts dr ys dr' : List T}, lcGo b u f envw ts dr = some (ys, dr') → ys.length ≤ ts.length
  | [], _, _, _, h => by cases h; exact Nat.le_refl _
  | t :: ts, _, _, _, h => by
    obtain ⟨env1, _, ⟨dr1, _, h3⟩ | ⟨dr1, y, dr2, zs, _, _, h3, rfl⟩⟩ := lc_go_cons h
    · exact Nat.le_succ_of_le (lc_len h3)
    · exact Nat.succ_le_succ (lc_len h3)
/-- the tests' and the element's readings, whatever the new list is -/
def tTD (p : Pm) (u : TF) : TT := fun σ H Q => ∃ D : Addr, tT (p.w (D :: p.ex)) u σ H Q
def tED (p : Pm) (f : EF) : TE := fun σ H Q => ∃ D : Addr, tE (p.w (D :: p.ex)) f σ H Q
theorem pts_yes {Y : Cx} : PTs Y [] (tTD p uYes) := ⟨fun pins s σ H Q I ⟨D, env, dr, t, dr', hR, hO, hf, q⟩ => by
  cases hf
  exact wpAny_tests_nil ⟨H, I, q H .refl hO⟩⟩
theorem pts_if {Y : Cx} {c : Expr} {u : TF} (h : ∀ D, SB (p.w (D :: p.ex)) Y c u) : PTs Y [c] (tTD p u) := pts_one ⟨fun pins s σ H Q I ⟨D, q⟩ => (h D).run pins s σ H Q I q⟩
theorem pe_D {Y : Cx} {c : Expr} {f : EF} (h : ∀ D, SE (p.w (D :: p.ex)) Y c f) : PE Y c (tED p f) := ⟨fun pins s σ H Q I ⟨D, q⟩ => (h D).run pins s σ H Q I q⟩
theorem wipe_idem (σ : L2.St) (vs : List Nat) : wipe (wipe σ vs) vs = wipe σ vs := by
  have idem : ∀ us : List Nat, (∀ k ∈ us, k ∈ vs) → wipe (wipe σ vs) us = wipe σ vs := by
    intro us
    induction us with
    | nil => intro _; rfl
    | cons k us ih =>
      intro hk
      show (wipe (wipe σ vs) us).set k none = wipe σ vs
      rw [ih fun j hj => hk j (List.mem_cons_of_mem _ hj)]
      have nn : ∀ {ws : List Nat}, k ∈ ws → (wipe σ ws).set k none = wipe σ ws := by
        intro ws
        induction ws with
        | nil => intro h; cases h
        | cons l ws ihw =>
          intro h
          show ((wipe σ ws).set l none).set k none = (wipe σ ws).set l none
          by_cases e : k = l
          · subst e; rw [List.set_set]
          · rw [List.set_comm _ _ (Ne.symm e)]
            rcases List.mem_cons.mp h with h | h
            · exact absurd h e
            · rw [ihw h]
      exact nn (hk k List.mem_cons_self)
  exact idem vs fun k h => h
theorem tLc_in {fi : AF} {b : BF} {u : TF} {f : EF} {g : TG} {vs : List Nat} (hg : GOk p X g b vs) : ∀ σ H Q, tE p (lcF fi b u f vs) σ H Q → tLc (tI p fi) g (tTD p u) (tED p f) vs σ H Q := fun σ H Q ⟨env, dr, t, dr', hR, hO, hf, q⟩ => by
  unfold lcF at hf
  cases h1 : fi env dr with
  | none => rw [h1] at hf; cases hf
  | some z =>
    obtain ⟨ts, dr1⟩ := z
    rw [h1] at hf
    dsimp only at hf
    cases h2 : lcGo b u f (wipeE env vs) ts dr1 with
    | none => rw [h2] at hf; cases hf
    | some z =>
      obtain ⟨ys, dr2⟩ := z
      rw [h2] at hf
      dsimp only at hf
      split at hf
      · rename_i hz
        cases hf
        refine ⟨env, dr, ts, dr1, hR, hO, h1, fun J H1 e1 o1 hJ D hD => ?_⟩
        have hex : ∀ a ∈ D :: p.ex, a ∈ p.ex ∨ H1 a = none := fun a ha => (List.mem_cons.mp ha).elim (fun z => .inr (by rw [z]; exact hD)) .inl
        have hless : ∀ a ∈ p.ex, a ∈ D :: p.ex := fun a ha => List.mem_cons_of_mem _ ha
        have s0 : Same H1 (upd H1 D (.lst [])) := same_new hD _
        have okD : ∀ {H2 : Hp} {dr3 : List T}, Ok (p.w (D :: p.ex)) H2 dr3 → Ok p H2 dr3 := fun o => o.less hless
        have fD : Fre p D := d_ne o1 hD
        refine ⟨fun i m H2 => ∃ done dr3 acc rest, m = ts.length - i ∧ i ≤ ts.length ∧ H2 D = some (.lst acc) ∧ Reps (p.w (D :: p.ex)) H2 done acc ∧ Ext p H1 H2 ∧ Ok (p.w (D :: p.ex)) H2 dr3 ∧ RelS (p.w (D :: p.ex)) H2 (wipe σ vs) (wipeE env vs) ∧ lcGo b u f (wipeE env vs) (ts.drop i) dr3 = some (rest, _) ∧ done ++ rest = ys,
          ⟨ts.length, [], dr1, [], ys, by simp, Nat.zero_le _, upd_same, .nil, .same s0, ?_, ?_, by rw [List.drop_zero]; exact h2, rfl⟩, ?_⟩
        · have o2 := o1.same s0
          refine ⟨(o1.1.more hex).ext (.same s0) fun a xs z => s0 _ _ z, o2.2.1, fun a ha => ?_⟩
          rcases List.mem_cons.mp ha with rfl | ha
          · exact ⟨fD.1, [], upd_same⟩
          · exact o2.2.2 a ha
        · exact (((hR.ext e1).more hex).ext (.same s0)).wipe vs
        rintro i m H2 ⟨done, dr3, acc, rest, rfl, hi, hD2, rd, e2, o2, rs, go, hys⟩
        obtain ⟨jgo, jstop⟩ := hJ (D :: p.ex) hex H2 e2 i
        rcases Nat.lt_or_ge i ts.length with hlt | hge
        · right
          have hdrop : ts.drop i = ts[i] :: ts.drop (i + 1) := List.drop_eq_getElem_cons hlt
          rw [hdrop] at go
          obtain ⟨j1, j2⟩ := jgo ts[i] (List.getElem?_eq_getElem hlt)
          have alen : acc.length ≤ lim := by
            rw [rd.length]
            have : done.length ≤ ys.length := by rw [← hys, List.length_append]; omega
            omega
          refine ⟨j1, fun H3 => ∃ done dr3 acc rest, H3 D = some (.lst acc) ∧ Reps (p.w (D :: p.ex)) H3 done acc ∧ Ext p H1 H3 ∧ Ok (p.w (D :: p.ex)) H3 dr3 ∧ RelS (p.w (D :: p.ex)) H3 (wipe σ vs) (wipeE env vs) ∧ lcGo b u f (wipeE env vs) (ts.drop (i + 1)) dr3 = some (rest, _) ∧ done ++ rest = ys,
            fun H3 ⟨a1, a2, a3, a4, b1, b2, b3, b4, b5, b6, b7⟩ => ⟨ts.length - (i + 1), by omega, a1, a2, a3, a4, rfl, hlt, b1, b2, b3, b4, b5, b6, b7⟩, fun x H3 yx => ?_⟩
          obtain ⟨s3, rx⟩ := j2 x H3 yx
          obtain ⟨env1, hb, hcase⟩ := lc_go_cons go
          refine hg (D :: p.ex) ts[i] x (wipe σ vs) H3 (wipeE env vs) env1 _ rx (rs.ext (.same s3)) hb fun σ2 rs2 hw2 => ⟨?_, ?_⟩
          · rw [hw2]
            exact wipe_idem _ _
          have oD : Ok (p.w (D :: p.ex)) H3 dr3 := o2.same s3
          have e3 : Ext (p.w (D :: p.ex)) H2 H3 := .same s3
          rcases hcase with ⟨dr4, hu, hgo⟩ | ⟨dr4, y, dr5, zs, hu, hf5, hgo, rfl⟩
          · refine ⟨D, env1, dr3, false, dr4, rs2, oD, hu, fun H4 e4 o4 => ?_⟩
            refine iteF ?_
            have e24 := e3.trans e4
            exact ⟨done, dr4, acc, rest, e24.lst _ _ fD.1 hD2, rd.ext e24, e2.trans e24.unw, o4, rs.ext e24, hgo, hys⟩
          · refine ⟨D, env1, dr3, true, dr4, rs2, oD, hu, fun H4 e4 o4 => ?_⟩
            refine iteT ?_
            refine ⟨D, env1, dr4, y, dr5, rs2.ext e4, o4, hf5, fun v H5 e5 r5 o5 => ?_⟩
            have e25 := e3.trans (e4.trans e5)
            have hD5 := e25.lst _ _ fD.1 hD2
            refine ⟨acc, hD5, Nat.lt_of_le_of_lt alen (by decide), ?_⟩
            -- the list grows
            have noD : ∀ (a : Addr) (o : HO), H1 a = some o → a ≠ D := fun a o z w => by rw [w, hD] at z; cases z
            have eG : Ext p H1 (upd H5 D (.lst (acc ++ [v]))) := by
              have e15 := e2.trans e25.unw
              refine ⟨fun a xs z => ?_, fun a o w z => ?_, fun a xs n z => ?_, fun P z => ?_, fun a φ z => ?_⟩
              · rw [upd_ne (noD a _ z)]; exact e15.tup _ _ z
              · rw [upd_ne (noD a _ z)]; exact e15.frz _ _ _ z
              · rw [upd_ne (noD a _ z)]; exact e15.lst _ _ n z
              · have hne : P ≠ D := by obtain ⟨ps, z1, _⟩ := z; exact noD P _ z1
                obtain ⟨qs, z2, z3⟩ := e15.tab P z
                exact ⟨qs, by rw [upd_ne hne]; exact z2, z3⟩
              · rw [upd_ne (noD a _ z)]; exact e15.ext _ _ z
            have o6 := o5.updD (zs := acc ++ [v]) List.mem_cons_self ⟨acc, hD5⟩
            exact ⟨done ++ [y], dr5, acc ++ [v], zs, upd_same, (rd.ext e25).append (.cons r5 .nil) |>.updD List.mem_cons_self ⟨acc, hD5⟩, eG, o6, (rs.ext e25).updD List.mem_cons_self ⟨acc, hD5⟩, hgo, by rw [List.append_assoc]; exact hys⟩
        · left
          have hie : i = ts.length := by omega
          rw [hie, List.drop_length] at go
          cases go
          rw [List.append_nil] at hys
          subst hys
          exact ⟨jstop hie, q _ H2 (e1.trans e2) ⟨D, acc, rfl, hD2, fD, rd.less hless⟩ (okD o2)⟩
      · cases hf

variable {elt iter : Expr} {scope : Scope} {own : List (Str × Nat)} {pos : Pos} {fi : AF} {u : TF}
theorem se_lc {ifs : List Expr} {g : TG} {b : BF} (hgb : GOk p X g b (own.map (·.2))) (hc : X.calm = true) (hN : X.N.Nodup) (hi : SI p X tg iter fi) (ok : BlkOk X.N X.env.scope scope own)
    (hg : ∀ (s : Shared) (H : Hp) (C : Addr) (cl : List (Str × Addr)) (fp : List Addr), PG (X.blk s H scope (compEnvC scope cl C X.env) fp) tg g)
    (ht : ∀ (s : Shared) (H : Hp) (C : Addr) (cl : List (Str × Addr)) (fp : List Addr), PTs (X.blk s H scope (compEnvC scope cl C X.env) fp) ifs (tTD p u))
    (he : ∀ (D : Addr) (s : Shared) (H : Hp) (C : Addr) (cl : List (Str × Addr)) (fp : List Addr), SE (p.w (D :: p.ex)) (X.blk s H scope (compEnvC scope cl C X.env) fp) elt f)
    (hs : ∀ x, foldedSetIterable iter X.env x = pure x := by intro _; rfl) : SE p X (.ListComp elt [⟨tg, iter, ifs, 0⟩] scope pos) (lcF fi b u f (own.map (·.2))) :=
  pe_imp (pe_lc hc hN hi ok hg ht (fun s H C cl fp => pe_D fun D => he D s H C cl fp) hs) (tLc_in hgb)

/-! ### all(.. for ..) -/
def allGo (b : BF) (f : EF) (envw : Env) : List T → List T → Option (T × List T)
  | [], dr => some (.bl true, dr)
  | t :: ts, dr => match b t envw with
    | none => none
    | some env1 => match f env1 dr with
      | some (.bl false, dr1) => some (.bl false, dr1)
      | some (.bl true, dr1) => allGo b f envw ts dr1
      | _ => none
def allG (fi : AF) (b : BF) (f : EF) (vs : List Nat) : EF := fun env dr => match fi env dr with
  | none => none
  | some (ts, dr1) => allGo b f (wipeE env vs) ts dr1
theorem se_allG {P cA : Addr} {g : TG} {b : BF} {k : Nat} {pp gpos : Pos} (hgb : GOk p X g b (own.map (·.2))) (hP : P ∈ p.tabs) (hc : X.calm = true) (hN : X.N.Nodup) (hr : Room (k + 1) X.A) (hm : X.mg "all" = none) (TB : TabB X.base X.mg cA P) (hcode : X.env.code = .ref cA)
    (S : GenO X scope own) (hi : SI p X tg iter fi)
    (hpg : ∀ (A' : Around) (s : Shared) (H : Hp) (C : Addr) (cl : List (Str × Addr)) (code : Value) (fp : List Addr) (pn : List (Addr × Obj)), PG (gx X A' s H scope (genEnv scope cl C code builtinsNs X.env) fp pn) tg g)
    (hpe : ∀ (A' : Around) (s : Shared) (H : Hp) (C : Addr) (cl : List (Str × Addr)) (code : Value) (fp : List Addr) (pn : List (Addr × Obj)), Room k A' → SE p (gx X A' s H scope (genEnv scope cl C code builtinsNs X.env) fp pn) elt f)
    (hg : Gl X "all" := by rfl) (hs : ∀ v, genFold iter X.env v = pure v := by intro _; rfl)
    (he : starEach [.GeneratorExp elt [⟨tg, iter, [], 0⟩] scope gpos] X.env = (false, eval (.GeneratorExp elt [⟨tg, iter, [], 0⟩] scope gpos) X.env) :: starEach [] X.env := by rfl) :
    SE p X (.Call (.Name "all" pp) [.GeneratorExp elt [⟨tg, iter, [], 0⟩] scope gpos] [] pos) (allG fi b f (own.map (·.2))) :=
  pe_imp (pe_allG hc hN hr hg hm (by decide +kernel) TB hcode S hi hpg hpe hs he) fun σ H Q ⟨env, dr, t, dr', hR, hO, hf, q⟩ => by
    unfold allG at hf
    cases h1 : fi env dr with
    | none => rw [h1] at hf; cases hf
    | some z =>
      obtain ⟨ts, dr1⟩ := z
      rw [h1] at hf
      dsimp only at hf
      refine ⟨env, dr, ts, dr1, hR, hO, h1, fun J H1 e1 o1 hJ => ⟨o1.2.1 P hP, fun H2 tb => ?_⟩⟩
      have e12 : Ext p H1 H2 := Ext.tabbed (o1.2.1 P hP) tb
      have o2 := o1.tabbed (o1.2.1 P hP) tb
      refine ⟨ts.length, fun i H3 => ∃ dr3, i ≤ ts.length ∧ Ext p H1 H3 ∧ Ok p H3 dr3 ∧ RelS p H3 (wipe σ (own.map (·.2))) (wipeE env (own.map (·.2))) ∧ allGo b f (wipeE env (own.map (·.2))) (ts.drop i) dr3 = some (t, dr'),
        ⟨dr1, Nat.zero_le _, e12, o2, ((hR.ext e1).ext e12).wipe _, by rw [List.drop_zero]; exact hf⟩, ?_⟩
      rintro i H3 ⟨dr3, hi3, e13, o3, rs, go⟩
      obtain ⟨jgo, jstop⟩ := hJ p.ex (fun a ha => .inl ha) H3 e13 i
      rcases Nat.lt_or_ge i ts.length with hlt | hge
      · right
        obtain ⟨j1, j2⟩ := jgo ts[i] (List.getElem?_eq_getElem hlt)
        have hdrop : ts.drop i = ts[i] :: ts.drop (i + 1) := List.drop_eq_getElem_cons hlt
        rw [hdrop] at go
        refine ⟨hlt, j1, fun v H4 yv => ?_⟩
        obtain ⟨s4, rv⟩ := j2 v H4 yv
        unfold allGo at go
        cases hb : b ts[i] (wipeE env (own.map (·.2))) with
        | none => rw [hb] at go; cases go
        | some env1 =>
          rw [hb] at go
          dsimp only at go
          refine hgb p.ex ts[i] v _ H4 _ env1 _ rv (rs.ext (.same s4)) hb fun σ2 rs2 hw2 => ⟨?_, ?_⟩
          · rw [hw2]
            exact wipe_idem _ _
          split at go
          · rename_i dr4 hf4
            cases go
            exact ⟨env1, dr3, _, _, rs2, o3.same s4, hf4, fun w H5 e5 r5 o5 => ⟨false, r5, fun _ => q _ H5 (e1.trans (e13.trans ((Ext.same s4).trans e5))) rfl o5, fun z => by cases z⟩⟩
          · rename_i dr4 hf4
            exact ⟨env1, dr3, _, dr4, rs2, o3.same s4, hf4, fun w H5 e5 r5 o5 => ⟨true, r5, And.intro (fun z => nomatch z) (fun _ => ⟨dr4, hlt, e13.trans ((Ext.same s4).trans e5), o5, rs.ext ((Ext.same s4).trans e5), go⟩)⟩⟩
          · cases go
      · left
        have hie : i = ts.length := by omega
        rw [hie, List.drop_length] at go
        cases go
        exact ⟨hie, jstop hie, q _ H3 (e1.trans e13) rfl o3⟩
end
end FL
set_option linter.all false
set_option maxRecDepth 100000
set_option maxHeartbeats 2000000
namespace FL
open PySem PySem.Spec PyProof.Rows L2 GxR GA

inductive Out where
  | nx (e : Env) | rt (t : T) | bk (e : Env) | ct (e : Env)
abbrev SF := Env → List T → Option (Out × List T)
def Post (p : Pm) (H : Hp) (D : Ends) (dr : List T) : Out → Prop
  | .nx e => ∀ σ' H', Ext p H H' → RelS p H' σ' e → Ok p H' dr → D.nx σ' H'
  | .rt t => ∀ v H', Ext p H H' → Rep p H' t v → Ok p H' dr → D.rt v H'
  | .bk e => ∀ σ' H', Ext p H H' → RelS p H' σ' e → Ok p H' dr → D.bk σ' H'
  | .ct e => ∀ σ' H', Ext p H H' → RelS p H' σ' e → Ok p H' dr → D.ct σ' H'
def tS (p : Pm) (f : SF) : TS := fun D σ H => ∃ env dr o dr', RelS p H σ env ∧ Ok p H dr ∧ f env dr = some (o, dr') ∧ Post p H D dr' o
theorem Post.ext {p : Pm} {H H1 : Hp} {D : Ends} {dr : List T} {o : Out} (e : Ext p H H1) (h : Post p H D dr o) : Post p H1 D dr o := by
  cases o with
  | nx env => exact fun σ' H' e' => h σ' H' (e.trans e')
  | rt env => exact fun σ' H' e' => h σ' H' (e.trans e')
  | bk env => exact fun σ' H' e' => h σ' H' (e.trans e')
  | ct env => exact fun σ' H' e' => h σ' H' (e.trans e')
abbrev SS (p : Pm) (X : Cx) (st : Stmt) (f : SF) : Prop := PS X st (tS p f)
abbrev SSs (p : Pm) (X : Cx) (st : List Stmt) (f : SF) : Prop := PSs X st (tS p f)
section
variable {X : Cx} {st : Stmt} {sts : List Stmt}
theorem ps_imp {t t' : TS} (h : PS X st t) (hi : ∀ D σ H, t' D σ H → t D σ H) : PS X st t' := ⟨fun pins s σ H D I q => h.run pins s σ H D I (hi D σ H q)⟩
theorem pss_imp {t t' : TS} (h : PSs X sts t) (hi : ∀ D σ H, t' D σ H → t D σ H) : PSs X sts t' := ⟨fun pins s σ H D I q => h.run pins s σ H D I (hi D σ H q)⟩
end

section
variable {p : Pm} {X : Cx} (hK : p.K = X.K) {st : Stmt} {rest : List Stmt} {a b e : Expr} {pos : Pos} {f g : EF} {u v : SF}
def sNil : SF := fun env dr => some (.nx env, dr)
def sSeq (u v : SF) : SF := fun env dr => match u env dr with
  | some (.nx env1, dr1) => v env1 dr1
  | r => r
theorem ss_nil : SSs p X [] sNil := pss_imp pss_nil fun D σ H ⟨env, dr, o, dr', hR, hO, hf, q⟩ => by
  cases hf
  exact q σ H .refl hR hO
theorem tS_seq : ∀ D σ H, tS p (sSeq u v) D σ H → tSeq (tS p u) (tS p v) D σ H := fun D σ H ⟨env, dr, o, dr', hR, hO, hf, q⟩ => by
  unfold sSeq at hf
  split at hf
  · rename_i env1 dr1 h1
    exact ⟨env, dr, _, dr1, hR, hO, h1, fun σ' H' e' r' o' => ⟨env1, dr1, o, dr', r', o', hf, q.ext e'⟩⟩
  · rename_i r hne
    refine ⟨env, dr, o, dr', hR, hO, hf, ?_⟩
    cases o with
    | nx env1 => exact absurd hf (hne env1 dr')
    | rt t => exact q
    | bk t => exact q
    | ct t => exact q
theorem ss_cons (h1 : SS p X st u) (h2 : SSs p X rest v) : SSs p X (st :: rest) (sSeq u v) := pss_imp (pss_cons h1 h2) tS_seq
theorem ss_one (h1 : SS p X st u) : SSs p X [st] u := pss_one h1
def sRet (f : EF) : SF := fun env dr => match f env dr with
  | some (t, dr1) => some (.rt t, dr1)
  | none => none
theorem ss_ret (ha : SE p X e f) : SS p X (.Return (some e) pos) (sRet f) := ps_imp (ps_ret ha) fun D σ H ⟨env, dr, o, dr', hR, hO, hf, q⟩ => by
  unfold sRet at hf
  split at hf
  · rename_i t dr1 h1
    cases hf
    exact ⟨env, dr, t, _, hR, hO, h1, fun v H' e' r' o' => q v H' e' r' o'⟩
  · cases hf
def sExp (f : EF) : SF := fun env dr => match f env dr with
  | some (_, dr1) => some (.nx env, dr1)
  | none => none
theorem ss_expr (ha : SE p X e f) (hs : swapsWith e none pos.line X.env = pure false := by rfl) : SS p X (.Expr e pos) (sExp f) := ps_imp (ps_expr ha hs) fun D σ H ⟨env, dr, o, dr', hR, hO, hf, q⟩ => by
  unfold sExp at hf
  split at hf
  · rename_i t dr1 h1
    cases hf
    exact ⟨env, dr, t, _, hR, hO, h1, fun v H' e' r' o' => q σ H' e' (hR.ext e') o'⟩
  · cases hf
def sPass : SF := fun env dr => some (.nx env, dr)
theorem ss_pass : SS p X (.Pass pos) sPass := ps_imp ps_pass fun D σ H ⟨env, dr, o, dr', hR, hO, hf, q⟩ => by
  cases hf
  exact q σ H .refl hR hO
def sBrk : SF := fun env dr => some (.bk env, dr)
theorem ss_brk : SS p X (.Break pos) sBrk := ps_imp ps_break fun D σ H ⟨env, dr, o, dr', hR, hO, hf, q⟩ => by
  cases hf
  exact q σ H .refl hR hO
def sCt : SF := fun env dr => some (.ct env, dr)
theorem ss_ct : SS p X (.Continue pos) sCt := ps_imp ps_continue fun D σ H ⟨env, dr, o, dr', hR, hO, hf, q⟩ => by
  cases hf
  exact q σ H .refl hR hO
def sIf (c : TF) (u v : SF) : SF := fun env dr => match c env dr with
  | some (true, dr1) => u env dr1
  | some (false, dr1) => v env dr1
  | none => none
theorem ss_if {c : Expr} {cf : TF} {xs ys : List Stmt} (hc : SB p X c cf) (ha : SSs p X xs u) (hb : SSs p X ys v) : SS p X (.If c xs ys pos) (sIf cf u v) := ps_imp (ps_if hc ha hb) fun D σ H ⟨env, dr, o, dr', hR, hO, hf, q⟩ => by
  unfold sIf at hf
  split at hf
  · rename_i dr1 h1
    exact ⟨env, dr, _, dr1, hR, hO, h1, fun H' e' o' => by refine iteT ?_; exact ⟨env, dr1, o, dr', hR.ext e', o', hf, q.ext e'⟩⟩
  · rename_i dr1 h1
    exact ⟨env, dr, _, dr1, hR, hO, h1, fun H' e' o' => by refine iteF ?_; exact ⟨env, dr1, o, dr', hR.ext e', o', hf, q.ext e'⟩⟩
  · cases hf

/-! ### assignments -/
def sSet (i : Nat) (f : EF) : SF := fun env dr => match f env dr with
  | some (t, dr1) => some (.nx (env.set i (some t)), dr1)
  | none => none
theorem ss_set {i : Nat} {x : Str} {pos' : Pos} (he : SE p X e f) (hN : X.N.Nodup) (hi : X.N[i]? = some x := by rfl) (hx : Loc X.env.scope x := by first | exact .inl rfl | exact .inr rfl) (hs : swapsWith e (some (.Name x pos')) pos.line X.env = pure false := by rfl)
    (hf : X.fn x = true ∨ X.env.scope.names.lookup x = some .local := by first | exact .inl rfl | exact .inr rfl) : SS p X (.Assign [.Name x pos'] e pos) (sSet i f) := ps_imp (ps_set hN hi hx he hs hf) fun D σ H ⟨env, dr, o, dr', hR, hO, hf, q⟩ => by
  unfold sSet at hf
  split at hf
  · rename_i t dr1 h1
    cases hf
    exact ⟨env, dr, t, _, hR, hO, h1, fun v H' e' r' o' => q _ H' e' ((hR.ext e').set r' i) o'⟩
  · cases hf
/-- name = [.. for ..] -/
theorem ss_setLc {i : Nat} {y : Str} {py : Pos} {elt tg iter : Expr} {ifs : List Expr} {scope : Scope} {own : List (Str × Nat)} {spos : Pos} {fi : AF} {uf : TF} {gg : TG} {bb : BF} (hgb : GOk p X gg bb (own.map (·.2))) (hc : X.calm = true) (hN : X.N.Nodup) (hi : SI p X tg iter fi) (ok : BlkOk X.N X.env.scope scope own)
    (hg : ∀ (s : Shared) (H : Hp) (C : Addr) (cl : List (Str × Addr)) (fp : List Addr), PG (X.blk s H scope (compEnvC scope cl C X.env) fp) tg gg)
    (ht : ∀ (s : Shared) (H : Hp) (C : Addr) (cl : List (Str × Addr)) (fp : List Addr), PTs (X.blk s H scope (compEnvC scope cl C X.env) fp) ifs (tTD p uf))
    (he : ∀ (D : Addr) (s : Shared) (H : Hp) (C : Addr) (cl : List (Str × Addr)) (fp : List Addr), SE (p.w (D :: p.ex)) (X.blk s H scope (compEnvC scope cl C X.env) fp) elt f)
    (hsw : swapsWith (.ListComp elt [⟨tg, iter, ifs, 0⟩] scope pos) (some (.Name y py)) spos.line X.env = pure true)
    (hy : X.N[i]? = some y := by rfl) (hyl : X.env.scope.names.lookup y = some .local := by rfl)
    (hs : ∀ x, foldedSetIterable iter X.env x = pure x := by intro _; rfl) : SS p X (.Assign [.Name y py] (.ListComp elt [⟨tg, iter, ifs, 0⟩] scope pos) spos) (sSet i (lcF fi bb uf f (own.map (·.2)))) :=
  ps_imp (ps_setLc hc hN hy hyl hsw hi ok hg ht (fun s H C cl fp => pe_D fun D => he D s H C cl fp) hs) fun D σ H ⟨env, dr, o, dr', hR, hO, hf, q⟩ => by
    unfold sSet at hf
    split at hf
    · rename_i t dr1 h1
      cases hf
      exact tLc_in hgb σ H _ ⟨env, dr, t, _, hR, hO, h1, fun v H' e' r' o' => q _ H' e' ((hR.ext e').set r' i) o'⟩
    · cases hf
def sPar (i j : Nat) (f g : EF) : SF := fun env dr => match f env dr with
  | some (t, dr1) => (match g env dr1 with
    | some (w, dr2) => some (.nx ((env.set i (some t)).set j (some w)), dr2)
    | none => none)
  | none => none
theorem ss_par {i j : Nat} {x y : Str} {px py pt : Pos} {kt k2 pt2} (hc : X.calm = true) (hN : X.N.Nodup) (ha : SE p X a f) (hb : SE p X b g) (hw : swappedStores [.Tuple [.Name x px, .Name y py] kt pt] (.Tuple [a, b] k2 pt2) X.env = pure (some [x, y]))
    (hi : X.N[i]? = some x := by rfl) (hj : X.N[j]? = some y := by rfl) (hij : i ≠ j := by decide)
    (hx : X.env.scope.names.lookup x = some .local := by rfl) (hy : X.env.scope.names.lookup y = some .local := by rfl)
    (hs : swapsWithSole [.Tuple [.Name x px, .Name y py] kt pt] (.Tuple [a, b] k2 pt2) pos.line X.env = pure false := by rfl) (hs1 : starEach [a, b] X.env = (false, eval a X.env) :: starEach [b] X.env := by rfl) (hs2 : starEach [b] X.env = (false, eval b X.env) :: starEach [] X.env := by rfl) :
    SS p X (.Assign [.Tuple [.Name x px, .Name y py] kt pt] (.Tuple [a, b] k2 pt2) pos) (sPar i j f g) := ps_imp (ps_par hc hN hi hj hij hx hy (pa_cons ha (pa_cons hb pa_nil hs2) hs1) hw hs) fun D σ H ⟨env, dr, o, dr', hR, hO, hf, q⟩ => by
  unfold sPar at hf
  split at hf
  · rename_i t dr1 h1
    split at hf
    · rename_i w dr2 h2
      cases hf
      exact ⟨env, dr, t, dr1, hR, hO, h1, fun v H1 e1 r1 o1 => ⟨env, dr1, w, _, hR.ext e1, o1, h2, fun z H2 e2 r2 o2 => ⟨v, z, rfl, q _ H2 (e1.trans e2) ((((hR.ext e1).ext e2).set (r1.ext e2) i).set r2 j) o2⟩⟩⟩
    · cases hf
  · cases hf
/-- a, b, .. = a tuple -/
def gNs : List Nat → TGs
  | [] => gNil
  | i :: r => gCons (gName i) (gNs r)
def setNs : List Nat → List T → Env → Option Env
  | [], [], env => some env
  | i :: r, t :: ts, env => setNs r ts (env.set i (some t))
  | _, _, _ => none
def sTup (is : List Nat) (f : EF) : SF := fun env dr => match f env dr with
  | some (.tup ts, dr1) => (match setNs is ts env with
    | some env1 => some (.nx env1, dr1)
    | none => none)
  | _ => none
theorem gNs_ok {H : Hp} {Q : L2.St → Hp → Prop} {env1 : Env} : ∀ {is : List Nat} {ts : List T} {vs : List V} {σ : L2.St} {env : Env}, Reps p H ts vs → RelS p H σ env → setNs is ts env = some env1 → (∀ σ2, RelS p H σ2 env1 → Q σ2 H) → vs.length = is.length ∧ gNs is vs σ H Q
  | [], [], _, σ, env, r, rs, h, q => by
    cases h
    rw [show _ = [] from r]
    exact ⟨rfl, rfl, q σ rs⟩
  | i :: is, t :: ts, _, σ, env, r, rs, h, q => by
    obtain ⟨v, w, rfl, r1, r2⟩ := r
    obtain ⟨q1, q2⟩ := gNs_ok r2 (rs.set r1 i) h q
    exact ⟨by rw [List.length_cons, List.length_cons, q1], v, w, rfl, q2⟩
  | [], _ :: _, _, _, _, _, _, h, _ => by cases h
  | _ :: _, [], _, _, _, _, _, h, _ => by cases h
include hK in
theorem ss_tup {es : List Expr} {is : List Nat} {kk : Nat} {tpos : Pos} (hc : X.calm = true) (ha : SE p X e f) (hg : PGs X es (gNs is)) (hn : (assignEach es X.env).length = is.length := by rfl) (hst : (assignEach es X.env).findIdx? (·.1) = none := by rfl)
    (hs : swapsWithSole [.Tuple es kk tpos] e pos.line X.env = pure false := by rfl) (hw : swappedStores [.Tuple es kk tpos] e X.env = pure none := by rfl)
    (h1 : (assignEach [.Tuple es kk tpos] X.env).map (·.2) = [assign (.Tuple es kk tpos) X.env] := by rfl) : SS p X (.Assign [.Tuple es kk tpos] e pos) (sTup is f) := ps_imp (ps_asg ha (pg_tup hc hg hn hst) hs hw h1) fun D σ H ⟨env, dr, o, dr', hR, hO, hf, q⟩ => by
  unfold sTup at hf
  split at hf
  · rename_i ts dr1 h1
    split at hf
    · rename_i env1 h2
      cases hf
      refine ⟨env, dr, _, _, hR, hO, h1, fun v H1 e1 r1 o1 => ?_⟩
      obtain ⟨c, vs, rfl, hh, s1⟩ := r1
      obtain ⟨q1, q2⟩ := gNs_ok (Q := D.nx) s1 (hR.ext e1) h2 fun σ2 rs2 => q σ2 H1 e1 rs2 o1
      exact ⟨c, vs, rfl, hK ▸ hh, q1, q2⟩
    · cases hf
  · cases hf
/-- name op= e -/
def sAug (h : T → T → Option T) (i : Nat) (f : EF) : SF := fun env dr => match env[i]? with
  | some (some x) => (match f env dr with
    | some (y, dr1) => (match h x y with
      | some t => some (.nx (env.set i (some t)), dr1)
      | none => none)
    | none => none)
  | _ => none
theorem ss_aug {i : Nat} {x : Str} {pos' : Pos} {op : Operator} {h : T → T → Option T} (ho : OpT p X (inplaceOp op) h) (he : SE p X e f) (hN : X.N.Nodup) (hi : X.N[i]? = some x := by rfl) (hx : Loc X.env.scope x := by first | exact .inl rfl | exact .inr rfl)
    (hf : X.fn x = true ∨ X.env.scope.names.lookup x = some .local := by first | exact .inl rfl | exact .inr rfl) : SS p X (.AugAssign (.Name x pos') op e pos) (sAug h i f) := ps_imp (ps_aug hN hi hx he (fun pins s σ H x y v u Q I r1 r2 q => ho pins s σ H x y v u Q I r1 r2 q) hf) fun D σ H ⟨env, dr, o, dr', hR, hO, hf, q⟩ => by
  unfold sAug at hf
  split at hf
  · rename_i t0 h0
    split at hf
    · rename_i y dr1 h1
      split at hf
      · rename_i t h2
        cases hf
        obtain ⟨v0, a1, a2⟩ := hR.2 _ _ h0
        exact ⟨v0, a1, env, dr, y, _, hR, hO, h1, fun v H1 e1 r1 o1 => ⟨t0, y, t, a2.ext e1, r1, o1.new, h2, fun z H2 s2 r2 => q _ H2 (e1.trans (.same s2)) (((hR.ext e1).ext (.same s2)).set r2 i) (o1.same s2)⟩⟩
      · cases hf
    · cases hf
  · cases hf
theorem ot_iadd : OpT p X (inplaceOp .Add) addI := opr_imp iop_add fun x y H Q ⟨a, b, t, r1, r2, _, hf, q⟩ => by
  cases a <;> cases b <;> try (cases hf; done)
  cases hf
  exact ⟨_, _, r1, r2, q _ H (Same.refl H) rfl⟩
theorem ot_isub : OpT p X (inplaceOp .Sub) subT := opr_imp iop_sub fun x y H Q ⟨a, b, t, r1, r2, _, hf, q⟩ => by
  cases a <;> cases b <;> try (cases hf; done)
  cases hf
  exact ⟨_, _, r1, r2, q _ H (Same.refl H) rfl⟩
def idivT : T → T → Option T
  | .int i, .int j => if 0 < j ∧ j < 1073741824 then some (.int (i / j)) else none
  | _, _ => none
theorem ot_idiv : OpT p X (inplaceOp .FloorDiv) idivT := opr_imp iop_fdiv fun x y H Q ⟨a, b, t, r1, r2, _, hf, q⟩ => by
  cases a <;> cases b <;> try (cases hf; done)
  unfold idivT at hf
  dsimp only at hf
  split at hf
  · rename_i hz
    cases hf
    exact ⟨_, _, r1, r2, hz, q _ H (Same.refl H) rfl⟩
  · cases hf

/-! ### loops -/
def forGo (b : BF) (u : SF) : List T → Env → List T → Option (Out × List T)
  | [], env, dr => some (.nx env, dr)
  | t :: ts, env, dr => match b t env with
    | none => none
    | some env1 => match u env1 dr with
      | none => none
      | some (.nx env2, dr2) => forGo b u ts env2 dr2
      | some (.ct env2, dr2) => forGo b u ts env2 dr2
      | some (.bk env2, dr2) => some (.nx env2, dr2)
      | some (.rt t, dr2) => some (.rt t, dr2)
def sFor (fi : AF) (b : BF) (u : SF) : SF := fun env dr => match fi env dr with
  | none => none
  | some (ts, dr1) => forGo b u ts env dr1
theorem ss_for {tg iter : Expr} {body : List Stmt} {fi : AF} {gg : TG} {bb : BF} {vs : List Nat} (hgb : GOk p X gg bb vs) (hp : PassesOwn (model X.prog X.w) X.A X.env X.xe) (hc : X.calm = true) (hi : SI p X tg iter fi) (hg : PG X tg gg) (hb : SSs p X body u)
    (hs : ∀ x, foldedSetIterable iter X.env x = pure x := by intro _; rfl) : SS p X (.For tg iter body [] pos) (sFor fi bb u) := ps_imp (ps_for hp hc hi hg hb hs) fun D σ H ⟨env, dr, o, dr', hR, hO, hf, q⟩ => by
  unfold sFor at hf
  cases h1 : fi env dr with
  | none => rw [h1] at hf; cases hf
  | some z =>
    obtain ⟨ts, dr1⟩ := z
    rw [h1] at hf
    dsimp only at hf
    refine ⟨env, dr, ts, dr1, hR, hO, h1, fun J H1 e1 o1 hJ => ?_⟩
    refine ⟨fun i m σ2 H2 => ∃ env2 dr2, m = ts.length - i ∧ i ≤ ts.length ∧ Ext p H1 H2 ∧ Ok p H2 dr2 ∧ RelS p H2 σ2 env2 ∧ forGo bb u (ts.drop i) env2 dr2 = some (o, dr'),
      ⟨ts.length, env, dr1, by simp, Nat.zero_le _, .refl, o1, hR.ext e1, by rw [List.drop_zero]; exact hf⟩, ?_⟩
    rintro i m σ2 H2 ⟨env2, dr2, rfl, hi2, e2, o2, rs, go⟩
    obtain ⟨jgo, jstop⟩ := hJ p.ex (fun a ha => .inl ha) H2 e2 i
    rcases Nat.lt_or_ge i ts.length with hlt | hge
    · right
      obtain ⟨j1, j2⟩ := jgo ts[i] (List.getElem?_eq_getElem hlt)
      have hdrop : ts.drop i = ts[i] :: ts.drop (i + 1) := List.drop_eq_getElem_cons hlt
      rw [hdrop] at go
      refine ⟨j1, fun σ3 H3 => ∃ env2 dr2, Ext p H1 H3 ∧ Ok p H3 dr2 ∧ RelS p H3 σ3 env2 ∧ forGo bb u (ts.drop (i + 1)) env2 dr2 = some (o, dr'),
        fun σ3 H3 ⟨a1, a2, b1, b2, b3, b4⟩ => ⟨ts.length - (i + 1), by omega, a1, a2, rfl, hlt, b1, b2, b3, b4⟩, fun x H3 yx => ?_⟩
      obtain ⟨s3, rx⟩ := j2 x H3 yx
      unfold forGo at go
      cases hb' : bb ts[i] env2 with
      | none => rw [hb'] at go; cases go
      | some env1 =>
        rw [hb'] at go
        dsimp only at go
        refine hgb p.ex ts[i] x σ2 H3 env2 env1 _ rx (rs.ext (.same s3)) hb' fun σ4 rs4 _ => ?_
        have e13 : Ext p H1 H3 := e2.trans (.same s3)
        split at go
        · cases go
        · rename_i env5 dr5 hu
          exact ⟨env1, dr2, _, dr5, rs4, o2.same s3, hu, fun σ' H' e' r' o' => ⟨env5, dr5, e13.trans e', o', r', go⟩⟩
        · rename_i env5 dr5 hu
          exact ⟨env1, dr2, _, dr5, rs4, o2.same s3, hu, fun σ' H' e' r' o' => ⟨env5, dr5, e13.trans e', o', r', go⟩⟩
        · rename_i env5 dr5 hu
          cases go
          exact ⟨env1, dr2, _, _, rs4, o2.same s3, hu, fun σ' H' e' r' o' => q σ' H' (e1.trans (e13.trans e')) r' o'⟩
        · rename_i t5 dr5 hu
          cases go
          exact ⟨env1, dr2, _, _, rs4, o2.same s3, hu, fun v' H' e' r' o' => q v' H' (e1.trans (e13.trans e')) r' o'⟩
    · left
      have hie : i = ts.length := by omega
      rw [hie, List.drop_length] at go
      cases go
      exact ⟨jstop hie, q σ2 H2 (e1.trans e2) rs o2⟩
def whileGo (c : TF) (u : SF) : Nat → Env → List T → Option (Out × List T)
  | 0, _, _ => none
  | n + 1, env, dr => match c env dr with
    | none => none
    | some (false, dr1) => some (.nx env, dr1)
    | some (true, dr1) => match u env dr1 with
      | none => none
      | some (.nx env2, dr2) => whileGo c u n env2 dr2
      | some (.ct env2, dr2) => whileGo c u n env2 dr2
      | some (.bk env2, dr2) => some (.nx env2, dr2)
      | some (.rt t, dr2) => some (.rt t, dr2)
theorem ss_while {cE : Expr} {body : List Stmt} {c : TF} (n : Nat) (hp : PassesOwn (model X.prog X.w) X.A X.env X.xe) (hc : SB p X cE c) (hb : SSs p X body u) : SS p X (.While cE body [] pos) (whileGo c u n) := ps_imp (ps_while hp hc hb) fun D σ H ⟨env, dr, o, dr', hR, hO, hf, q⟩ => by
  refine ⟨fun m σ2 H2 => ∃ env2 dr2, Ext p H H2 ∧ Ok p H2 dr2 ∧ RelS p H2 σ2 env2 ∧ whileGo c u m env2 dr2 = some (o, dr'), ⟨n, env, dr, .refl, hO, hR, hf⟩, ?_⟩
  rintro m σ2 H2 ⟨env2, dr2, e2, o2, rs, go⟩
  cases m with
  | zero => cases go
  | succ m =>
    unfold whileGo at go
    split at go
    · cases go
    · rename_i dr3 hcf
      cases go
      exact ⟨env2, dr2, _, _, rs, o2, hcf, fun H3 e3 o3 => by refine iteF ?_; exact q σ2 H3 (e2.trans e3) (rs.ext e3) o3⟩
    · rename_i dr3 hcf
      refine ⟨env2, dr2, _, dr3, rs, o2, hcf, fun H3 e3 o3 => ?_⟩
      refine iteT ?_
      refine ⟨fun σ3 H4 => ∃ env2 dr2, Ext p H H4 ∧ Ok p H4 dr2 ∧ RelS p H4 σ3 env2 ∧ whileGo c u m env2 dr2 = some (o, dr'), fun σ3 H4 z => ⟨m, Nat.lt_succ_self _, z⟩, ?_⟩
      split at go
      · cases go
      · rename_i env5 dr5 hu
        exact ⟨env2, dr3, _, dr5, rs.ext e3, o3, hu, fun σ' H' e' r' o' => ⟨env5, dr5, e2.trans (e3.trans e'), o', r', go⟩⟩
      · rename_i env5 dr5 hu
        exact ⟨env2, dr3, _, dr5, rs.ext e3, o3, hu, fun σ' H' e' r' o' => ⟨env5, dr5, e2.trans (e3.trans e'), o', r', go⟩⟩
      · rename_i env5 dr5 hu
        cases go
        exact ⟨env2, dr3, _, _, rs.ext e3, o3, hu, fun σ' H' e' r' o' => q σ' H' (e2.trans (e3.trans e')) r' o'⟩
      · rename_i t5 dr5 hu
        cases go
        exact ⟨env2, dr3, _, _, rs.ext e3, o3, hu, fun v' H' e' r' o' => q v' H' (e2.trans (e3.trans e')) r' o'⟩

/-! ### the list that changes -/
def sDr (k : Nat) (f g : EF) : SF := fun env dr => match f env dr with
  | some (t, dr1) => (match g env dr1 with
    | some (.ref, dr2) => if k < dr2.length then some (.nx env, dr2.set k t) else none
    | _ => none)
  | none => none
end
end FL
set_option linter.all false
set_option maxRecDepth 100000
set_option maxHeartbeats 2000000
namespace FL
open PySem PySem.Spec PyProof.Rows L2 GxR GA

section
variable {p : Pm} {X : Cx} (hK : p.K = X.K) {a b e : Expr} {pos : Pos} {f g : EF}

theorem ext_d {H : Hp} {c : Addr} {xs ys : List V} (hd : p.d = some c) (h : H c = some (.lst xs)) : Ext p H (upd H c (.lst ys)) := by
  have ne : ∀ (a : Addr) (o : HO), H a = some o → (∀ zs, o ≠ .lst zs) → a ≠ c := fun a o q n z => by rw [z, h] at q; exact n xs (Option.some.inj q).symm
  refine ⟨fun a zs q => ?_, fun a o u q => ?_, fun a zs n q => ?_, fun P ⟨ps, q, t⟩ => ⟨ps, ?_, t⟩, fun a φ q => ?_⟩
  · rw [upd_ne (ne a _ q fun zs z => by cases z)]; exact q
  · rw [upd_ne (ne a _ q fun zs z => by cases z)]; exact q
  · rw [upd_ne (fun z => n (by rw [z]; exact hd))]; exact q
  · rw [upd_ne (ne P _ q fun zs z => by cases z)]; exact q
  · rw [upd_ne (ne a _ q fun zs z => by cases z)]; exact q
theorem ss_dr {k : Nat} {o : Expr} {jj : Nat} {cpos spos : Pos} (he : SE p X e f) (ho : SE p X o g) (hs : swapsWithSole [.Subscript o (.Constant (.int (k : Int)) jj cpos) spos] e pos.line X.env = pure false := by rfl) (hw : swappedStores [.Subscript o (.Constant (.int (k : Int)) jj cpos) spos] e X.env = pure none := by rfl)
    (h1 : (assignEach [.Subscript o (.Constant (.int (k : Int)) jj cpos) spos] X.env).map (·.2) = [assign (.Subscript o (.Constant (.int (k : Int)) jj cpos) spos) X.env] := by rfl) :
    SS p X (.Assign [.Subscript o (.Constant (.int (k : Int)) jj cpos) spos] e pos) (sDr k f g) := ps_imp (ps_asg he (pg_sub ho pe_int set_list) hs hw h1) fun D σ H ⟨env, dr, o, dr', hR, hO, hf, q⟩ => by
  unfold sDr at hf
  split at hf
  · rename_i t dr1 h1
    split at hf
    · rename_i dr2 h2
      split at hf
      · rename_i hlt
        cases hf
        refine ⟨env, dr, t, dr1, hR, hO, h1, fun v H1 e1 r1 o1 => ⟨env, dr1, .ref, dr2, hR.ext e1, o1, h2, fun w H2 e2 r2 o2 => ?_⟩⟩
        obtain ⟨c, hd, rfl⟩ := r2
        have od := o2.1
        unfold DrOk at od
        rw [hd] at od
        obtain ⟨xs, hc, rx⟩ := od
        have hx := ext_d (ys := xs.set k v) hd hc
        have hix : ixN xs.length (k : Int) = some k := by
          unfold ixN
          rw [rx.length, if_pos (by omega), if_pos (by omega)]
          rfl
        refine ⟨c, xs, _, k, rfl, rfl, hc, hix, q σ _ (e1.trans (e2.trans hx)) (((hR.ext e1).ext e2).ext hx) ⟨?_, fun P hP => hx.tab P (o2.2.1 P hP), fun z hz => ⟨(o2.2.2 z hz).1, ?_⟩⟩⟩
        · unfold DrOk
          rw [hd]
          exact ⟨_, upd_same, ((rx.ext hx).set ((r1.ext e2).ext hx) k)⟩
        · obtain ⟨zs, hzs⟩ := (o2.2.2 z hz).2
          exact ⟨zs, hx.lst _ _ (o2.2.2 z hz).1 hzs⟩
      · cases hf
    · cases hf
  · cases hf

/-! sep.join(xs) -/
def eJoin (f g : EF) : EF := fun env dr => match f env dr with
  | none => none
  | some (x, dr1) => match g env dr1 with
    | none => none
    | some (y, dr2) => match joinF x y with
      | none => none
      | some t => some (t, dr2)
theorem strs_ok {H : Hp} : ∀ {ts : List T} {vs : List V} {xs : List (List Nat)}, Reps p H ts vs → strsT ts = some xs → ∃ ys : List Str, vs = ys.map V.str ∧ ys.map (fun y => y.cps.toList) = xs
  | [], _, _, r, h => by cases h; rw [show _ = [] from r]; exact ⟨[], rfl, rfl⟩
  | t :: ts, _, xs, r, h => by
    obtain ⟨v, w, rfl, h1, h2⟩ := r
    cases t <;> try (cases h; done)
    unfold strsT at h
    cases hh : strsT ts with
    | none => rw [hh] at h; cases h
    | some cs =>
      rw [hh] at h
      cases h
      obtain ⟨x, rfl, ex⟩ := h1
      obtain ⟨ys, rfl, ey⟩ := strs_ok h2 hh
      exact ⟨x :: ys, rfl, by rw [List.map_cons, ex, ey]⟩
theorem join_ok (sep : Str) : ∀ ys : List Str, (Str.join sep ys).cps.toList = joinL sep.cps.toList (ys.map fun y => y.cps.toList)
  | [] => rfl
  | [x] => rfl
  | x :: y :: r => by
    show ((x ++ sep ++ Str.join sep (y :: r)) : Str).cps.toList = _
    rw [str_app, str_app, join_ok sep (y :: r)]
    rfl
include hK in
theorem se_join {apos : Pos} {o : Expr} (ho : SE p X o f) (he : SE p X e g) (hs : starEach [e] X.env = [(false, eval e X.env)] := by rfl) (hbase : attributeBase o "join" X.env (eval o X.env) = eval o X.env := by rfl) (hline : (apos.endLine == pos.line) = true := by rfl) :
    SE p X (.Call (.Attribute o "join" apos) [e] [] pos) (eJoin f g) := pe_imp (pe_join ho he hs hbase hline) fun σ H Q ⟨env, dr, t, dr', hR, hO, hf, q⟩ => by
  unfold eJoin at hf
  cases h1 : f env dr with
  | none => rw [h1] at hf; cases hf
  | some z =>
    obtain ⟨x, dr1⟩ := z
    rw [h1] at hf
    dsimp only at hf
    cases h2 : g env dr1 with
    | none => rw [h2] at hf; cases hf
    | some z =>
      obtain ⟨y, dr2⟩ := z
      rw [h2] at hf
      dsimp only at hf
      unfold joinF at hf
      dsimp only at hf
      split at hf
      · cases hf
      · rename_i t' ht
        cases hf
        split at ht
        · rename_i cs ts hq
          cases h3 : strsT ts with
          | none => rw [h3] at ht; cases ht
          | some xs =>
            rw [h3] at ht
            dsimp only at ht
            split at ht
            · rename_i hz
              cases ht
              refine ⟨env, dr, _, dr1, hR, hO, h1, fun v H1 e1 r1 o1 => ?_⟩
              obtain ⟨s, rfl, es⟩ := r1
              refine ⟨⟨s, rfl⟩, env, dr1, y, _, hR.ext e1, o1, h2, fun w H2 e2 r2 o2 => ?_⟩
              obtain ⟨c, vs, rfl, hc, sc⟩ := seq_ok r2 hq
              obtain ⟨ys, rfl, ey⟩ := strs_ok sc h3
              have hl : ys.map (·.length) = xs.map (·.length) := by
                rw [← ey, List.map_map]
                exact List.map_congr_left fun z _ => str_len z
              refine ⟨s, c, ys, rfl, rfl, hK ▸ hc, ?_, q _ H2 (e1.trans e2) ⟨_, rfl, ?_⟩ o2⟩
              · have hn : ys.length = xs.length := by rw [← ey, List.length_map]
                rw [hl, hn, str_len, es]
                exact Nat.le_trans hz (by decide)
              · show (PySem.Txt.join s ys).cps.toList = _
                have : PySem.Txt.join s ys = Str.join s ys := by unfold PySem.Txt.join; exact StrLaws.glued_eq_join ..
                rw [this, join_ok, es, ey]
            · cases ht
        · cases ht

/-! ### defs -/
def runF (N n : Nat) (u : SF) : Phi := fun ts dr => match u (ts.map some ++ List.replicate (N - n) none) dr with
  | some (.rt t, dr1) => some (t, dr1)
  | some (.nx _, dr1) => some (.non, dr1)
  | _ => none
theorem rel_start {H : Hp} {N : List Str} {ts : List T} {vs : List V} (r : Reps p H ts vs) : RelS p H (L2.start N vs) (ts.map some ++ List.replicate (N.length - ts.length) none) := by
  unfold L2.start
  rw [r.length]
  refine ⟨by rw [List.length_append, List.length_append, List.length_map, List.length_map, r.length, List.length_replicate, List.length_replicate], fun i t h => ?_⟩
  by_cases hi : i < ts.length
  · rw [List.getElem?_append_left (by simpa using hi), List.getElem?_map] at h
    cases e : ts[i]? with
    | none => rw [e] at h; cases h
    | some t' =>
      rw [e] at h
      cases h
      obtain ⟨v, h1, h2⟩ := r.get e
      exact ⟨v, by rw [List.getElem?_append_left (by rw [List.length_map, r.length]; exact hi), List.getElem?_map, h1]; rfl, h2⟩
  · rw [List.getElem?_append_right (by simpa using hi), List.getElem?_replicate] at h
    split at h <;> cases h
/-- a def of the text, its code object told -/
structure FunC (K : PySem.W.Frag) (x : Str) (st : Stmt) (f : Addr) (fd : FuncData) (cA : Addr) : Prop where
  ex : ∃ (oc : Value) (od : Option Addr) (kV doc pm : Value) (an : Option Addr) (ct : Value) (osl : Array (Option Value)),
    fd = PySem.W.fnOf x x (defArgs st) (defBody st) (defScope st) .none kV doc pm an (.ref cA) ct ∧ K.lookup f = some ⟨oc, od, .func fd, osl⟩ ∧ PySem.W.codeIn K (.ref cA) x = true
  kp : PySem.W.keepIn K (.ref f) = true
variable {P : Program} {w : World} {K : PySem.W.Frag} {mg : Str → Option Value} {base : Heap} {x : Str} {fA cA : Addr} {fd : FuncData} {N ps : List Str} {k : Nat} {u : SF} {st : Stmt}
theorem fn_okC (F : FunC K x st fA fd cA) (S : FnScope N ps (defScope st)) {p : Pm}
    (hbody : ∀ (A : Around) (outer : List PySem.Env) (s : Shared) (H : Hp) (E : XK) (ex : List Addr), Room k (A.deeper (envOfC x (defScope st) s.heap.objs.size fA (.ref cA))) →
      SSs (p.w ex) (cxOf L2.CX0 P w K mg base N x (defScope st) fA (.ref cA) A outer s H E).nox (defBody st) u) :
    FnOk P w K mg base L2.CX0 (k + 1) fA fd ps (spF p ps.length (runF N.length ps.length u)) := by
  obtain ⟨oc, od, kV, doc, pm, an, ct, osl, rfl, lk, hcd⟩ := F.ex
  refine fn_of lk hcd S (fun vs H Q E ⟨ex, ts, dr, t, dr', hn, r, _⟩ => by rw [r.length, hn]) fun A outer s H vs Q E hr ⟨ex, ts, dr, t, dr', hn, r, o, hf, q⟩ => ?_
  unfold runF at hf
  rw [← hn] at hf
  split at hf
  · rename_i t1 dr1 h1
    cases hf
    exact ⟨_, (hbody A outer s H E ex hr).nox, _, dr, _, _, rel_start r, o, h1, fun v H' e' r' o' => q v H' e' r' o'⟩
  · rename_i en dr1 h1
    cases hf
    exact ⟨_, (hbody A outer s H E ex hr).nox, _, dr, _, _, rel_start r, o, h1, fun σ' H' e' _ o' => q .non H' e' rfl o'⟩
  · cases hf
end
end FL
set_option linter.all false
set_option maxRecDepth 100000
set_option maxHeartbeats 2000000
namespace FL
open PySem PySem.Spec PyProof.Rows L2 GxR GA EXO

/-! ### == and != of data -/
def strOf (cs : List Nat) : Str := ⟨cs.toArray⟩
mutual
def toD : T → Option PyData
  | .non => some .none
  | .bl b => some (.bool b)
  | .int i => some (.int i)
  | .str cs => some (.str (strOf cs))
  | .tup ts => (toDs ts).map .tuple
  | .lst ts => (toDs ts).map .list
  | .fls ts => (toDs ts).map .list
  | .ref => none
  | .exo _ _ _ => none
def toDs : List T → Option (List PyData)
  | [] => some []
  | t :: ts => match toD t with
    | none => none
    | some d => match toDs ts with
      | none => none
      | some ds => some (d :: ds)
end
mutual
theorem toD_ok {p : Pm} {H : Hp} : ∀ {t : T} {v : V} {d : PyData}, Rep p H t v → toD t = some d → Dp p.K H v d
  | .non, v, d, r, h => by
    have r : v = _ := r
    subst r
    cases h
    exact .non
  | .bl b, v, d, r, h => by
    have r : v = _ := r
    subst r
    cases h
    exact .bl b
  | .int i, v, d, r, h => by
    have r : v = _ := r
    subst r
    cases h
    exact .int i
  | .str cs, v, d, r, h => by
    obtain ⟨x, rfl, e⟩ := r
    cases h
    have : x = strOf cs := str_ext (by rw [e]; simp [strOf])
    rw [this]
    exact .str _
  | .tup ts, v, d, r, h => by
    obtain ⟨a, vs, rfl, s, q⟩ := r
    have h : (toDs ts).map PyData.tuple = some d := h
    cases e : toDs ts with
    | none => rw [e] at h; cases h
    | some ds =>
      rw [e] at h
      cases h
      exact .tup s (toDs_ok q e)
  | .lst ts, v, d, r, h => by
    obtain ⟨a, vs, rfl, s, n, q⟩ := r
    have h : (toDs ts).map PyData.list = some d := h
    cases e : toDs ts with
    | none => rw [e] at h; cases h
    | some ds =>
      rw [e] at h
      cases h
      exact .lst (.inl (.inl s)) (toDs_ok q e)
  | .fls ts, v, d, r, h => by
    obtain ⟨a, vs, rfl, s, q⟩ := r
    have h : (toDs ts).map PyData.list = some d := h
    cases e : toDs ts with
    | none => rw [e] at h; cases h
    | some ds =>
      rw [e] at h
      cases h
      exact .lst s.sq (toDs_ok q e)
  | .ref, v, d, r, h => nomatch h
  | .exo _ _ _, v, d, r, h => nomatch h
theorem toDs_ok {p : Pm} {H : Hp} : ∀ {ts : List T} {vs : List V} {ds : List PyData}, Reps p H ts vs → toDs ts = some ds → DpAll p.K H vs ds
  | [], _, ds, r, h => by
    rw [show _ = [] from r]
    cases h
    exact .nil
  | t :: ts, _, ds, r, h => by
    obtain ⟨v, w, rfl, a, b⟩ := r
    unfold toDs at h
    cases e1 : toD t with
    | none => rw [e1] at h; cases h
    | some d =>
      rw [e1] at h
      dsimp only at h
      cases e2 : toDs ts with
      | none => rw [e2] at h; cases h
      | some es =>
        rw [e2] at h
        cases h
        exact .cons (toD_ok a e1) (toDs_ok b e2)
end
def eqD (x y : T) : Option Bool := match toD x with
  | none => none
  | some d => match toD y with
    | none => none
    | some e => if SeqAt.shaped d && SeqAt.shaped e then some (PyData.eqv d e) else none
def cEqD (x y : T) : Option T := (eqD x y).map .bl
def cNeD (x y : T) : Option T := (eqD x y).map fun b => .bl (!b)
theorem eqD_ok {p : Pm} {H : Hp} {a b : T} {x y : V} {c : Bool} (r1 : Rep p H a x) (r2 : Rep p H b y) (h : eqD a b = some c) :
    ∃ d e, Dp p.K H x d ∧ Dp p.K H y e ∧ SeqAt.shaped d = true ∧ SeqAt.shaped e = true ∧ PyData.eqv d e = c := by
  unfold eqD at h
  cases h1 : toD a with
  | none => rw [h1] at h; cases h
  | some d =>
    rw [h1] at h
    dsimp only at h
    cases h2 : toD b with
    | none => rw [h2] at h; cases h
    | some e =>
      rw [h2] at h
      dsimp only at h
      split at h
      · rename_i hs
        cases h
        obtain ⟨s1, s2⟩ := Bool.and_eq_true_iff.mp hs
        exact ⟨d, e, toD_ok r1 h1, toD_ok r2 h2, s1, s2, rfl⟩
      · cases h
section
variable {p : Pm} {X : Cx} (hK : p.K = X.K)
include hK in
theorem ot_eqD (hu : X.A.units + 64 < cLine) : OpT p X (compareOp .Eq) cEqD := opr_imp (op_eqD hu) fun x y H Q ⟨a, b, t, r1, r2, _, hf, q⟩ => by
  unfold cEqD at hf
  cases h : eqD a b with
  | none => rw [h] at hf; cases hf
  | some c =>
    rw [h] at hf
    cases hf
    obtain ⟨d, e, k1, k2, s1, s2, ee⟩ := eqD_ok r1 r2 h
    exact ⟨d, e, hK ▸ k1, hK ▸ k2, s1, s2, by rw [ee]; exact q _ H (Same.refl H) rfl⟩
include hK in
theorem ot_neD (hu : X.A.units + 64 < cLine) : OpT p X (compareOp .NotEq) cNeD := opr_imp (op_neD hu) fun x y H Q ⟨a, b, t, r1, r2, _, hf, q⟩ => by
  unfold cNeD at hf
  cases h : eqD a b with
  | none => rw [h] at hf; cases hf
  | some c =>
    rw [h] at hf
    cases hf
    obtain ⟨d, e, k1, k2, s1, s2, ee⟩ := eqD_ok r1 r2 h
    exact ⟨d, e, hK ▸ k1, hK ▸ k2, s1, s2, by rw [ee]; exact q _ H (Same.refl H) rfl⟩

/-! ### exceptions -/
/-- the things at the places -/
def pk {α : Type} (ns : List (Str × Nat)) (us : List α) : List α := ns.filterMap fun q => us[q.2]?
theorem fl_zip {α : Type} {us : List α} : ∀ {ns : List (Str × Nat)}, (∀ q ∈ ns, q.2 < us.length) → fl ns us = (ns.map (·.1)).zip (pk ns us)
  | [], _ => rfl
  | (n, i) :: ns, h => by
    have hi : i < us.length := h (n, i) List.mem_cons_self
    have e : us[i]? = some us[i] := List.getElem?_eq_getElem hi
    have ih := fl_zip (ns := ns) fun q hq => h q (List.mem_cons_of_mem _ hq)
    have e1 : fl ((n, i) :: ns) us = (n, us[i]) :: fl ns us := by unfold fl; rw [List.filterMap_cons_some]; simp [e]
    have e2 : pk ((n, i) :: ns) us = us[i] :: pk ns us := by unfold pk; rw [List.filterMap_cons_some]; simp [e]
    rw [e1, e2, ih]
    rfl
theorem pk_reps {H : Hp} {ts : List T} {vs : List V} (r : Reps p H ts vs) : ∀ (ns : List (Str × Nat)), Reps p H (pk ns ts) (pk ns vs)
  | [] => rfl
  | (n, i) :: ns => by
    have ih := pk_reps r ns
    cases ht : ts[i]? with
    | none =>
      have hv : vs[i]? = none := by
        rw [List.getElem?_eq_none_iff] at ht ⊢
        rw [r.length]
        exact ht
      have e1 : pk ((n, i) :: ns) ts = pk ns ts := by unfold pk; rw [List.filterMap_cons_none]; exact ht
      have e2 : pk ((n, i) :: ns) vs = pk ns vs := by unfold pk; rw [List.filterMap_cons_none]; exact hv
      rw [e1, e2]
      exact ih
    | some t =>
      obtain ⟨v, hv, rv⟩ := r.get ht
      have e1 : pk ((n, i) :: ns) ts = t :: pk ns ts := by unfold pk; rw [List.filterMap_cons_some]; exact ht
      have e2 : pk ((n, i) :: ns) vs = v :: pk ns vs := by unfold pk; rw [List.filterMap_cons_some]; exact hv
      rw [e1, e2]
      exact .cons rv ih
/-- C(e, ..), C the class number i -/
def eMk (i k : Nat) (ns : List (Str × Nat)) (l : AF) : EF := fun env dr => match l env dr with
  | none => none
  | some (ts, dr1) => if ts.length = k then some (.exo i (ns.map (·.1)) (pk ns ts), dr1) else none
variable {e : Expr} {es : List Expr} {x : Str} {C fI : Addr} {i k : Nat} {ns : List (Str × Nat)} {pp pos : Pos} {l : AF} {f : EF}
theorem se_mk (hi : p.cl[i]? = some C) (T : ExC X.K C) (iC : PySem.W.findIn X.K (.ref C) "__init__" = some (some (.ref fI))) (tC : PySem.W.typeIn X.K (.ref fI) = some (.type "function")) (J : Ini X.prog X.w X.K C fI k ns) (hr : Room 1 X.A) (hm : X.mg x = some (.ref C)) (ha : SA p X (e :: es) l)
    (hk : k ≤ 1000 := by decide) (hns : ∀ q ∈ ns, q.2 < k := by decide) (hg : Gl X x := by rfl) (hdb : (x == ("__debug__" : Str)) = false := by decide)
    (he : starEach (e :: es) X.env = (false, eval e X.env) :: starEach es X.env := by rfl) (hpl : (backTo pos (starEach es X.env)).any (·.1) = false := by rfl) :
    SE p X (.Call (.Name x pp) (e :: es) [] pos) (eMk i k ns l) := pe_imp (pe_mkx T iC tC J hk hr hg hm ha hdb he hpl) fun σ H Q ⟨env, dr, t, dr', hR, hO, hf, q⟩ => by
  unfold eMk at hf
  cases h1 : l env dr with
  | none => rw [h1] at hf; cases hf
  | some z =>
    obtain ⟨ts, dr1⟩ := z
    rw [h1] at hf
    dsimp only at hf
    split at hf
    · rename_i hl
      cases hf
      refine ⟨env, dr, ts, _, hR, hO, h1, fun vs H1 e1 r1 o1 => ?_⟩
      have hvl : vs.length = k := r1.length.trans hl
      refine ⟨hvl, fun a d ha hd hne => ?_⟩
      have s1 : Same H1 (upd H1 d (exd d (fl ns vs))) := same_new hd _
      have s2 : Same (upd H1 d (exd d (fl ns vs))) (upd (upd H1 d (exd d (fl ns vs))) a (exo a C (some d))) := same_new (by rw [upd_ne hne]; exact ha) _
      have s : Same H1 (upd (upd H1 d (exd d (fl ns vs))) a (exo a C (some d))) := fun b u z => s2 b u (s1 b u z)
      refine q _ _ (e1.trans (.same s)) ⟨C, a, d, pk ns vs, hi, rfl, upd_same, ?_, (pk_reps r1 ns).ext (.same s)⟩ (o1.same s)
      rw [upd_ne (Ne.symm hne), upd_same, fl_zip (fun z hz => by rw [hvl]; exact hns z hz)]
    · cases hf
/-- e.f -/
def eAt (is : List Nat) (f : Str) (ef : EF) : EF := fun env dr => match ef env dr with
  | some (.exo i ns ts, dr1) => if is.contains i then (match (ns.zip ts).lookup f with
    | some t => some (t, dr1)
    | none => none) else none
  | _ => none
theorem lookupP {α : Type} (f g : Str) (y : α) (fs : List (Str × α)) : ((f, y) :: fs).lookup g = if g = f then some y else fs.lookup g := by
  by_cases h : g = f
  · subst h
    simp [List.lookup]
  · have e : (g == f) = false := by simpa using h
    rw [if_neg h]
    simp [List.lookup, e]
theorem zip_get {H : Hp} {n : Str} : ∀ {ns : List Str} {ts : List T} {vs : List V} {t : T}, Reps p H ts vs → (ns.zip ts).lookup n = some t → ∃ v, (ns.zip vs).lookup n = some v ∧ Rep p H t v
  | [], ts, vs, t, r, h => by simp at h
  | m :: ns, [], vs, t, r, h => by simp at h
  | m :: ns, u :: ts, vs, t, r, h => by
    obtain ⟨v, w, rfl, a, b⟩ := r
    rw [List.zip_cons_cons, lookupP] at h ⊢
    by_cases e : n = m
    · rw [if_pos e] at h ⊢
      cases h
      exact ⟨v, rfl, a⟩
    · rw [if_neg e] at h ⊢
      exact zip_get b h
theorem se_at {is : List Nat} {f : Str} {ef : EF} (hc : ∀ i C, is.contains i = true → p.cl[i]? = some C → ExC X.K C ∧ PySem.W.findIn X.K (.ref C) f = some none) (he : SE p X e ef) (hb : attributeBase e f X.env (eval e X.env) = eval e X.env := by rfl) : SE p X (.Attribute e f pos) (eAt is f ef) :=
  pe_imp (pe_atx he hb) fun σ H Q ⟨env, dr, t, dr', hR, hO, hf, q⟩ => by
    unfold eAt at hf
    split at hf
    · rename_i i ns ts dr1 h1
      split at hf
      · rename_i hm
        cases h2 : (ns.zip ts).lookup f with
        | none => rw [h2] at hf; cases hf
        | some u =>
          rw [h2] at hf
          cases hf
          refine ⟨env, dr, _, _, hR, hO, h1, fun v H1 e1 r1 o1 => ?_⟩
          obtain ⟨C, a, d, vs, hi, rfl, ea, ed, rs⟩ := r1
          obtain ⟨y, hy, ry⟩ := zip_get rs h2
          obtain ⟨T, nf⟩ := hc i C hm hi
          exact ⟨a, C, d, _, y, rfl, T, nf, ea, ed, hy, q y H1 e1 ry o1⟩
      · cases hf
    · cases hf
/-- isinstance(e, c), c a class -/
def isxF (g : Nat → Option Bool) : List T → Option T
  | [.exo i _ _] => (g i).map .bl
  | _ => none
theorem se_isx {ce : Expr} {g : Nat → Option Bool} {c : V} {u : Value} (hcv : ClsV c u) (hc : ∀ i b C, g i = some b → p.cl[i]? = some C → ExC X.K C ∧ PySem.W.kitOne X.K (.ref C) u = some b) (ha : SE p X e f) (hce : PE X ce (tC c)) (hm : X.mg "isinstance" = none)
    (hg : Gl X "isinstance" := by rfl) (he : starEach [e, ce] X.env = (false, eval e X.env) :: starEach [ce] X.env := by rfl) (he2 : starEach [ce] X.env = (false, eval ce X.env) :: starEach [] X.env := by rfl) (hpl : (backTo pos (starEach [ce] X.env)).any (·.1) = false := by rfl) :
    SE p X (.Call (.Name "isinstance" pp) [e, ce] [] pos) (eB (isxF g) (aCons f aNil)) := by
  refine pe_imp (pe_callB call_isx hg hm PyProof.Rows.boot_isinstance (pa_cons ha (pa_cons hce pa_nil he2) he) (by decide) (by decide) he hpl) fun σ H Q ⟨env, dr, t, dr', hR, hO, hf, q⟩ => ?_
  unfold eB aCons aNil at hf
  cases h1 : f env dr with
  | none => rw [h1] at hf; cases hf
  | some z =>
    obtain ⟨a, dr1⟩ := z
    rw [h1] at hf
    dsimp only at hf
    unfold isxF at hf
    split at hf
    · cases hf
    · rename_i hx
      split at hx
      · rename_i i _ _ hl
        cases hl
        cases h2 : g i with
        | none => rw [h2] at hx; cases hx
        | some b =>
          rw [h2] at hx
          cases hx
          cases hf
          refine ⟨env, dr, _, _, hR, hO, h1, fun v H1 e1 r1 o1 => ?_⟩
          obtain ⟨C, a, d, vs, hi, rfl, ea, ed, rs⟩ := r1
          obtain ⟨T, kk⟩ := hc _ _ C h2 hi
          exact ⟨a, C, d, _, c, u, b, rfl, hcv, T, ea, ed, kk, q _ _ e1 rfl o1⟩
      · cases hx
end
end FL
set_option linter.all false
set_option maxRecDepth 100000
set_option maxHeartbeats 2000000
namespace FL
open PySem PySem.Spec PyProof.Rows L2 GxR GA
/-- -e -/
def eNeg (f : EF) : EF := fun env dr => match f env dr with
  | some (.int i, dr1) => some (.int (-i), dr1)
  | _ => none
theorem se_neg {p : Pm} {X : Cx} {a : Expr} {pos : Pos} {f : EF} (ha : SE p X a f) : SE p X (.UnaryOp .USub a pos) (eNeg f) := pe_imp (pe_un un_neg ha) fun σ H Q ⟨env, dr, t, dr', hR, hO, hf, q⟩ => by
  unfold eNeg at hf
  split at hf
  · rename_i i dr1 h1
    cases hf
    exact ⟨env, dr, _, _, hR, hO, h1, fun v H1 e1 r1 o1 => ⟨i, r1, q _ H1 e1 rfl o1⟩⟩
  · cases hf
/-- == of scalars, else of data -/
def cEqX (x y : T) : Option T := match cEq x y with
  | some t => some t
  | none => cEqD x y
def cNeX (x y : T) : Option T := match cNe x y with
  | some t => some t
  | none => cNeD x y
section
variable {p : Pm} {X : Cx} (hK : p.K = X.K)
include hK in
theorem ot_eqX (hu : X.A.units + 64 < cLine) : OpT p X (compareOp .Eq) cEqX := OpT.or ot_eq (ot_eqD hK hu)
include hK in
theorem ot_neX (hu : X.A.units + 64 < cLine) : OpT p X (compareOp .NotEq) cNeX := OpT.or ot_ne (ot_neD hK hu)
end
end FL
namespace FL
open PySem PySem.Spec PyProof.Rows L2 GxR GA
theorem fn_none {P : Program} {w : World} {K : PySem.W.Frag} {mg : Str → Option Value} {base : Heap} {CX : CXT} {k : Nat} {f : Addr} {fd : FuncData} {ps : List Str} {p : Pm} {n : Nat} : FnOk P w K mg base CX k f fd ps (spF p n fun _ _ => none) := by
  have no : ∀ vs H Q E, ¬ spF p n (fun _ _ => none) vs H Q E := fun vs H Q E ⟨ex, ts, dr, t, dr', hn, r, o, hf, q⟩ => nomatch hf
  exact ⟨fun vs H Q E h => absurd h (no vs H Q E), fun A outer s H args us vs Q E _ _ _ _ h => absurd h (no vs H Q E)⟩
end FL
set_option linter.all false
set_option maxRecDepth 100000
set_option maxHeartbeats 2000000
/-! sum(a list of lists, a list): the lists one behind the other. -/
namespace SUML
open PySem PyProof.Rows
open Sem (wp)
theorem args2 (a b : Value) : argsOk "sum" ⟨[a, b], []⟩ := by unfold argsOk; kernel_rfl
theorem ls : isSubtype (.type "list") (.type "str") = pure false := by rw [isSubtype_type]; kernel_rfl
theorem lb : isSubtype (.type "list") (.type "bytes") = pure false := by rw [isSubtype_type]; kernel_rfl
theorem lba : isSubtype (.type "list") (.type "bytearray") = pure false := by rw [isSubtype_type]; kernel_rfl
def cat (rest : List (Addr × List Value)) : List Value := (rest.map (·.2)).flatten
section
variable {prog : Program} {w : World} {A : Around} {R : Result → Shared → Prop} {items : Array Value} {I ax S : Addr}
theorem notIter {h : Heap} {t : Addr} {xs : Array Value} {n i : Nat} (hi : h.IsListIter I ax i) (ht : IsL h t xs n) : t ≠ I := fun e => by
  obtain ⟨o, e1, e2, _⟩ := hi
  rw [← e] at e1
  have z := Option.some.inj (ht.symm.trans e1)
  rw [← z] at e2
  have e3 : Value.type "list" = Value.type "list_iterator" := e2
  exact absurd e3 (by decide)
theorem loop (hh : A.handled = none) (hax : ax ≠ I) (hSI : S ≠ I) (hSx : S ≠ ax) : ∀ (rest : List (Addr × List Value)) (i : Nat) (s : Shared) (t : Addr) (acc : List Value) (n c : Nat),
    i ≤ items.size → items.toList.drop i = rest.map (fun p => Value.ref p.1) → s.heap.IsListIter I ax i → s.heap.IsList ax items →
    s.heap.get? S = some { cls := .type "list", dict := none, data := .seq #[.ref t] c, slots := #[] } → IsL s.heap t acc.toArray n → t ≠ S → (∀ p ∈ rest, (∃ m, IsL s.heap p.1 p.2.toArray m) ∧ p.1 ≠ S) →
    acc.length + (cat rest).length ≤ sizeLine →
    (rest = [] → ∀ h' tk, (∀ b o, b ≠ I → b ≠ S → s.heap.get? b = some o → h'.get? b = some o) → R (.ok (.ret (.ref t))) { s with heap := h', toks := tk }) →
    (rest ≠ [] → ∀ h' tk p m, (∀ b o, b ≠ I → b ≠ S → s.heap.get? b = some o → h'.get? b = some o) → s.heap.objs.size ≤ p → IsL h' p (acc ++ cat rest).toArray m → R (.ok (.ret (.ref p))) { s with heap := h', toks := tk }) →
    codeAny (model prog w) A (.builtin "sum.loop" ⟨[.ref I, .ref S, rawInt 2, rawInt 0], []⟩) R s := by
  intro rest
  induction rest with
  | nil =>
    intro i s t acc n c hi hd hit hil hS ht htS hr hz h0 h1
    have hin : i = items.size := by
      have := congrArg List.length hd
      simp at this
      omega
    subst hin
    refine codeAny_builtin F.entry_sum_loop ?_
    rw [Around.under_plainId F.plain_sum_loop _]
    show wpAny _ A.in1 (seqItems? (.ref S) >>= _) _ _ s
    refine wpAny_bind (wpAny_seqItems hS rfl ?_)
    show wpAny _ A.in1 (tryCatch (pyNext (.ref I)) _ >>= _) _ _ s
    refine wpAny_bind (wpAny_tryCatch (wpAny_pyNext_list_end (A := A.in1) hh hit hil (by simp) fun h' hk => ?_))
    exact wpAny_pure (h0 rfl h' s.toks fun b o hb _ e => hk b o hb e)
  | cons p rest ih =>
    intro i s t acc n c hi hd hit hil hS ht htS hr hz h0 h1
    have hlt : i < items.size := by
      have := congrArg List.length hd
      simp at this
      omega
    have hd2 : items.toList.drop (i + 1) = rest.map (fun p => Value.ref p.1) := by
      have := congrArg List.tail hd
      rw [List.tail_drop] at this
      exact this
    have hv : items[i]? = some (.ref p.1) := by
      have := congrArg List.head? hd
      rw [List.head?_drop] at this
      rw [← Array.getElem?_toList]
      exact this
    obtain ⟨⟨m, hp⟩, hpS⟩ := hr p List.mem_cons_self
    refine codeAny_builtin F.entry_sum_loop ?_
    rw [Around.under_plainId F.plain_sum_loop _]
    show wpAny _ A.in1 (seqItems? (.ref S) >>= _) _ _ s
    refine wpAny_bind (wpAny_seqItems hS rfl ?_)
    show wpAny _ A.in1 (tryCatch (pyNext (.ref I)) _ >>= _) _ _ s
    refine wpAny_bind (wpAny_tryCatch (wpAny_pyNext_list_item hit hil (x := .ref p.1) hv fun h1' hit1 hk => ?_))
    have hk' : ∀ b o, b ≠ I → s.heap.get? b = some o → h1'.get? b = some o := fun b o hb e => (hk.2 b hb).trans e
    have hil1 : h1'.IsList ax items := hil.extBut hk.extBut hax
    have hS1 := hk' S _ hSI hS
    have ht1 : IsL h1' t acc.toArray n := hk' t _ (notIter hit ht) ht
    have hp1 : IsL h1' p.1 p.2.toArray m := hk' p.1 _ (notIter hit hp) hp
    have hcat : (cat (p :: rest)).length = p.2.length + (cat rest).length := by unfold cat; simp
    show wpAny _ A.in1 ((holding [Value.ref p.1] (binaryOp .Add (.ref t) (.ref p.1))).attempt >>= _) _ _ _
    refine wpAny_bind (wpAny_attempt (wpAny_holding (P.add_list (s := { s with heap := h1' }) ht1 hp1 ?_ (by rw [List.size_toArray, List.size_toArray]; omega))))
    have hS2 := Heap.get?_push_of_some ({ cls := .type "list", data := .seq (acc.toArray ++ p.2.toArray) } : Obj) hS1
    show wpAny _ A.in1 (updateSeq S (fun _ => #[.ref h1'.objs.size]) >>= _) _ _ _
    refine wpAny_bind (wpAny_updateSeq hS2 rfl ?_)
    have hS3 := Heap.get?_update_self (Obj.mapSeq fun _ => #[Value.ref h1'.objs.size]) hS2 rfl
    refine wpAny_bind (wpAny_letGo ?_)
    have hsz1 : s.heap.objs.size ≤ h1'.objs.size := Nat.le_of_eq hk.1.symm
    have far : ∀ {b : Addr} {o : Obj}, s.heap.get? b = some o → b < h1'.objs.size := fun {b o} e => Nat.lt_of_lt_of_le (Heap.lt_size e) hsz1
    have hSlt := far hS
    have upS : ∀ {H : Heap} {f : Obj → Obj} {b : Addr} {o : Obj}, b ≠ S → H.get? b = some o → (H.update S f).get? b = some o := fun {H f b o} hb e => (Heap.get?_update_other _ _ (Ne.symm hb)).trans e
    have keep3 : ∀ b o, b ≠ I → b ≠ S → s.heap.get? b = some o →
        ((((h1'.push { cls := .type "list", data := .seq (acc.toArray ++ p.2.toArray) }).update S (Obj.mapSeq fun _ => #[Value.ref h1'.objs.size])).update S (Obj.mapSeq fun _ => #[Value.ref h1'.objs.size])).get? b = some o) := fun b o hb hbS e => upS hbS (upS hbS (Heap.get?_push_of_some _ (hk' b o hb e)))
    have hnew : IsL (((h1'.push { cls := .type "list", data := .seq (acc.toArray ++ p.2.toArray) }).update S (Obj.mapSeq fun _ => #[Value.ref h1'.objs.size])).update S (Obj.mapSeq fun _ => #[Value.ref h1'.objs.size])) h1'.objs.size (acc ++ p.2).toArray 0 := by
      refine upS (Ne.symm (Nat.ne_of_lt hSlt)) (upS (Ne.symm (Nat.ne_of_lt hSlt)) ?_)
      rw [← List.append_toArray]
      exact Heap.get?_push_size _ rfl
    obtain ⟨oi, ei, ci, di⟩ := hit1
    obtain ⟨ol, el, cl', nl, dl⟩ := hil1
    refine wpAny_bind (wpAny_updateSeq hS3 rfl (wpAny_pure ⟨plainId_quiet F.plain_sum_loop _, ih (i + 1) _ h1'.objs.size (acc ++ p.2) 0 _ hlt hd2 ⟨oi, upS (Ne.symm hSI) (upS (Ne.symm hSI) (Heap.get?_push_of_some _ ei)), ci, di⟩ ⟨ol, upS (Ne.symm hSx) (upS (Ne.symm hSx) (Heap.get?_push_of_some _ el)), cl', nl, dl⟩
      (Heap.get?_update_self _ hS3 rfl) hnew (Ne.symm (Nat.ne_of_lt hSlt)) (fun q hq => ?_) (by rw [List.length_append]; omega) (fun hr0 h' tk' hk3 => ?_) (fun hr1 h' tk' q m' hk3 hq hl => ?_)⟩))
    · obtain ⟨⟨m2, e2⟩, hqS⟩ := hr q (List.mem_cons_of_mem _ hq)
      exact ⟨⟨m2, keep3 _ _ (notIter hit e2) hqS e2⟩, hqS⟩
    · subst hr0
      refine h1 (by simp) h' tk' h1'.objs.size 0 (fun b o hb hbS e => hk3 b o hb hbS (keep3 b o hb hbS e)) hsz1 ?_
      have e : acc ++ cat [p] = acc ++ p.2 := by unfold cat; simp
      rw [e]
      exact hk3 _ _ (Ne.symm (Nat.ne_of_lt (Heap.lt_size ei))) (Ne.symm (Nat.ne_of_lt hSlt)) hnew
    · refine h1 (by simp) h' tk' q m' (fun b o hb hbS e => hk3 b o hb hbS (keep3 b o hb hbS e)) (Nat.le_trans hsz1 ?_) ?_
      · refine Nat.le_trans ?_ hq
        show h1'.objs.size ≤ (((h1'.push _).update S _).update S _).objs.size
        rw [Heap.size_update, Heap.size_update, Heap.size_push]
        exact Nat.le_succ _
      · have e : acc ++ cat (p :: rest) = acc ++ p.2 ++ cat rest := by unfold cat; simp
        rw [e]
        exact hl
end
section
variable {prog : Program} {w : World} {A : Around} {E : Value → Shared → Prop} {s : Shared}
/-- sum(l, b), l's items lists -/
theorem call_sum {l b : Addr} {items : Array Value} {rest : List (Addr × List Value)} {acc : List Value} {n : Nat} {Q : Value → Shared → Prop} (hh : A.handled = none) (hl : s.heap.IsList l items) (hd : items.toList = rest.map fun p => Value.ref p.1)
    (hb : IsL s.heap b acc.toArray n) (hr : ∀ p ∈ rest, ∃ m, IsL s.heap p.1 p.2.toArray m) (hz : acc.length + (cat rest).length ≤ sizeLine)
    (h0 : rest = [] → ∀ h' tk, (∀ b o, s.heap.get? b = some o → h'.get? b = some o) → Q (.ref b) { s with heap := h', toks := tk })
    (h1 : rest ≠ [] → ∀ h' tk p m, (∀ b o, s.heap.get? b = some o → h'.get? b = some o) → s.heap.objs.size ≤ p → IsL h' p (acc ++ cat rest).toArray m → Q (.ref p) { s with heap := h', toks := tk }) :
    wpAny (model prog w) A (call (.builtin "sum") [.ref l, .ref b]) Q E s := by
  refine call_function_tree F.kind_sum F.plain_sum F.entry_sum (args2 _ _) ?_
  unfold Builtin.«sum»
  simp only [List.length_cons, List.length_nil]
  rw [if_neg (by decide)]
  refine wpAny_bind (wpAny_of_eq (show Builtin.Builtins.bindParams "sum" ["start"] 0 { pos := [Value.ref b] } = pure [some (.ref b)] from rfl) ?_)
  refine wpAny_bind (wpAny_pyIter_list hl ?_)
  refine wpAny_bind (wpAny_pure ?_)
  have ltI : ∀ {c : Addr} {o : Obj}, s.heap.get? c = some o → c < s.heap.objs.size := fun {c o} e => Heap.lt_size e
  have hb1 := Heap.get?_push_of_some ({ cls := .type "list_iterator", data := .fields #[.ref l, .int 0 0] } : Obj) hb
  simp only [List.forIn_cons, List.forIn_nil]
  refine wpAny_bind (wpAny_bind (wpAny_bind (wpAny_isInstance (T := "list") (b := false) ⟨_, hb1, rfl⟩ ls ?_)))
  simp only [Bool.false_eq_true, if_false]
  refine wpAny_pure (wpAny_bind (wpAny_bind (wpAny_isInstance (T := "list") (b := false) ⟨_, hb1, rfl⟩ lb ?_)))
  simp only [Bool.false_eq_true, if_false]
  refine wpAny_pure (wpAny_bind (wpAny_bind (wpAny_isInstance (T := "list") (b := false) ⟨_, hb1, rfl⟩ lba ?_)))
  simp only [Bool.false_eq_true, if_false]
  refine wpAny_pure (wpAny_pure ?_)
  refine wpAny_bind (wpAny_newObj_type ?_)
  obtain ⟨ol, el, cl, nl, dl⟩ := hl
  have k : ∀ c o, s.heap.get? c = some o → ((s.heap.push { cls := .type "list_iterator", data := .fields #[.ref l, .int 0 0] }).push { cls := .type "list", data := .seq #[.ref b] }).get? c = some o :=
    fun c o e => Heap.get?_push_of_some _ (Heap.get?_push_of_some _ e)
  have hsz : (s.heap.push { cls := .type "list_iterator", data := .fields #[.ref l, .int 0 0] }).objs.size = s.heap.objs.size + 1 := Heap.size_push ..
  have hsz2 : ((s.heap.push { cls := .type "list_iterator", data := .fields #[.ref l, .int 0 0] }).push { cls := .type "list", data := .seq #[.ref b] }).objs.size = s.heap.objs.size + 1 + 1 := by rw [Heap.size_push, hsz]
  refine wpAny_pure ⟨plainId_quiet F.plain_sum_loop _, loop (items := items) (ax := l) (S := (s.heap.push { cls := .type "list_iterator", data := .fields #[.ref l, .int 0 0] }).objs.size) (I := s.heap.objs.size) hh (Nat.ne_of_lt (ltI el)) (by rw [hsz]; exact Nat.succ_ne_self _) (by rw [hsz]; exact Ne.symm (Nat.ne_of_lt (Nat.lt_succ_of_lt (ltI el)))) rest 0 _ b acc n 0 (Nat.zero_le _) hd
    ⟨_, Heap.get?_push_of_some _ (Heap.get?_push_size _ rfl), rfl, rfl⟩ ⟨ol, k _ _ el, cl, nl, dl⟩ (Heap.get?_push_size _ rfl) (k _ _ hb) (by rw [hsz]; exact Nat.ne_of_lt (Nat.lt_succ_of_lt (ltI hb))) (fun p hp => ?_) hz (fun hr0 h' tk hk => ?_) (fun hr1 h' tk p m hk hp hq => ?_)⟩
  · obtain ⟨m, e⟩ := hr p hp
    exact ⟨⟨m, k _ _ e⟩, by rw [hsz]; exact Nat.ne_of_lt (Nat.lt_succ_of_lt (ltI e))⟩
  · exact h0 hr0 h' tk fun c o e => hk c o (Nat.ne_of_lt (ltI e)) (by rw [hsz]; exact Nat.ne_of_lt (Nat.lt_succ_of_lt (ltI e))) (k c o e)
  · refine h1 hr1 h' tk p m (fun c o e => hk c o (Nat.ne_of_lt (ltI e)) (by rw [hsz]; exact Nat.ne_of_lt (Nat.lt_succ_of_lt (ltI e))) (k c o e)) ?_ hq
    have hp' : ((s.heap.push { cls := .type "list_iterator", data := .fields #[.ref l, .int 0 0] }).push { cls := .type "list", data := .seq #[.ref b] }).objs.size ≤ p := hp
    rw [hsz2] at hp'
    exact Nat.le_trans (Nat.le_trans (Nat.le_succ _) (Nat.le_succ _)) hp'
end
end SUML
set_option linter.all false
set_option maxRecDepth 100000
set_option maxHeartbeats 2000000
namespace SUML
open PySem PySem.Spec PyProof.Rows L2
def rSumL : List V → Hp → VK → Prop := fun vs H Q => ∃ (a b : Addr) (cs : List (Addr × List V)) (ys : List V), vs = [V.ref a, V.ref b] ∧ H a = some (.lst (cs.map fun q => V.ref q.1)) ∧ H b = some (.lst ys) ∧ (∀ q ∈ cs, H q.1 = some (.lst q.2)) ∧
  ys.length + ((cs.map (·.2)).flatten).length ≤ sizeLine ∧ (cs = [] → Q (.ref b) H) ∧ (cs ≠ [] → ∀ p, H p = none → Q (.ref p) (upd H p (.lst (ys ++ (cs.map (·.2)).flatten))))
section
variable {X : Cx} {pins : List (Addr × Obj)} {σ : L2.St} {H : Hp} {s : Shared}
theorem refs_of : ∀ {cs : List (Addr × List V)} {its : List Value}, Vals (cs.map fun q => V.ref q.1) its → its = cs.map fun q => Value.ref q.1
  | [], _, h => by cases h; rfl
  | q :: cs, _, h => by
    cases h with
    | cons a b => rw [show _ = Value.ref q.1 from a, refs_of b]; rfl
theorem inner (I : Inv X pins σ H s) : ∀ cs : List (Addr × List V), (∀ q ∈ cs, H q.1 = some (.lst q.2)) → ∃ rest : List (Addr × List Value), (rest.map fun p => Value.ref p.1) = (cs.map fun q => Value.ref q.1) ∧ (rest = [] ↔ cs = []) ∧ (∀ p ∈ rest, ∃ m, IsL s.heap p.1 p.2.toArray m) ∧
    Vals (cs.map (·.2)).flatten (cat rest)
  | [], _ => ⟨[], rfl, by simp, fun p hp => (nomatch hp), .nil⟩
  | q :: cs, h => by
    obtain ⟨z, its, n, r, hl, e⟩ := I.lstM (h q List.mem_cons_self)
    obtain ⟨rest, h1, h2, h3, h4⟩ := inner I cs fun q' hq => h q' (List.mem_cons_of_mem _ hq)
    refine ⟨(q.1, its) :: rest, by simp [h1], by simp, fun p hp => ?_, ?_⟩
    · rcases List.mem_cons.mp hp with rfl | hp
      · exact ⟨n, e⟩
      · exact h3 p hp
    · show Vals (q.2 ++ (cs.map (·.2)).flatten) (its ++ cat rest)
      exact r.append h4
theorem cr_sumL (hc : X.calm = true) : CallR X (.builtin "sum") rSumL := by
  intro pins s σ H vs us Q I r h
  obtain ⟨a, b, cs, ys, rfl, ha, hb, hcs, hz, q0, q1⟩ := h
  obtain ⟨u1, u2, rfl, r1, r2⟩ := vals2 r
  obtain rfl : u1 = Value.ref a := r1
  obtain rfl : u2 = Value.ref b := r2
  obtain ⟨z1, its, n1, rv, hl1, e1⟩ := I.lstM ha
  obtain ⟨z2, acc, n2, ra, hl2, e2⟩ := I.lstM hb
  obtain ⟨rest, h1, h2, h3, h4⟩ := inner I cs hcs
  have hi := refs_of rv
  refine call_sum (I.ok.hd hc) (rest := rest) (acc := acc) ⟨_, e1, rfl, _, rfl⟩ (by rw [h1, ← hi]) e2 h3 (by rw [← ra.length, ← h4.length]; exact hz) (fun hr h' tk hk => ?_) (fun hr h' tk p m hk hp hq => ?_)
  · exact ⟨.ref b, H, I.kept hk, rfl, q0 (h2.mp hr)⟩
  · refine ⟨.ref p, upd H p (.lst (ys ++ (cs.map (·.2)).flatten)), I.laid (t' := tk) hk hp ⟨by rw [List.length_append]; exact hz, _, m, ra.append h4, hq⟩, rfl, q1 (fun z => hr (h2.mpr z)) p (I.hok.fresh hp)⟩
end
end SUML
namespace FL
open PySem PySem.Spec PyProof.Rows L2 GxR GA SUML
def lstsT : List T → Option (List (List T))
  | [] => some []
  | .lst b :: r => (lstsT r).map (b :: ·)
  | _ => none
def sumLF : List T → Option T
  | [.lst ts, .lst us] => match lstsT ts with
    | some xss => if us.length + xss.flatten.length ≤ lim then some (.lst (us ++ xss.flatten)) else none
    | none => none
  | _ => none
section
variable {p : Pm} {X : Cx}
theorem lsts_ok {H : Hp} : ∀ {ts : List T} {vs : List V} {xss : List (List T)}, Reps p H ts vs → lstsT ts = some xss → ∃ cs : List (Addr × List V), vs = (cs.map fun q => V.ref q.1) ∧ (∀ q ∈ cs, H q.1 = some (.lst q.2)) ∧ Reps p H xss.flatten (cs.map (·.2)).flatten ∧ (cs = [] ↔ xss = [])
  | [], _, _, r, h => by cases h; rw [show _ = [] from r]; exact ⟨[], rfl, fun q hq => (nomatch hq), rfl, by simp⟩
  | t :: ts, _, xss, r, h => by
    obtain ⟨v, w, rfl, h1, h2⟩ := r
    cases t <;> try (cases h; done)
    unfold lstsT at h
    cases hh : lstsT ts with
    | none => rw [hh] at h; cases h
    | some yss =>
      rw [hh] at h
      cases h
      obtain ⟨c, ys, rfl, hc, _, ry⟩ := h1
      obtain ⟨cs, e1, e2, e3, _⟩ := lsts_ok h2 hh
      refine ⟨(c, ys) :: cs, by simp [e1], fun q hq => ?_, ?_, by simp⟩
      · rcases List.mem_cons.mp hq with rfl | hq
        · exact hc
        · exact e2 q hq
      · show Reps p H (_ ++ yss.flatten) (ys ++ (cs.map (·.2)).flatten)
        exact ry.append e3
theorem ca_sumL (hc : X.calm = true) : CaT p X (.builtin "sum") sumLF := cr_imp (cr_sumL hc) fun xs H Q ⟨ts, t, r, nd, hf, q⟩ => by
  unfold sumLF at hf
  split at hf
  · rename_i us vs
    cases h1 : lstsT us with
    | none => rw [h1] at hf; cases hf
    | some xss =>
      rw [h1] at hf
      dsimp only at hf
      split at hf
      · rename_i hz
        cases hf
        obtain ⟨v, w, rfl, ⟨a, ws, rfl, ha, _, rs⟩, w2, w3, rfl, hb0, hn⟩ := r
        obtain ⟨b, ys, rfl, hb, fb, ry⟩ := id hb0
        rw [show w3 = [] from hn]
        obtain ⟨cs, rfl, e2, e3, e4⟩ := lsts_ok rs h1
        have l1 := ry.length
        have l2 := e3.length
        refine ⟨a, b, cs, ys, rfl, ha, hb, e2, by rw [l1, l2]; exact lim_ok hz, fun h0 => ?_, fun h0 c hcn => ?_⟩
        · refine q _ H (Same.refl H) ?_
          rw [e4.mp h0, List.flatten_nil, List.append_nil]
          exact hb0
        · exact q _ _ (same_new hcn _) (rep_lst (ry.append e3) hcn (nd c hcn))
      · cases hf
  · cases hf
end
end FL
set_option linter.all false
set_option maxRecDepth 100000
set_option maxHeartbeats 2000000
/-! enumerate over a tuple. -/
namespace ENT
open PySem PySem.Spec PyProof.Rows
open AutoSeq1 (wpAny_loadPart')
theorem new_tuple (c : Addr) (items : Array Value) (n : Nat) (dct : Option Addr) (sl : Array (Option Value)) :
    Meets (Builtin.«enumerate.__new__» ⟨[.type "enumerate", .ref c], []⟩) (fun _ R s => s.heap.get? c = some { cls := .type "tuple", dict := dct, data := .seq items n, slots := sl } ∧
      R (.ok (.ret (.ref (s.heap.push { cls := .type "tuple_iterator", data := .fields #[.ref c, .int 0 0] }).objs.size)))
        { s with heap := (s.heap.push { cls := .type "tuple_iterator", data := .fields #[.ref c, .int 0 0] }).push { cls := .type "enumerate", data := .fields #[.none, .bool false, .ref s.heap.objs.size, rawInt 0, .none, .none] } }) :=
  .of_wp fun prog w A R s h => by
    obtain ⟨hp, g, d, tk, os⟩ := s
    obtain ⟨hl, h⟩ := h
    have hsub := sub_enumerate
    have hT : Heap.IsTuple (Shared.heap ⟨hp, g, d, tk, os⟩) c items := ⟨_, hl, rfl, n, rfl⟩
    wp_walk using wpAny_loadPart' hl
    refine wpAny_stack_any fun st => wpAny_pure ?_
    split
    · rename_i k _ _ _ _ _
      cases (k == Value.type "enumerate")
      · wp_walk using wpAny_loadPart' hl, wpAny_pyIter_tuple hT
        exact ⟨_, rfl, h⟩
      · wp_walk using wpAny_loadPart' hl, wpAny_pyIter_tuple hT
        exact ⟨_, rfl, h⟩
    · wp_walk using wpAny_loadPart' hl, wpAny_pyIter_tuple hT
      exact ⟨_, rfl, h⟩
section
variable {prog : Program} {w : World} {A : Around} {E : Value → Shared → Prop} {s : Shared}
theorem call_tuple {c : Addr} {items : Array Value} {Q : Value → Shared → Prop} (hL : s.heap.IsTuple c items)
    (h : ∀ h', IsEnum h' (s.heap.objs.size + 1) s.heap.objs.size 0 .none → h'.IsTupleIter s.heap.objs.size c 0 → (∀ b o, s.heap.get? b = some o → h'.get? b = some o) → Q (.ref (s.heap.objs.size + 1)) { s with heap := h' }) :
    wpAny (model prog w) A (call (.type "enumerate") [.ref c]) Q E s := by
  obtain ⟨⟨k, dct, dt, sl⟩, hl, hc, n, hd⟩ := hL
  replace hc : k = .type "tuple" := hc
  replace hd : dt = .seq items n := hd
  subst hc hd
  refine callType_new F.called_enumerate (by decide) (F.typeCall_enumerate_1 _) (F.newCall_enumerate_1 _) (fun obj => F.args_object_init_2 obj _) F.entry_enumerate_new (new_tuple c items n dct sl) ⟨hl, ?_⟩
  have hz : (s.heap.push { cls := .type "tuple_iterator", data := .fields #[.ref c, .int 0 0] }).objs.size = s.heap.objs.size + 1 := Heap.size_push ..
  show _ ∧ _
  rw [hz]
  have he : IsEnum ((s.heap.push { cls := .type "tuple_iterator", data := .fields #[.ref c, .int 0 0] }).push { cls := .type "enumerate", data := .fields #[.none, .bool false, .ref s.heap.objs.size, rawInt 0, .none, .none] }) (s.heap.objs.size + 1) s.heap.objs.size 0 .none := by
    have := Heap.get?_push_size (s.heap.push { cls := .type "tuple_iterator", data := .fields #[.ref c, .int 0 0] }) (o := { cls := .type "enumerate", data := .fields #[.none, .bool false, .ref s.heap.objs.size, rawInt 0, .none, .none] }) rfl
    rw [hz] at this
    exact this
  exact ⟨⟨_, he, rfl⟩, h _ he ⟨_, Heap.get?_push_of_some _ (Heap.get?_push_size _ rfl), rfl, rfl⟩ fun b o x => Heap.get?_push_of_some _ (Heap.get?_push_of_some _ x)⟩
theorem next_item {it c : Addr} {i : Nat} {items : Array Value} {x : Value} {Q : Value → Shared → Prop} (hit : s.heap.IsTupleIter it c i) (hl : s.heap.IsTuple c items) (hx : items[i]? = some x)
    (hQ : ∀ h', h'.IsTupleIter it c (i + 1) → Heap.SameBut it s.heap h' → Q x { s with heap := h' }) : wpAny (model prog w) A (Builtin.SmallTypes.nextOf (.ref it)) Q E s := by
  obtain ⟨o, ho, hc, hd⟩ := id hit
  obtain ⟨ol, hol, _, nl, hdl⟩ := hl
  unfold Builtin.SmallTypes.nextOf
  refine wpAny_bind (wpAny_callSpecial?_slot (name := Str.ofString "__next__") hit.typeIs F.slot_tuple_iterator_next (wpAny_call_entry F.slot_tuple_iterator_next hit.typeIs F.entry_tuple_iterator_next ?_ (F.args_tuple_iterator_next_1 _)))
  show wpAny _ _ (field (.ref it) 0 >>= _) _ _ s
  refine wpAny_bind (wpAny_field ho hd (x := .ref c) rfl ?_)
  show wpAny _ _ (if (Value.ref c == Value.none) = true then _ else _) _ _ s
  rw [if_neg (show ¬ ((Value.ref c == Value.none) = true) from Bool.false_ne_true)]
  show wpAny _ _ (field (.ref it) 1 >>= _) _ _ s
  refine wpAny_bind (wpAny_field ho hd (x := .int i 0) rfl ?_)
  show wpAny _ _ (seqItems? (.ref c) >>= _) _ _ s
  refine wpAny_bind (wpAny_seqItems hol hdl ?_)
  simp only [Int.toNat_natCast, hx]
  refine wpAny_bind (wpAny_setField ho hd (by simp) (wpAny_pure ⟨x, rfl, wpAny_pure (hQ _ ?_ (Heap.SameBut.update ..))⟩))
  exact ⟨_, Heap.get?_update_self _ ho (Obj.isFreed_of_fields (Obj.data_mapFields hd _)), (Obj.cls_mapFields ..).trans hc, by rw [Obj.data_mapFields hd]; simp [rawInt]⟩
theorem next_end {it c : Addr} {i : Nat} {items : Array Value} {Q : Value → Shared → Prop} (hh : A.handled = none) (hit : s.heap.IsTupleIter it c i) (hl : s.heap.IsTuple c items) (hx : items[i]? = none)
    (hE : ∀ h' e, Heap.ExtBut it s.heap h' → (∃ o, h'.get? e = some o ∧ o.cls = .type "StopIteration") → E (.ref e) { s with heap := h' }) : wpAny (model prog w) A (Builtin.SmallTypes.nextOf (.ref it)) Q E s := by
  obtain ⟨o, ho, hc, hd⟩ := id hit
  obtain ⟨ol, hol, _, nl, hdl⟩ := hl
  unfold Builtin.SmallTypes.nextOf
  refine wpAny_bind (wpAny_callSpecial?_slot (name := Str.ofString "__next__") hit.typeIs F.slot_tuple_iterator_next (wpAny_call_entry F.slot_tuple_iterator_next hit.typeIs F.entry_tuple_iterator_next ?_ (F.args_tuple_iterator_next_1 _)))
  show wpAny _ _ (field (.ref it) 0 >>= _) _ _ s
  refine wpAny_bind (wpAny_field ho hd (x := .ref c) rfl ?_)
  show wpAny _ _ (if (Value.ref c == Value.none) = true then _ else _) _ _ s
  rw [if_neg (show ¬ ((Value.ref c == Value.none) = true) from Bool.false_ne_true)]
  show wpAny _ _ (field (.ref it) 1 >>= _) _ _ s
  refine wpAny_bind (wpAny_field ho hd (x := .int i 0) rfl ?_)
  show wpAny _ _ (seqItems? (.ref c) >>= _) _ _ s
  refine wpAny_bind (wpAny_seqItems hol hdl ?_)
  simp only [Int.toNat_natCast, hx]
  refine wpAny_bind (wpAny_rule (wpAny_bind (wpAny_setField ho hd (by simp) ?_)))
  show wpAny _ _ (newExc (.type "StopIteration") [] >>= _) _ _ _
  refine wpAny_bind ?_
  simp only [newExc, newTuple]
  refine wpAny_bind (wpAny_newObj_type ?_ (by size_fits))
  refine wpAny_bind (m := firstArgMember _ _) (wpAny_of_eq (a := Value.none) (by first | rfl | (simp only [firstArgMember]; rfl)) ?_)
  refine wpAny_newObj_type ?_ (by size_fits)
  simp only [raiseNew]
  refine wpAny_bind (wpAny_handled ?_)
  first | rw [show A.in1.handled = none from hh] | rw [hh]
  refine wpAny_bind (wpAny_pure (wpAny_throw ?_))
  exact hE _ _ (((Heap.SameBut.update ..).extBut.push _).push _) ⟨_, Heap.get?_push_size _ rfl, rfl⟩
end
theorem at' {h h' : Heap} {a t i} (x : h.IsTupleIter a t i) (k : ∀ o, h.get? a = some o → h'.get? a = some o) : h'.IsTupleIter a t i := let ⟨o, ho, r⟩ := x; ⟨o, k o ho, r⟩
theorem draws {prog : Program} {w : World} {A : Around} (hh : A.handled = none) (it c : Addr) (hne : c ≠ it) (items : Array Value) :
    Draws prog w A it [it, c] items.size (fun i v => items[i]? = some v) (fun i h => h.IsTupleIter it c i ∧ h.IsTuple c items) where
  live := fun _ _ st => let ⟨o, ho, _⟩ := st.1; ⟨o, ho⟩
  frame := fun _ _ _ st hk => ⟨at' st.1 fun o e => hk it (by simp) o e, let ⟨o, e, r⟩ := st.2; ⟨o, hk c (by simp) o e, r⟩⟩
  item := fun i s Q E hi st hQ => next_item st.1 st.2 (x := items[i]) (by simp [hi]) fun h' hit' hs' => hQ _ h' s.toks (by simp [hi]) ⟨hit', st.2.extBut hs'.extBut hne⟩ hs'
  done := fun s Q E st hE => next_end hh st.1 st.2 (by simp) hE
end ENT
namespace L2
open PySem PySem.Spec PyProof.Rows
/-- the tuple at a, each item in a new pair with its number -/
def ItEt (K : PySem.W.Frag) (a : Addr) : It :=
  ⟨fun i H => ∃ (xs : List V) (x : V), SqT K H a xs ∧ xs[i]? = some x, fun i H v H' => ∃ T x, v = .ref T ∧ H T = none ∧ H' = upd H T (.tup [.int (i : Nat), x]) ∧ ∀ xs, SqT K H a xs → xs[i]? = some x, fun i H => ∃ xs : List V, SqT K H a xs ∧ xs.length ≤ i⟩
theorem turn_enumT {P : Program} {w : World} {K : PySem.W.Frag} {elts : List Expr} {kk : Nat} {tpos : Pos} (a e it : Addr) :
    Turn P w K (.Tuple elts kk tpos) (ItEt K a) [e, it] e (fun i h => (∃ old, IsEnum h e it ((i : Nat) : Int) old) ∧ h.IsTupleIter it a i ∧ e ≠ it) where
  mem := by simp
  obj := fun i h st b hb => by
    obtain ⟨⟨old, he⟩, ⟨o, ho, hc, hd⟩, _⟩ := st
    have e' : b = e ∨ b = it := by simpa using hb
    rcases e' with z | z
    · rw [z]; exact ⟨_, he, fun v q => nomatch q⟩
    · rw [z]; exact ⟨o, ho, fun v q => by rw [hd] at q; cases q⟩
  keep := fun i h h' st k => let ⟨⟨old, he⟩, hi, hne⟩ := st; ⟨⟨old, k e (by simp) _ he⟩, ENT.at' hi fun o q => k it (by simp) o q, hne⟩
  item := by
    intro X hP hw hK hc i pins s σ H E I hf st hg
    subst hP hw hK
    obtain ⟨⟨old, he⟩, hit, hne⟩ := st
    obtain ⟨xs, x, hq, hx⟩ := hg
    obtain ⟨its, rv, ⟨ot, hot, hct, nt, hdt⟩, hz⟩ := I.tuple hq
    have hT : s.heap.IsTuple a its.toArray := ⟨ot, hot, hct, nt, hdt⟩
    obtain ⟨u, hu, ru⟩ := rv.get hx
    have hel : e < s.heap.objs.size := Heap.lt_size he
    have hil : it < s.heap.objs.size := by obtain ⟨_, q, _⟩ := hit; exact Heap.lt_size q
    have nai : a ≠ it := fun z => by
      obtain ⟨o, q, qc, _⟩ := hit
      rw [← z, hot] at q
      have e3 := Option.some.inj q
      rw [← e3, hct] at qc
      exact absurd qc (by decide)
    have nea : e ≠ a := fun z => by
      have h2 : IsEnum s.heap a it ((i : Nat) : Int) old := z ▸ he
      have e3 := Option.some.inj (hot.symm.trans h2)
      rw [e3] at hct
      have h4 : Value.type "enumerate" = Value.type "tuple" := hct
      exact absurd h4 (by decide)
    have hi : i < its.toArray.size := by
      have := (List.getElem?_eq_some_iff.mp hu).1
      simpa using this
    refine wpAny_pyNext_enum_itemD (ENT.draws (A := X.A.in1) (I.ok.hd hc) it a nai its.toArray) he ⟨hit, hT⟩ hi hne (by simp [hne, nea]) fun y h' tk hP ho hst hT1 hsz hk => ?_
    have hP : its.toArray[i]? = some y := hP
    have ey : y = u := by
      have hu' : its.toArray[i]? = some u := by simpa using hu
      rw [hu'] at hP
      exact (Option.some.inj hP).symm
    subst ey
    refine ⟨_, rfl, wpAny_letOwnedTupleGo_enum (s := { s with heap := h', toks := tk + 1 }) ho fun h'' he' sb => ?_⟩
    have hT2 : h''.get? s.heap.objs.size = some { cls := .type "tuple", data := .seq #[.int i tk, y] } := (sb.2 _ (Nat.ne_of_gt hel)).trans hT1
    have new : ObjOk X.prog X.w (upd H s.heap.objs.size (.tup [.int (i : Nat), x])) h'' s.heap.objs.size (.tup [.int (i : Nat), x]) :=
      ⟨by show 2 ≤ sizeLine; decide, [.int i tk, y], .cons ⟨_, rfl⟩ (.cons ru .nil), ⟨_, hT2, rfl, _, rfl⟩⟩
    have I1 : Inv X pins σ (upd H s.heap.objs.size (.tup [.int (i : Nat), x])) { s with heap := h'', toks := tk + 1 } :=
      I.turnedNew (ch := [e, it]) (fun b ob hb q => (sb.2 b (fun z => hb (by simp [z]))).trans (hk b ob (fun z => hb (by simp [z])) (fun z => hb (by simp [z])) q)) hf (Nat.le_refl _) new
    refine ⟨.ref s.heap.objs.size, _, I1, rfl, ⟨_, x, rfl, I.hok.fresh (Nat.le_refl _), rfl, fun ys hy => by rw [I.tuple_inj hy hq]; exact hx⟩, ⟨⟨y, ?_⟩, ENT.at' hst.1 fun o q => (sb.2 it (Ne.symm hne)).trans q, hne⟩, fun b hb => ?_⟩
    · have e1 : ((i + 1 : Nat) : Int) = (i : Int) + 1 := by omega
      rw [e1]; exact he'
    · have hb' : b < s.heap.objs.size := by
        have e' : b = e ∨ b = it := by simpa using hb
        rcases e' with z | z
        · rw [z]; exact hel
        · rw [z]; exact hil
      rw [upd_ne (Nat.ne_of_lt hb')]
      exact (hf b hb).1
  done := by
    intro X hP hw hK hc i pins s σ H E I hf st hg
    subst hP hw hK
    obtain ⟨⟨old, he⟩, hit, hne⟩ := st
    obtain ⟨xs, hq, hx⟩ := hg
    obtain ⟨its, rv, ⟨ot, hot, hct, nt, hdt⟩, hz⟩ := I.tuple hq
    have hT : s.heap.IsTuple a its.toArray := ⟨ot, hot, hct, nt, hdt⟩
    obtain ⟨f0, f1, f2, f3, f4, f5⟩ := hf it (by simp)
    have hl := rv.length
    unfold pyNext
    refine wpAny_bind (wpAny_attempt (wpAny_callSpecial?_slot (name := Str.ofString "__next__") (T := "enumerate") ⟨_, he, rfl⟩ F.slot_enumerate_next (wpAny_call_entry F.slot_enumerate_next ⟨_, he, rfl⟩ F.entry_enumerate_next ?_ (F.args_enumerate_next_1 _))))
    show wpAny _ _ (field (.ref e) 2 >>= _) _ _ _
    refine wpAny_bind (wpAny_field he rfl (x := .ref it) rfl ?_)
    refine wpAny_bind (ENT.next_end (I.ok.hd hc) hit hT (by simp; omega) fun h' x he' hx' => ?_)
    obtain ⟨o, ho, hcc⟩ := hx'
    refine wpAny_bind (wpAny_isInstance (T := "StopIteration") (b := true) ⟨o, ho, hcc⟩ isSubtype_stop ?_)
    exact wpAny_pure ⟨rfl, I.turned (t' := s.toks) (fun b o hb q => he' b o hb q) f0 f1 f3 f4 f5⟩
  self := fun A i s Q E st h => let ⟨⟨_, he⟩, _⟩ := st; wpAny_pyIter_enum he h
def iEnumT (K : PySem.W.Frag) (ta : TA) : TI := fun σ H R => ta σ H fun vs H1 => ∃ a xs, vs = [.ref a] ∧ SqT K H1 a xs ∧ R (ItEt K a) H1
theorem pi_enumT {X : Cx} {e : Expr} {ta : TA} {p pos tpos : Pos} {elts : List Expr} {kk : Nat} (hg : Gl X "enumerate") (hm : X.mg "enumerate" = none) (ha : PA X [e] ta) (hs : starEach [e] X.env = [(false, eval e X.env)] := by rfl) :
    PI X (.Tuple elts kk tpos) (.Call (.Name "enumerate" p) [e] [] pos) (iEnumT X.K ta) := by
  refine ⟨fun pins s σ H R I h => ?_⟩
  refine Call_ (ld_blt I hg hm boot_enumerate (PyProof.Rows.callWith_type1 (thn (ha.run pos pins s σ H _ I h) fun us s1 ⟨vs, H1, I1, r1, q1⟩ => ?_) hs rfl))
  obtain ⟨a, xs, ex, hq, q⟩ := q1
  subst ex
  cases r1 with
  | cons r rr =>
    cases rr
    cases r
    obtain ⟨its, rv, ⟨ot, hot, hct, nt, hdt⟩, hz⟩ := I1.tuple hq
    refine ENT.call_tuple ⟨ot, hot, hct, nt, hdt⟩ fun h' he hit hk => wpAny_pyIter_enum he ?_
    have I2 : Inv X pins σ H1 { s1 with heap := h' } := I1.kept (t' := s1.toks) hk
    refine ⟨s1.heap.objs.size + 1, [s1.heap.objs.size + 1, s1.heap.objs.size], _, _, H1, rfl, I2, turn_enumT a (s1.heap.objs.size + 1) s1.heap.objs.size, ⟨⟨.none, he⟩, hit, Nat.succ_ne_self _⟩, fun b hb => ?_, q⟩
    have e' : b = s1.heap.objs.size + 1 ∨ b = s1.heap.objs.size := by simpa using hb
    have hle : s1.heap.objs.size ≤ b := by
      rcases e' with z | z
      · rw [z]; exact Nat.le_add_right _ _
      · rw [z]; exact Nat.le_refl _
    exact I1.fpOk hle (I1.hok.fresh hle)
end L2
set_option linter.all false
set_option maxRecDepth 100000
set_option maxHeartbeats 2000000
namespace FL
open PySem PySem.Spec PyProof.Rows L2 GxR GA
/-- the items with their numbers -/
def numb (k : Nat) : List T → List T
  | [] => []
  | t :: ts => .tup [.int (k : Int), t] :: numb (k + 1) ts
theorem numb_len : ∀ (ts : List T) (k : Nat), (numb k ts).length = ts.length
  | [], _ => rfl
  | t :: ts, k => by
    show (numb (k + 1) ts).length + 1 = ts.length + 1
    rw [numb_len ts]
theorem numb_get : ∀ (ts : List T) (k i : Nat) (u : T), (numb k ts)[i]? = some u → ∃ t, ts[i]? = some t ∧ u = .tup [.int ((k + i : Nat) : Int), t]
  | [], _, i, _, h => by simp [numb] at h
  | t :: ts, k, 0, u, h => by
    simp [numb] at h
    exact ⟨t, rfl, h.symm⟩
  | t :: ts, k, i + 1, u, h => by
    have h : (numb (k + 1) ts)[i]? = some u := by simpa [numb] using h
    obtain ⟨t', a, b⟩ := numb_get ts (k + 1) i u h
    exact ⟨t', by simpa using a, by rw [b]; congr 3; omega⟩
def iEnumF (f : EF) : AF := fun env dr => match f env dr with
  | some (.tup ts, dr1) => some (numb 0 ts, dr1)
  | some (.lst ts, dr1) => some (numb 0 ts, dr1)
  | some (.fls ts, dr1) => some (numb 0 ts, dr1)
  | _ => none
section
variable {p : Pm} {X : Cx} (hK : p.K = X.K) {e : Expr} {f : EF}
theorem it_enumT {c : Addr} {ts : List T} {vs : List V} {H : Hp} (hf : SqT p.K H c vs) (r : Reps p H ts vs) : ItOk p (ItEt p.K c) (numb 0 ts) H := by
  intro ex hex H2 e i
  have s2 := e.sqT hf
  have r2 := (r.more hex).ext e.w
  refine ⟨fun t ht => ?_, fun hi => ⟨vs, s2, by rw [r.length, ← numb_len ts 0]; omega⟩⟩
  obtain ⟨t0, h0, rfl⟩ := numb_get ts 0 i t ht
  obtain ⟨v, h1, h2⟩ := r2.get h0
  exact ⟨⟨vs, v, s2, h1⟩, fun x H' ⟨q, y, ex', hq, hH, h3⟩ => by
    subst ex'
    subst hH
    have := h3 vs s2
    rw [h1] at this
    cases this
    have sm := same_new hq (HO.tup [.int (i : Nat), v])
    exact ⟨sm, q, _, rfl, .inl (.inl upd_same), _, _, rfl, by rw [Nat.zero_add]; rfl, _, _, rfl, h2.ext (.same sm), rfl⟩⟩
theorem it_enumL {c : Addr} {ts : List T} {vs : List V} {H : Hp} (hf : SqF p H c vs) (r : Reps p H ts vs) : ItOk p (Ite p.K c) (numb 0 ts) H := by
  intro ex hex H2 e i
  have s2 := (e.sqF hf).sq
  have r2 := (r.more hex).ext e.w
  refine ⟨fun t ht => ?_, fun hi => ⟨vs, s2, by rw [r.length, ← numb_len ts 0]; omega⟩⟩
  obtain ⟨t0, h0, rfl⟩ := numb_get ts 0 i t ht
  obtain ⟨v, h1, h2⟩ := r2.get h0
  exact ⟨⟨vs, v, s2, h1⟩, fun x H' ⟨q, y, ex', hq, hH, h3⟩ => by
    subst ex'
    subst hH
    have := h3 vs s2
    rw [h1] at this
    cases this
    have sm := same_new hq (HO.tup [.int (i : Nat), v])
    exact ⟨sm, q, _, rfl, .inl (.inl upd_same), _, _, rfl, by rw [Nat.zero_add]; rfl, _, _, rfl, h2.ext (.same sm), rfl⟩⟩
include hK in
theorem si_enum {elts : List Expr} {kk : Nat} {tpos pp pos : Pos} (hm : X.mg "enumerate" = none) (ha : SE p X e f) (hg : Gl X "enumerate" := by rfl) (hs : starEach [e] X.env = [(false, eval e X.env)] := by rfl) : SI p X (.Tuple elts kk tpos) (.Call (.Name "enumerate" pp) [e] [] pos) (iEnumF f) := ⟨fun pins s σ H R I ⟨env, dr, ts, dr', hR, hO, hf, q⟩ => by
  unfold iEnumF at hf
  split at hf
  · rename_i us dr1 h1
    cases hf
    refine (pi_enumT hg hm (pa_cons ha pa_nil hs) hs).run pins s σ H R I ⟨env, dr, _, _, hR, hO, h1, fun v H1 e1 r1 o1 => ?_⟩
    obtain ⟨c, vs, rfl, hh, s1⟩ := r1
    exact ⟨c, vs, rfl, hK ▸ hh, hK ▸ q _ H1 e1 o1 (it_enumT hh s1)⟩
  · rename_i us dr1 h1
    cases hf
    refine (pi_enum hg hm (pa_cons ha pa_nil hs) hs).run pins s σ H R I ⟨env, dr, _, _, hR, hO, h1, fun v H1 e1 r1 o1 => ?_⟩
    obtain ⟨c, vs, rfl, hh, n1, s1⟩ := r1
    exact ⟨c, vs, rfl, .inl (.inl hh), hK ▸ q _ H1 e1 o1 (it_enumL (.inl ⟨.inl hh, n1⟩) s1)⟩
  · rename_i us dr1 h1
    cases hf
    refine (pi_enum hg hm (pa_cons ha pa_nil hs) hs).run pins s σ H R I ⟨env, dr, _, _, hR, hO, h1, fun v H1 e1 r1 o1 => ?_⟩
    obtain ⟨c, vs, rfl, hh, s1⟩ := r1
    exact ⟨c, vs, rfl, hK ▸ hh.sq, hK ▸ q _ H1 e1 o1 (it_enumL hh s1)⟩
  · cases hf⟩
end
end FL
set_option linter.all false
set_option maxRecDepth 100000
set_option maxHeartbeats 2000000
namespace FL
open PySem PySem.Spec PyProof.Rows L2 GxR GA
section
variable {p : Pm} {X : Cx} {a b : Expr} {f g : EF}
theorem rng_reps {H : Hp} (lo : Int) : ∀ l : List Nat, Reps p H (l.map fun i : Nat => T.int (lo + (i : Int))) (l.map fun i : Nat => V.int (lo + (i : Int)))
  | [] => rfl
  | i :: l => ⟨_, _, rfl, rfl, rng_reps lo l⟩
theorem rgV_reps {H : Hp} (lo hi : Int) : Reps p H (rngL lo (hi - lo).toNat) (rgV lo hi) := rng_reps lo _
def smallR (i j : Int) : Prop := -100000 ≤ i ∧ i ≤ 100000 ∧ -100000 ≤ j ∧ j ≤ 100000
instance (i j : Int) : Decidable (smallR i j) := inferInstanceAs (Decidable (_ ∧ _))
theorem small_rg {i j : Int} (h : smallR i j) : RgOk i j := by
  obtain ⟨h1, h2, h3, h4⟩ := h
  exact ⟨by omega, by omega, by omega, by omega, by omega⟩
/-- list(range(e)), tuple(range(e)) -/
def eRg1 (mk : List T → T) (f : EF) : EF := fun env dr => match f env dr with
  | some (.int j, dr1) => if smallR 0 j then some (mk (rngL 0 j.toNat), dr1) else none
  | _ => none
/-- list(range(e, g)), tuple(range(e, g)) -/
def eRg2 (mk : List T → T) (f g : EF) : EF := fun env dr => match f env dr with
  | some (.int i, dr1) => (match g env dr1 with
    | some (.int j, dr2) => if smallR i j then some (mk (rngL i (j - i).toNat), dr2) else none
    | _ => none)
  | _ => none
theorem rg1_in {mk : List T → T} : ∀ σ H Q, tE p (eRg1 mk f) σ H Q → tRg1 (tE p f) σ H fun i j H1 => RgOk i j ∧ ∃ dr, Ok p H1 dr ∧ ∀ v H', Ext p H1 H' → Rep p H' (mk (rngL i (j - i).toNat)) v → Ok p H' dr → Q v H' := fun σ H Q ⟨env, dr, t, dr', hR, hO, hf, q⟩ => by
  unfold eRg1 at hf
  split at hf
  · rename_i j dr1 h1
    split at hf
    · rename_i hs
      cases hf
      refine ⟨env, dr, _, _, hR, hO, h1, fun v H1 e1 r1 o1 => ⟨j, r1, small_rg hs, _, o1, fun v H' e' r' o' => q v H' (e1.trans e') ?_ o'⟩⟩
      have e : (j - 0 : Int) = j := Int.sub_zero j
      rw [e] at r'
      exact r'
    · cases hf
  · cases hf
theorem rg2_in {mk : List T → T} : ∀ σ H Q, tE p (eRg2 mk f g) σ H Q → tRg2 (tE p f) (tE p g) σ H fun i j H1 => RgOk i j ∧ ∃ dr, Ok p H1 dr ∧ ∀ v H', Ext p H1 H' → Rep p H' (mk (rngL i (j - i).toNat)) v → Ok p H' dr → Q v H' := fun σ H Q ⟨env, dr, t, dr', hR, hO, hf, q⟩ => by
  unfold eRg2 at hf
  split at hf
  · rename_i i dr1 h1
    split at hf
    · rename_i j dr2 h2
      split at hf
      · rename_i hs
        cases hf
        exact ⟨env, dr, _, _, hR, hO, h1, fun v H1 e1 r1 o1 => ⟨env, dr1, _, _, hR.ext e1, o1, h2, fun u H2 e2 r2 o2 => ⟨i, j, r1, r2, small_rg hs, _, o2, fun v H' e' r' o' => q v H' ((e1.trans e2).trans e') r' o'⟩⟩⟩
      · cases hf
    · cases hf
  · cases hf
theorem prg_imp {e : Expr} {t t' : L2.St → Hp → (Int → Int → Hp → Prop) → Prop} (h : PRg X e t) (i : ∀ σ H Q, t' σ H Q → t σ H Q) : PRg X e t' := fun pins s σ H Q I q => h pins s σ H Q I (i σ H Q q)
theorem tRg1_mono {te : TE} (hm : ∀ σ H (Q Q' : VK), (∀ v H', Q v H' → Q' v H') → te σ H Q → te σ H Q') {σ : L2.St} {H : Hp} {Q Q' : Int → Int → Hp → Prop} (h : ∀ i j H1, Q i j H1 → Q' i j H1) (q : tRg1 te σ H Q) : tRg1 te σ H Q' := hm σ H _ _ (fun v H' ⟨n, e, z⟩ => ⟨n, e, h _ _ _ z⟩) q
theorem tE_mono : ∀ σ H (Q Q' : VK), (∀ v H', Q v H' → Q' v H') → tE p f σ H Q → tE p f σ H Q' := fun σ H Q Q' h ⟨env, dr, t, dr', hR, hO, hf, q⟩ => ⟨env, dr, t, dr', hR, hO, hf, fun v H' a b c => h v H' (q v H' a b c)⟩
section
variable {rp pp pos : Pos}
theorem se_lstRg1 (hc : X.calm = true) (hml : X.mg "list" = none) (hmr : X.mg "range" = none) (ha : SE p X a f) (hgl : Gl X "list" := by rfl) (hgr : Gl X "range" := by rfl) (na : starEach [a] X.env = (false, eval a X.env) :: starEach [] X.env := by rfl)
    (nr : starEach [.Call (.Name "range" rp) [a] [] pos] X.env = (false, eval (.Call (.Name "range" rp) [a] [] pos) X.env) :: starEach [] X.env := by rfl) {pos2 : Pos} :
    SE p X (.Call (.Name "list" pp) [.Call (.Name "range" rp) [a] [] pos] [] pos2) (eRg1 .lst f) := pe_imp (pe_listRg hc hgl hml (prg_1 hgr hmr ha na) nr) fun σ H Q h =>
  tRg1_mono tE_mono (fun i j H1 ⟨ok, dr, o, q⟩ => ⟨ok, fun c hcn => q _ _ (.same (same_new hcn _)) (rep_lst (rgV_reps i j) hcn (o.new c hcn)) (o.same (same_new hcn _))⟩) (rg1_in σ H Q h)
theorem se_tupRg1 (hc : X.calm = true) (hml : X.mg "tuple" = none) (hmr : X.mg "range" = none) (ha : SE p X a f) (hgl : Gl X "tuple" := by rfl) (hgr : Gl X "range" := by rfl) (na : starEach [a] X.env = (false, eval a X.env) :: starEach [] X.env := by rfl)
    (nr : starEach [.Call (.Name "range" rp) [a] [] pos] X.env = (false, eval (.Call (.Name "range" rp) [a] [] pos) X.env) :: starEach [] X.env := by rfl) {pos2 : Pos} :
    SE p X (.Call (.Name "tuple" pp) [.Call (.Name "range" rp) [a] [] pos] [] pos2) (eRg1 .tup f) := pe_imp (pe_tupRg hc hgl hml (prg_1 hgr hmr ha na) nr) fun σ H Q h =>
  tRg1_mono tE_mono (fun i j H1 ⟨ok, dr, o, q⟩ => ⟨ok, fun c hcn => q _ _ (.same (same_new hcn _)) (rep_tup (rgV_reps i j) hcn) (o.same (same_new hcn _))⟩) (rg1_in σ H Q h)
end
end
end FL
set_option linter.all false
set_option maxRecDepth 100000
set_option maxHeartbeats 2000000
namespace FL
open PySem PySem.Spec PyProof.Rows L2 GxR GA
/-- a module's name of a tuple that is written out -/
structure CTup (K : PySem.W.Frag) (mg : Str → Option Value) (x : Str) (ts : List T) : Prop where
  ex : ∃ (a : Addr) (vs : List V) (o : Obj) (its : Array Value) (n : Nat), mg x = some (.ref a) ∧ K.lookup a = some o ∧ o.cls = .type "tuple" ∧ o.data = .seq its n ∧ its.size ≤ sizeLine ∧ Vals vs its.toList ∧ ∀ (p : Pm) (H : Hp), Reps p H ts vs
theorem se_ctup {p : Pm} {X : Cx} {x : Str} {ts : List T} {pos : Pos} (hK : p.K = X.K) (h : CTup X.K X.mg x ts) (hg : Gl X x := by rfl) (hd : (x == ("__debug__" : Str)) = false := by decide) : SE p X (.Name x pos) (eC (.tup ts)) := by
  obtain ⟨a, vs, o, its, n, h1, h2, h3, h4, h5, h6, h7⟩ := h.ex
  exact se_c (pe_glob (v := V.ref a) hg h1 rfl hd) fun H => ⟨a, vs, rfl, .inr ⟨o, its, n, hK ▸ h2, h3, h4, h5, h6⟩, h7 p H⟩
/-- e[i:j] -/
def eSlBo (f g h : EF) : EF := fun env dr => match f env dr with
  | none => none
  | some (x, dr1) => match g env dr1 with
    | some (.int i, dr2) => (match h env dr2 with
      | some (.int j, dr3) => (match slT x (some i) (some j) with
        | none => none
        | some t => some (t, dr3))
      | _ => none)
    | _ => none
section
variable {p : Pm} {X : Cx} (hK : p.K = X.K)
include hK in
theorem se_slbo {a b c : Expr} {pos p2 : Pos} {f g h : EF} (ha : SE p X a f) (hb : SE p X b g) (hc : SE p X c h) : SE p X (.Subscript a (.Slice (some b) (some c) none p2) pos) (eSlBo f g h) := pe_imp (pe_slice (sl_f hK) ha (po_some hb) (po_some hc)) fun σ H Q ⟨env, dr, t, dr', hR, hO, hf, q⟩ => by
  unfold eSlBo at hf
  cases h1 : f env dr with
  | none => rw [h1] at hf; cases hf
  | some z =>
    obtain ⟨x, dr1⟩ := z
    rw [h1] at hf
    dsimp only at hf
    split at hf
    · rename_i i dr2 h2
      split at hf
      · rename_i j dr3 h3
        cases h4 : slT x (some i) (some j) with
        | none => rw [h4] at hf; cases hf
        | some t' =>
          rw [h4] at hf
          cases hf
          exact ⟨env, dr, x, dr1, hR, hO, h1, fun v H1 e1 r1 o1 => ⟨env, dr1, _, _, hR.ext e1, o1, h2, fun w H2 e2 r2 o2 => ⟨i, r2, env, dr2, _, _, (hR.ext e1).ext e2, o2, h3, fun u H3 e3 r3 o3 => ⟨j, r3, x, _, (r1.ext e2).ext e3, o3.new, h4, fun y H4 s4 r4 => q y H4 (((e1.trans e2).trans e3).trans (.same s4)) r4 (o3.same s4)⟩⟩⟩⟩
      · cases hf
    · cases hf
end
end FL
set_option linter.all false
set_option maxRecDepth 100000
set_option maxHeartbeats 2000000
namespace FL
open PySem PySem.Spec PyProof.Rows L2 GxR GA
/-- a module's name of a dict that is written out: what stands under some texts, and which texts are no keys -/
structure CDct (K : PySem.W.Frag) (w : World) (mg : Str → Option Value) (x : Str) (tbl : List (List Nat × Option T)) : Prop where
  ex : ∃ (a : Addr) (es : Array DictEntry) (n : Nat), mg x = some (.ref a) ∧ K.lookup a = some ⟨.type "dict", none, .dict es n, #[]⟩ ∧ PySem.W.KeysLit w.params es.toList ∧ (a == sysModules) = false ∧
    ∀ (cs : List Nat) (o : Option T), tbl.lookup cs = some o → match o with
      | some t => ∃ (v : V) (u : Value), PySem.W.nsIn K a (strOf cs) = some (some u) ∧ RelV v u ∧ ∀ (p : Pm) (H : Hp), Rep p H t v
      | none => PySem.W.nsIn K a (strOf cs) = some none
def rInKd (K : PySem.W.Frag) (w : World) : R2 := fun x y H Q => ∃ (a : Addr) (z : Str) (es : Array DictEntry) (n : Nat) (r : Option Value), x = .str z ∧ y = .ref a ∧ K.lookup a = some ⟨.type "dict", none, .dict es n, #[]⟩ ∧ PySem.W.KeysLit w.params es.toList ∧ (a == sysModules) = false ∧ PySem.W.nsIn K a z = some r ∧ Q (.bl r.isSome) H
section
variable {p : Pm} {X : Cx} {e : Expr} {f : EF} {x : Str} {tbl : List (List Nat × Option T)} {np pos : Pos}
theorem op_inKd : OpR X (compareOp .In) (rInKd X.K X.w) := by
  intro pins s σ H x y v u Q I rx ry ⟨a, z, es, n, r, ex, ey, hl, hk, low, hm, q⟩
  subst ex
  subst ey
  obtain rfl : u = Value.ref a := ry
  obtain ⟨t, rfl⟩ := (show ∃ t, v = Value.str z t from rx)
  have hm' := PySem.W.mapOf_K (prog := X.prog) (w := X.w) I.kIn hl hk
  refine wpAny_in_of (strKind_is X.prog X.w z t) low hm' ⟨.bl r.isSome, H, I.tok _, ?_, q⟩
  rw [PySem.W.find_K hl hm]
  rfl
/-- e in NAME -/
def eInK (tbl : List (List Nat × Option T)) (f : EF) : EF := fun env dr => match f env dr with
  | some (.str cs, dr1) => (match tbl.lookup cs with
    | some o => some (.bl o.isSome, dr1)
    | none => none)
  | _ => none
theorem str_is {s : Str} {cs : List Nat} (h : s.cps.toList = cs) : s = strOf cs := str_ext (by rw [h]; simp [strOf])
theorem inK_in {a : Addr} {es : Array DictEntry} {n : Nat} {K : PySem.W.Frag} {w : World} (h2 : K.lookup a = some ⟨.type "dict", none, .dict es n, #[]⟩) (h3 : PySem.W.KeysLit w.params es.toList) (h4 : (a == sysModules) = false)
    (h5 : ∀ (cs : List Nat) (o : Option T), tbl.lookup cs = some o → match o with
      | some t => ∃ (v : V) (u : Value), PySem.W.nsIn K a (strOf cs) = some (some u) ∧ RelV v u ∧ ∀ (p : Pm) (H : Hp), Rep p H t v
      | none => PySem.W.nsIn K a (strOf cs) = some none) : ∀ σ H Q, tE p (eInK tbl f) σ H Q → tOp (rInKd K w) (tE p f) (tC (.ref a)) σ H Q := fun σ H Q ⟨env, dr, t, dr', hR, hO, hf, q⟩ => by
  unfold eInK at hf
  split at hf
  · rename_i cs dr1 h1
    cases hl : tbl.lookup cs with
    | none => rw [hl] at hf; cases hf
    | some o =>
      rw [hl] at hf
      cases hf
      refine ⟨env, dr, _, _, hR, hO, h1, fun v H1 e1 r1 o1 => ?_⟩
      obtain ⟨z, rfl, ez⟩ := r1
      have hz := str_is ez
      have hh := h5 cs o hl
      cases o with
      | some t => obtain ⟨v, u, k1, k2, k3⟩ := hh; exact ⟨a, z, es, n, some u, rfl, rfl, h2, h3, h4, by rw [hz]; exact k1, q _ H1 e1 rfl o1⟩
      | none => exact ⟨a, z, es, n, none, rfl, rfl, h2, h3, h4, by rw [hz]; exact hh, q _ H1 e1 rfl o1⟩
  · cases hf
theorem se_inK (h : CDct X.K X.w X.mg x tbl) (ha : SE p X e f) (hg : Gl X x := by rfl) (hd : (x == ("__debug__" : Str)) = false := by decide) (hm : behindInMarks .In (.Name x np) = false := by first | exact nomark _ | rfl) : SE p X (.Compare e [.In] [.Name x np] pos) (eInK tbl f) := by
  obtain ⟨a, es, n, h1, h2, h3, h4, h5⟩ := h.ex
  exact pe_imp (pe_cmpR op_inKd ha (pe_glob (v := V.ref a) hg h1 rfl hd) hm) (inK_in h2 h3 h4 h5)
theorem sb_inK (h : CDct X.K X.w X.mg x tbl) (ha : SE p X e f) (hg : Gl X x := by rfl) (hd : (x == ("__debug__" : Str)) = false := by decide) (hm : behindInMarks .In (.Name x np) = false := by first | exact nomark _ | rfl) : SB p X (.Compare e [.In] [.Name x np] pos) (tB (eInK tbl f)) := by
  obtain ⟨a, es, n, h1, h2, h3, h4, h5⟩ := h.ex
  exact pt_imp (pt_cmpR op_inKd ha (pe_glob (v := V.ref a) hg h1 rfl hd) hm) fun σ H Q ⟨env, dr, t, dr', hR, hO, hf, q⟩ => inK_in h2 h3 h4 h5 σ H _ ⟨env, dr, .bl t, dr', hR, hO, tB_in hf, fun v H' e r o => ⟨t, r, q H' e o⟩⟩
/-- NAME[e] -/
def eIxK (tbl : List (List Nat × Option T)) (f : EF) : EF := fun env dr => match f env dr with
  | some (.str cs, dr1) => (match tbl.lookup cs with
    | some (some t) => some (t, dr1)
    | _ => none)
  | _ => none
theorem se_ixK (h : CDct X.K X.w X.mg x tbl) (ha : SE p X e f) (hg : Gl X x := by rfl) (hd : (x == ("__debug__" : Str)) = false := by decide) (hs : PlainIx e := by exact fun _ _ => rfl) : SE p X (.Subscript (.Name x np) e pos) (eIxK tbl f) := by
  obtain ⟨a, es, n, h1, h2, h3, h4, h5⟩ := h.ex
  refine pe_imp (pe_ix ix_kdict (pe_glob (v := V.ref a) hg h1 rfl hd) ha hs) fun σ H Q ⟨env, dr, t, dr', hR, hO, hf, q⟩ => ?_
  unfold eIxK at hf
  split at hf
  · rename_i cs dr1 e1
    split at hf
    · rename_i t' hl
      cases hf
      refine ⟨env, dr, _, _, hR, hO, e1, fun v H1 e1 r1 o1 => ?_⟩
      obtain ⟨z, rfl, ez⟩ := r1
      obtain ⟨v, u, k1, k2, k3⟩ := h5 cs _ hl
      exact ⟨a, z, v, rfl, rfl, ⟨es, n, u, h2, h3, by rw [str_is ez]; exact k1, k2⟩, q v H1 e1 (k3 p H1) o1⟩
    · cases hf
  · cases hf
end
end FL
set_option linter.all false
set_option maxRecDepth 100000
set_option maxHeartbeats 2000000
namespace FL
open PySem PySem.Spec PyProof.Rows L2 GxR GA
theorem call_list_strL {X : Cx} (hc : X.calm = true) : CallR X (.type "list") (fun xs H Q => ∃ z : Str, xs = [V.str z] ∧ z.length ≤ lim ∧ ∀ l, H l = none → Q (.ref l) (upd H l (.lst (z.cps.toList.map fun c => V.str ⟨#[c]⟩)))) := by
  intro pins s σ H xs us Q I r h
  obtain ⟨z, rfl, hz, q⟩ := h
  obtain ⟨u, rfl, t, rfl⟩ := vals1 r
  have hz' : z.cps.size ≤ sizeLine := by
    have : z.length = z.cps.size := rfl
    rw [sizeLine_eq]
    have : lim = 1000000 := rfl
    omega
  refine call_list_str (I.ok.hd hc) z t (fun h' tk acc' c' kp e hacc => ?_) hz'
  refine ⟨.ref s.heap.objs.size, _, I.laid kp (Nat.le_refl _) (show ObjOk X.prog X.w _ h' _ (.lst (z.cps.toList.map fun c => V.str ⟨#[c]⟩)) from ⟨?_, acc'.toList, c', ?_, e⟩), rfl, q _ (I.hok.fresh (Nat.le_refl _))⟩
  · rw [List.length_map, Array.length_toList]; exact hz'
  · refine vals_of_at (by rw [List.length_map, Array.length_toList, Array.length_toList, hacc.1]) fun j x w h1 h2 => ?_
    obtain ⟨c, y, hcx, hi⟩ := hacc.2 j w (by rw [← Array.getElem?_toList]; exact h2)
    rw [List.getElem?_map, Array.getElem?_toList, hcx] at h1
    cases h1
    exact ⟨y, hi⟩
def listS : List T → Option T
  | [.str cs] => if cs.length ≤ lim then some (.lst (cs.map fun c => .str [c])) else none
  | _ => none
section
variable {p : Pm} {X : Cx} (hK : p.K = X.K)
theorem signs_reps {H : Hp} : ∀ cs : List Nat, Reps p H (cs.map fun c => T.str [c]) (cs.map fun c => V.str ⟨#[c]⟩)
  | [] => rfl
  | c :: cs => ⟨_, _, rfl, ⟨_, rfl, rfl⟩, signs_reps cs⟩
theorem ca_listS (hc : X.calm = true) : CaT p X (.type "list") listS := cr_imp (call_list_strL hc) fun xs H Q ⟨ts, t, r, nd, hf, q⟩ => by
  unfold listS at hf
  split at hf
  · rename_i cs
    obtain ⟨v, rfl, r1⟩ := rep1 (ts := []) r
    split at hf
    · rename_i hz
      cases hf
      obtain ⟨z, rfl, ez⟩ := r1
      refine ⟨z, rfl, by rw [str_len, ez]; exact hz, fun b hb => q _ _ (same_new hb _) (rep_lst ?_ hb (nd b hb))⟩
      rw [ez]
      exact signs_reps cs
    · cases hf
  · cases hf
/-- list(x) of a list, a tuple, a text -/
def listG (ts : List T) : Option T := match listF ts with
  | some t => some t
  | none => listS ts
include hK in
theorem ca_listG (hc : X.calm = true) : CaT p X (.type "list") listG := CaT.or (ca_list hK) (ca_listS hc)
end
end FL
set_option linter.all false
set_option maxRecDepth 100000
set_option maxHeartbeats 4000000
/-! a tuple * 1: the same tuple -/
namespace L2
open PySem PySem.Spec PyProof.Rows
theorem tuple_mul1 (l : Addr) (items : Array Value) (n : Nat) (dd : Option Addr) (sl : Array (Option Value)) (u : Tok) :
    Meets (Builtin.«tuple.__mul__» ⟨[.ref l, .int 1 u], []⟩) (fun _ R s => s.heap.get? l = some { cls := .type "tuple", dict := dd, data := .seq items n, slots := sl } ∧
      R (.ok (.ret (Value.ref l))) s) :=
  .of_wp fun prog w A R s h => by
    obtain ⟨hp, g, d, tk, os⟩ := s
    obtain ⟨hl, h⟩ := h
    have f1 := AutoSeq1.idx_int
    have c0 : (decide ((1 : Int) < -(2 ^ 63)) || decide ((1 : Int) ≥ 2 ^ 63)) = false := by decide
    have c1 : (items.isEmpty || (1 : Int) == 1) = true := by simp
    wp_walk using wpAny_loadPart' hl
    repeat (first
      | (refine wpAny_ite_false (decide_eq_false (by rw [c0]; exact Bool.false_ne_true)) ?_; wp_walk using wpAny_loadPart' hl)
      | (refine wpAny_ite_true (decide_eq_true (by rw [c1])) ?_; wp_walk using wpAny_loadPart' hl))
    exact ⟨_, rfl, h⟩
def rRepT1 (K : PySem.W.Frag) : R2 := fun x y H Q => ∃ l xs, x = .ref l ∧ y = .int 1 ∧ SqT K H l xs ∧ Q (.ref l) H
theorem op_repT1 {X : Cx} : OpR X (binaryOp .Mult) (rRepT1 X.K) := by
  intro pins s σ H x y v u Q I rx ry h
  obtain ⟨l, xs, rfl, rfl, hT, q⟩ := h
  cases rx
  obtain ⟨t, rfl⟩ := ry
  obtain ⟨its, r, ⟨⟨cls, dd, data, sl⟩, ho, hc, n, hd⟩, hs⟩ := I.tuple hT
  simp only at hc hd
  subst hc hd
  refine wpAny_binaryOp_repeat_ref (T := "tuple") (U := "int") (by decide) ⟨_, ho, rfl⟩ (fun s' => typeIs_int s' 1 t) noFill_tuple_mul F.fills_int_mul F.slot_int_rmul repeat_tuple F.slot_int_index.lookup
    (call_meets F.slot_int_rmul (typeIs_int s 1 t) F.entry_int_rmul (F.args_int_rmul_2 _ _) (int_rmul_tuple 1 t l its.toArray n dd sl)
      ⟨ho, rfl, ⟨_, ho, rfl⟩, call_meets F.slot_tuple_mul ⟨_, ho, rfl⟩ F.entry_tuple_mul (F.args_tuple_mul_2 _ _) (tuple_mul1 l its.toArray n dd sl t) ⟨ho, ?_⟩⟩)
  exact ⟨.ref l, H, I, rfl, q⟩
end L2
namespace FL
open PySem PySem.Spec PyProof.Rows L2 GxR GA
section
variable {p : Pm} {X : Cx} (hK : p.K = X.K)
def mulU1 : T → T → Option T
  | .tup x, .int k => if k = 1 then some (.tup x) else none
  | _, _ => none
include hK in
theorem ot_mulU1 : OpT p X (binaryOp .Mult) mulU1 := opr_imp op_repT1 fun x y H Q ⟨a, b, t, r1, r2, nd, hf, q⟩ => by
  cases a <;> cases b <;> try (cases hf; done)
  rename_i ts k
  unfold mulU1 at hf
  dsimp only at hf
  split at hf
  · rename_i hz
    cases hf
    subst hz
    obtain ⟨a1, v1, rfl, h1, s1⟩ := id r1
    exact ⟨a1, v1, rfl, r2, hK ▸ h1, q _ H (Same.refl H) r1⟩
  · cases hf
def mulT1 (x y : T) : Option T := match mulT x y with
  | some t => some t
  | none => mulU1 x y
include hK in
theorem ot_mul1 : OpT p X (binaryOp .Mult) mulT1 := OpT.or (ot_mul hK) (ot_mulU1 hK)
end
end FL
set_option linter.all false
set_option maxRecDepth 100000
set_option maxHeartbeats 2000000
/-! Iteration while an exception is handled: a tuple, a text, a range; for over them. -/
namespace HX
open PySem PySem.Spec PyProof.Rows L2 HotX L2H
open Builtin

section
variable {prog : Program} {w : World} {A : Around} {E : Value → Shared → Prop} {s : Shared}
theorem hot_upd {x1 it : Addr} {o : Obj} {vs : Array Value} {f : Obj → Obj} (hot : HotAt A x1 s.heap) (ho : s.heap.get? it = some o) (hd : o.data = .fields vs) (hz : vs.size ≤ 2) : HotAt A x1 (s.heap.update it f) := by
  obtain ⟨hh, o1, vs1, h1, d1, c1⟩ := hot
  refine ⟨hh, o1, vs1, ?_, d1, c1⟩
  have ne : it ≠ x1 := fun z => by
    rw [← z, ho] at h1
    cases h1
    rw [hd] at d1
    cases d1
    rw [Array.getElem?_eq_none hz] at c1
    cases c1
  rw [Heap.get?_update_other _ _ ne]
  exact h1
theorem next_tuple_end_hot {it t x1 : Addr} {i : Nat} {items : Array Value} {Q : Option Value → Shared → Prop} (hot : HotAt A x1 s.heap)
    (hit : s.heap.IsTupleIter it t i) (ht : s.heap.IsTuple t items) (hx : items[i]? = none)
    (hQ : ∀ h', Heap.ExtBut it s.heap h' → Q none { s with heap := h' }) : wpAny (model prog w) A (pyNext (.ref it)) Q E s := by
  obtain ⟨o, ho, hc, hd⟩ := id hit
  obtain ⟨ol, hol, _, nl, hdl⟩ := ht
  unfold pyNext
  refine wpAny_bind (wpAny_attempt (wpAny_callSpecial?_slot (name := Str.ofString "__next__") hit.typeIs F.slot_tuple_iterator_next
    (wpAny_call_entry F.slot_tuple_iterator_next hit.typeIs F.entry_tuple_iterator_next ?_ (F.args_tuple_iterator_next_1 _))))
  show wpAny _ _ (field (.ref it) 0 >>= _) _ _ s
  refine wpAny_bind (wpAny_field ho hd (x := .ref t) rfl ?_)
  show wpAny _ _ (if (Value.ref t == Value.none) = true then _ else _) _ _ s
  rw [if_neg (show ¬ ((Value.ref t == Value.none) = true) from Bool.false_ne_true)]
  show wpAny _ _ (field (.ref it) 1 >>= _) _ _ s
  refine wpAny_bind (wpAny_field ho hd (x := .int i 0) rfl ?_)
  show wpAny _ _ (seqItems? (.ref t) >>= _) _ _ s
  refine wpAny_bind (wpAny_seqItems hol hdl ?_)
  simp only [Int.toNat_natCast, hx]
  refine wpAny_bind (wpAny_rule (wpAny_bind (wpAny_setField ho hd (by simp) ?_)))
  show wpAny _ _ (newExc (.type "StopIteration") [] >>= _) _ _ _
  refine wpAny_bind ?_
  simp only [newExc, newTuple]
  refine wpAny_bind (wpAny_newObj_type ?_ (by size_fits))
  refine wpAny_bind (m := firstArgMember _ _) (wpAny_of_eq (a := Value.none) (by first | rfl | (simp only [firstArgMember]; rfl)) ?_)
  refine wpAny_newObj_type ?_ (by size_fits)
  obtain ⟨hh, o1, vs1, h1, d1, c1⟩ := hot_upd (f := Obj.mapFields fun vs => vs.setIfInBounds 0 .none) hot ho hd (by simp)
  refine raiseNew_hot ⟨hh, o1, vs1, Heap.get?_push_of_some _ (Heap.get?_push_of_some _ h1), d1, c1⟩ (Nat.ne_of_lt (Heap.lt_size (Heap.get?_push_of_some _ h1))) (Heap.get?_push_size _ rfl) rfl (by first | (simp; done) | (simp; omega) | (simp only [Array.size_append]; simp; omega)) ?_
  refine wpAny_bind (wpAny_isInstance (T := "StopIteration") (b := true) ⟨_, Heap.get?_update_self _ (Heap.get?_push_size _ rfl) rfl, rfl⟩ isSubtype_stop ?_)
  refine wpAny_pure (hQ _ fun b o hb e => ?_)
  have e2 : (s.heap.update it (Obj.mapFields fun vs => vs.setIfInBounds 0 .none)).get? b = some o := (Heap.get?_update_other _ _ (Ne.symm hb)).trans e
  rw [Heap.get?_update_other _ _ (Nat.ne_of_gt (Heap.lt_size (Heap.get?_push_of_some _ e2)))]
  exact Heap.get?_push_of_some _ (Heap.get?_push_of_some _ e2)
theorem next_ascii_end_hot {it x1 : Addr} {x : Str} {t : Tok} {i : Nat} {Q : Option Value → Shared → Prop} (hot : HotAt A x1 s.heap)
    (hit : s.heap.IsStrIter it "str_ascii_iterator" x t i) (hx : x.cps[i]? = none)
    (hQ : ∀ h', Heap.ExtBut it s.heap h' → Q none { s with heap := h' }) : wpAny (model prog w) A (pyNext (.ref it)) Q E s := by
  obtain ⟨o, ho, hc, hd⟩ := id hit
  unfold pyNext
  refine wpAny_bind (wpAny_attempt (wpAny_callSpecial?_slot (name := Str.ofString "__next__") hit.typeIs F.slot_str_ascii_iterator_next
    (wpAny_call_entry F.slot_str_ascii_iterator_next hit.typeIs F.entry_str_ascii_iterator_next ?_ (F.args_str_ascii_iterator_next_1 _))))
  show wpAny _ _ (field (.ref it) 0 >>= _) _ _ s
  refine wpAny_bind (wpAny_field ho hd (x := .str x t) rfl ?_)
  show wpAny _ _ (field (.ref it) 1 >>= _) _ _ s
  refine wpAny_bind (wpAny_field ho hd (x := .int i 0) rfl ?_)
  simp only [Int.toNat_natCast, hx]
  refine wpAny_bind (wpAny_rule (wpAny_bind (wpAny_setField ho hd (by simp) (wpAny_bind (wpAny_letGo ?_)))))
  show wpAny _ _ (newExc (.type "StopIteration") [] >>= _) _ _ _
  refine wpAny_bind ?_
  simp only [newExc, newTuple]
  refine wpAny_bind (wpAny_newObj_type ?_ (by size_fits))
  refine wpAny_bind (m := firstArgMember _ _) (wpAny_of_eq (a := Value.none) (by first | rfl | (simp only [firstArgMember]; rfl)) ?_)
  refine wpAny_newObj_type ?_ (by size_fits)
  obtain ⟨hh, o1, vs1, h1, d1, c1⟩ := hot_upd (f := Obj.mapFields fun vs => vs.setIfInBounds 0 .none) hot ho hd (by simp)
  refine raiseNew_hot ⟨hh, o1, vs1, Heap.get?_push_of_some _ (Heap.get?_push_of_some _ h1), d1, c1⟩ (Nat.ne_of_lt (Heap.lt_size (Heap.get?_push_of_some _ h1))) (Heap.get?_push_size _ rfl) rfl (by first | (simp; done) | (simp; omega) | (simp only [Array.size_append]; simp; omega)) ?_
  refine wpAny_bind (wpAny_isInstance (T := "StopIteration") (b := true) ⟨_, Heap.get?_update_self _ (Heap.get?_push_size _ rfl) rfl, rfl⟩ isSubtype_stop ?_)
  refine wpAny_pure (hQ _ fun b o hb e => ?_)
  have e2 : (s.heap.update it (Obj.mapFields fun vs => vs.setIfInBounds 0 .none)).get? b = some o := (Heap.get?_update_other _ _ (Ne.symm hb)).trans e
  rw [Heap.get?_update_other _ _ (Nat.ne_of_gt (Heap.lt_size (Heap.get?_push_of_some _ e2)))]
  exact Heap.get?_push_of_some _ (Heap.get?_push_of_some _ e2)
theorem next_wide_end_hot {it x1 : Addr} {x : Str} {t : Tok} {i : Nat} {Q : Option Value → Shared → Prop} (hot : HotAt A x1 s.heap)
    (hit : s.heap.IsStrIter it "str_iterator" x t i) (hx : x.cps[i]? = none)
    (hQ : ∀ h', Heap.ExtBut it s.heap h' → Q none { s with heap := h' }) : wpAny (model prog w) A (pyNext (.ref it)) Q E s := by
  obtain ⟨o, ho, hc, hd⟩ := id hit
  unfold pyNext
  refine wpAny_bind (wpAny_attempt (wpAny_callSpecial?_slot (name := Str.ofString "__next__") hit.typeIs F.slot_str_iterator_next
    (wpAny_call_entry F.slot_str_iterator_next hit.typeIs F.entry_str_iterator_next ?_ (F.args_str_iterator_next_1 _))))
  show wpAny _ _ (field (.ref it) 0 >>= _) _ _ s
  refine wpAny_bind (wpAny_field ho hd (x := .str x t) rfl ?_)
  show wpAny _ _ (field (.ref it) 1 >>= _) _ _ s
  refine wpAny_bind (wpAny_field ho hd (x := .int i 0) rfl ?_)
  simp only [Int.toNat_natCast, hx]
  refine wpAny_bind (wpAny_rule (wpAny_bind (wpAny_setField ho hd (by simp) (wpAny_bind (wpAny_letGo ?_)))))
  show wpAny _ _ (newExc (.type "StopIteration") [] >>= _) _ _ _
  refine wpAny_bind ?_
  simp only [newExc, newTuple]
  refine wpAny_bind (wpAny_newObj_type ?_ (by size_fits))
  refine wpAny_bind (m := firstArgMember _ _) (wpAny_of_eq (a := Value.none) (by first | rfl | (simp only [firstArgMember]; rfl)) ?_)
  refine wpAny_newObj_type ?_ (by size_fits)
  obtain ⟨hh, o1, vs1, h1, d1, c1⟩ := hot_upd (f := Obj.mapFields fun vs => vs.setIfInBounds 0 .none) hot ho hd (by simp)
  refine raiseNew_hot ⟨hh, o1, vs1, Heap.get?_push_of_some _ (Heap.get?_push_of_some _ h1), d1, c1⟩ (Nat.ne_of_lt (Heap.lt_size (Heap.get?_push_of_some _ h1))) (Heap.get?_push_size _ rfl) rfl (by first | (simp; done) | (simp; omega) | (simp only [Array.size_append]; simp; omega)) ?_
  refine wpAny_bind (wpAny_isInstance (T := "StopIteration") (b := true) ⟨_, Heap.get?_update_self _ (Heap.get?_push_size _ rfl) rfl, rfl⟩ isSubtype_stop ?_)
  refine wpAny_pure (hQ _ fun b o hb e => ?_)
  have e2 : (s.heap.update it (Obj.mapFields fun vs => vs.setIfInBounds 0 .none)).get? b = some o := (Heap.get?_update_other _ _ (Ne.symm hb)).trans e
  rw [Heap.get?_update_other _ _ (Nat.ne_of_gt (Heap.lt_size (Heap.get?_push_of_some _ e2)))]
  exact Heap.get?_push_of_some _ (Heap.get?_push_of_some _ e2)
end

/-! ### turns -/
section
variable {P : Program} {w : World} {K : PySem.W.Frag} {tg : Expr}
theorem turn_tupleH (a it : Addr) : TurnH P w K tg (Itt K a) [it] it (fun i h => h.IsTupleIter it a i) where
  mem := by simp
  obj := fun i h st b hb => by
    have e : b = it := by simpa using hb
    subst e
    obtain ⟨o, e, c, d⟩ := st
    exact ⟨o, e, fun v z => by rw [d] at z; cases z⟩
  keep := fun i h h' st k => st.at fun o e => k it (by simp) o e
  item := by
    intro X hP hw hK hc i pins s σ H E I hf st hg
    subst hP hw hK
    obtain ⟨xs, x, hq, hx⟩ := hg
    obtain ⟨its, rv, p, hz⟩ := I.tuple hq
    obtain ⟨u, hu, ru⟩ := rv.get hx
    obtain ⟨f0, f1, f2, f3, f4, f5⟩ := hf it (by simp)
    refine wpAny_pyNext_tuple_item st (show s.heap.IsTuple a its.toArray from p) (x := u) (by simpa using hu) fun h' st' sb => ?_
    have I1 : Inv X pins σ H { s with heap := h' } := I.turned (t' := s.toks) (fun b o hb e => (sb.2 b hb).trans e) f0 f1 f3 f4 f5
    obtain ⟨o, e, c, d⟩ := id st'
    exact ⟨u, rfl, go_of (s := { s with heap := h' }) e c d (by decide) ⟨x, H, I1, ru, ⟨rfl, fun ys hy => by rw [I.tuple_inj hy hq]; exact hx⟩, st', fun b hb => (hf b hb).1⟩⟩
  done := by
    intro X hP hw hK hc i pins s σ H E I hf st hg
    subst hP hw hK
    obtain ⟨xs, hq, hx⟩ := hg
    obtain ⟨its, rv, p, hz⟩ := I.tuple hq
    obtain ⟨f0, f1, f2, f3, f4, f5⟩ := hf it (by simp)
    have hl := rv.length
    obtain ⟨x1, hot⟩ := hc.at I
    exact next_tuple_end_hot hot st (show s.heap.IsTuple a its.toArray from p) (by simp; omega) fun h' eb => ⟨rfl, I.turned (t' := s.toks) (fun b o hb e => eb b o hb e) f0 f1 f3 f4 f5⟩
  self := fun _ _ _ _ _ st h => wpAny_pyIter_tupleiter st h
theorem turn_strH (it : Addr) (x : Str) (t : Tok) (ty : String) (hty : ty = "str_ascii_iterator" ∨ ty = "str_iterator") :
    TurnH P w K tg (Its x) [it] it (fun i h => h.IsStrIter it ty x t i) where
  mem := by simp
  obj := fun i h st b hb => by
    have e : b = it := by simpa using hb
    subst e
    obtain ⟨o, e, c, d⟩ := st
    exact ⟨o, e, fun v z => by rw [d] at z; cases z⟩
  keep := fun i h h' st k => let ⟨o, ho, r⟩ := st; ⟨o, k it (by simp) o ho, r⟩
  item := by
    intro X hP hw hK hc i pins s σ H E I hf st hg
    subst hP hw hK
    obtain ⟨f0, f1, f2, f3, f4, f5⟩ := hf it (by simp)
    have hno : ["enumerate", "zip", "dict_itemiterator", "dict_reverseitemiterator", "odict_iterator", "itertools.zip_longest", "itertools.pairwise"].contains ty = false := by
      rcases hty with e | e
      · rw [e]; decide
      · rw [e]; decide
    have hx : x.cps[i]? = some (x.cps[i]'hg) := Array.getElem?_eq_getElem hg
    have fin : ∀ h', h'.IsStrIter it ty x t (i + 1) → Heap.SameBut it s.heap h' → ∃ u, some (Value.str ⟨#[x.cps[i]'hg]⟩ s.toks) = some u ∧
        wpAny (model X.prog X.w) X.A (letOwnedTupleGo tg (.ref it) u) (fun _ s2 => ∃ y H', Inv X pins σ H' s2 ∧ RelV y u ∧ (Its x).yld i H y H' ∧ s2.heap.IsStrIter it ty x t (i + 1) ∧ ∀ b ∈ [it], H' b = none) E { s with heap := h', toks := s.toks + 1 } := fun h' st' sb => by
      have I1 : Inv X pins σ H { s with heap := h', toks := s.toks + 1 } := I.turned (fun b o hb e => (sb.2 b hb).trans e) f0 f1 f3 f4 f5
      obtain ⟨oi, e, cc, dd⟩ := id st'
      exact ⟨_, rfl, go_of (s := { s with heap := h', toks := s.toks + 1 }) e cc dd hno ⟨.str ⟨#[x.cps[i]'hg]⟩, H, I1, ⟨_, rfl⟩, ⟨rfl, _, hx, rfl⟩, st', fun b hb => (hf b hb).1⟩⟩
    rcases hty with e | e
    · subst e
      exact wpAny_pyNext_ascii_item st hx fun h' st' sb => fin h' st' sb
    · subst e
      exact wpAny_pyNext_wide_item st hx fun h' st' sb => fin h' st' sb
  done := by
    intro X hP hw hK hc i pins s σ H E I hf st hg
    subst hP hw hK
    obtain ⟨f0, f1, f2, f3, f4, f5⟩ := hf it (by simp)
    have hx : x.cps[i]? = none := Array.getElem?_eq_none hg
    obtain ⟨x1, hot⟩ := hc.at I
    rcases hty with e | e
    · rw [e] at st
      exact next_ascii_end_hot hot st hx fun h' eb => ⟨rfl, I.turned (t' := s.toks) (fun b o hb e => eb b o hb e) f0 f1 f3 f4 f5⟩
    · rw [e] at st
      exact next_wide_end_hot hot st hx fun h' eb => ⟨rfl, I.turned (t' := s.toks) (fun b o hb e => eb b o hb e) f0 f1 f3 f4 f5⟩
  self := fun A i s Q E st h => by
    rcases hty with e | e
    · rw [e] at st; exact wpAny_pyIter_striter_ascii st h
    · rw [e] at st; exact wpAny_pyIter_striter_wide st h
end

/-! ### what a for walks -/
section
variable {X : Cx} {tg : Expr}
theorem pi_oneH {pins : List (Addr × Obj)} {σ : L2.St} {H : Hp} {s : Shared} {R : It → Hp → Prop} {J : It} {tn : Nat → Heap → Prop} {tk : Nat} (I : Inv X pins σ H s) (o : Obj)
    (T : TurnH X.prog X.w X.K tg J [s.heap.objs.size] s.heap.objs.size tn) (st : tn 0 (s.heap.push o)) (q : R J H) : PIEH X pins σ tg R (.ref s.heap.objs.size) { s with heap := s.heap.push o, toks := tk } := by
  refine ⟨s.heap.objs.size, [s.heap.objs.size], tn, J, H, rfl, I.kept fun b ob e => Heap.get?_push_of_some _ e, T, st, fun b hb => ?_, q⟩
  have e : b = s.heap.objs.size := by simpa using hb
  subst e
  exact I.fpOk (Nat.le_refl _) (I.hok.fresh (Nat.le_refl _))
theorem pi_tupH {l : Expr} {tl : TE} (hl : PE X l tl) : PIH X tg l (iTup X.K tl) := by
  refine ⟨fun pins s σ H R I h => ?_⟩
  refine thn (hl.run pins s σ H _ I h) fun v s1 ⟨x, H1, I1, r1, q1⟩ => ?_
  obtain ⟨a, e, ⟨xs, hq⟩, q⟩ := q1
  subst e
  cases r1
  obtain ⟨its, rv, p, hz⟩ := I1.tuple hq
  refine wpAny_pyIter_tuple (show s1.heap.IsTuple a its.toArray from p) ?_
  exact pi_oneH (tk := s1.toks) I1 _ (turn_tupleH a _) ⟨_, Heap.get?_push_size _ rfl, rfl, rfl⟩ q
theorem pi_strH {e : Expr} {te : TE} (he : PE X e te) : PIH X tg e (iStr te) := by
  refine ⟨fun pins s σ H R I h => ?_⟩
  refine thn (he.run pins s σ H _ I h) fun v s1 ⟨y, H1, I1, r1, x, ex, q⟩ => ?_
  subst ex
  obtain ⟨t, rfl⟩ := r1
  cases ha : x.cps.all (· < 128)
  · exact wpAny_pyIter_wide ha (pi_oneH (tk := s1.toks) I1 _ (turn_strH _ x t "str_iterator" (.inr rfl)) ⟨_, Heap.get?_push_size _ rfl, rfl, rfl⟩ q)
  · exact wpAny_pyIter_ascii ha (pi_oneH (tk := s1.toks) I1 _ (turn_strH _ x t "str_ascii_iterator" (.inl rfl)) ⟨_, Heap.get?_push_size _ rfl, rfl, rfl⟩ q)
theorem pi_range2H {a b : Expr} {ta : TA} {p pos : Pos} (hg : Gl X "range") (hm : X.mg "range" = none) (ha : PA X [a, b] ta) (hs : starEach [a, b] X.env = [(false, eval a X.env), (false, eval b X.env)] := by rfl) (hs2 : starEach [b] X.env = [(false, eval b X.env)] := by rfl) :
    PIH X tg (.Call (.Name "range" p) [a, b] [] pos) (iRng2 ta) := by
  refine ⟨fun pins s σ H R I h => ?_⟩
  refine Call_ (ld_blt I hg hm boot_range (PyProof.Rows.callWith_type1 (thn (ha.run pos pins s σ H _ I h) fun us s1 ⟨vs, H1, I1, r1, q1⟩ => ?_) (by rw [hs, hs2]) (by rw [hs2]; rfl)))
  obtain ⟨i, j, e, ⟨q1, q2, q3, q4⟩, q⟩ := q1
  subst e
  cases r1 with
  | cons r rr =>
    cases rr with
    | cons r' rr =>
      cases rr
      obtain ⟨t, rfl⟩ := r
      obtain ⟨t', rfl⟩ := r'
      exact call_range_2 (range_itH I1 q1 q2 q3 q4 q)
end
end HX
set_option linter.all false
set_option maxRecDepth 100000
set_option maxHeartbeats 2000000
namespace HX
open PySem PySem.Spec PyProof.Rows L2 GenW GA HotX L2H GxR

section
variable {X : Cx} {pins : List (Addr × Obj)} {σ : L2.St} {H : Hp} {s : Shared}
theorem gx_startH {scope : Scope} {own : List (Str × Nat)} {fp : List Addr} {code : Value} {A' : Around} {pn : List (Addr × Obj)} {s1 : Shared} {m0 : Str → Option Value} {cenv : Env}
    (hce : genEnv scope (cloFrom X.env.cells scope.names []) s.heap.objs.size code builtinsNs X.env = cenv)
    (I : Inv X pins σ H s) (ok : BlkOk X.N X.env.scope scope own) (hcell : ∀ y ∈ scope.names, y.2 ≠ .cell) (hN : X.N.Nodup) (hfp : ∀ b ∈ fp, FpOk X pins H b ∧ b < s.heap.objs.size)
    (hA : A'.frames = some (cenv :: X.stack)) (hh : X.calm = true → A'.handled = none) (hos : s1.os = s.os) (hb : AllBare s1.gens) (hk : ∀ b o, s.heap.get? b = some o → s1.heap.get? b = some o) (hn : s1.heap.Ns s.heap.objs.size m0)
    (hpn : ∀ p ∈ pn, (s1.heap.get? p.1 = some p.2 ∧ s.heap.objs.size < p.1 ∧ ∀ v, p.2.data ≠ .cell v) ∨ p ∈ X.pn) :
    Inv (gx X A' s H scope cenv fp pn) [] (wipe σ (own.map (·.2))) H s1 := by
  have hfree : ∀ y ∈ scope.names, y.2 = .free → ∃ c, X.env.cells.lookup y.1 = some c := fun y hy e => by
    rcases ok.free y hy e with k | k
    · exact I.ok.has _ (.inl k)
    · exact I.ok.has _ (.inr k)
  have hL : cenv.locals = s.heap.objs.size := by rw [← hce]; rfl
  have hcl : cenv.cells = cloFrom X.env.cells scope.names [] := by rw [← hce]; rfl
  have hsc : cenv.scope = scope := by rw [← hce]; rfl
  have mem : ∀ {y c}, cenv.cells.lookup y = some c → X.env.cells.lookup y = some c ∧ c < s.heap.objs.size := fun {y c} e => by
    rw [hcl] at e
    have hm := PySem.mem_of_lookup e
    rcases cloFrom_mem hm with hm | ⟨h1, rfl⟩
    · cases hm
    · obtain ⟨c, hc⟩ := hfree _ h1 rfl
      rw [hc]
      obtain ⟨w, z⟩ := I.cell _ _ hc
      exact ⟨rfl, z.lt⟩
  have look : ∀ {y}, scope.names.lookup y = some .free → ∃ c, cenv.cells.lookup y = some c ∧ X.env.cells.lookup y = some c := fun {y} hl => by
    have hy : (y, NameKind.free) ∈ scope.names := PySem.mem_of_lookup hl
    obtain ⟨c', e'⟩ := mem_lookup (cloFrom_has (cells := X.env.cells) (acc := []) hy)
    rw [← hcl] at e'
    exact ⟨c', e', (mem e').1⟩
  have nocell : ∀ {y}, scope.names.lookup y ≠ some .cell := fun {y} e => hcell _ (PySem.mem_of_lookup e) rfl
  have okB : (gx X A' s H scope cenv fp pn).Ok := by
    refine ⟨I.ok.mod, by show cenv.scope.kind = _; rw [hsc]; exact ok.kind, by show cenv.globals = _; rw [← hce]; exact I.ok.glob, by show cenv.builtins = _; rw [← hce]; rfl, by show s.heap.objs.size ≤ cenv.locals; rw [hL]; exact Nat.le_refl _,
      fun y z c e1 e2 => I.ok.inj y z c (mem e1).1 (mem e2).1, fun y hy => ?_, fun y c z e => ?_, hh, hA, .inr ⟨rfl, by rw [← hce]; rfl⟩, fun b hb => ⟨?_, fun y c e z => ?_⟩, I.bs, Nat.le_trans I.ok.bsz I.sz, fun b o e hb => ?_, fun b hb z => ?_, I.stack, I.stkFree⟩
    · have hy : cenv.scope.names.lookup y = some .cell ∨ cenv.scope.names.lookup y = some .free := hy
      rw [hsc] at hy
      rcases hy with hy | hy
      · exact absurd hy nocell
      · obtain ⟨c, h1, _⟩ := look hy
        exact ⟨c, h1⟩
    · have z : (scope.names.lookup y == some NameKind.cell) = true := z
      have z : scope.names.lookup y = some .cell := by simpa using z
      exact absurd z nocell
    · show b ≠ cenv.locals
      rw [hL]; exact Nat.ne_of_lt (hfp b hb).2
    · exact (hfp b hb).1.2.2.2.2.1 y c (mem e).1 z
    · rcases (hfp b hb).1.2.2.2.1 with z | z
      · exact I.ok.noex b o e z
      · exact absurd (Nat.lt_of_lt_of_le (Heap.lt_size e) (Nat.le_trans I.ok.bsz z)) (Nat.lt_irrefl _)
    · rcases List.mem_cons.mp (I.stkSub b z) with z | z
      · exact (hfp b hb).1.2.1 z
      · exact (hfp b hb).1.2.2.1 z
  refine ⟨okB, hos, hb, Un.kept hk, ⟨m0, ?_, fun i y av e1 e2 e3 => ?_⟩, fun y c e => ?_, ?_, fun y c e => ?_, fun p hp => ?_, I.hok.kept hk, by rw [wipe_length]; exact I.len⟩
  · show Heap.Ns _ cenv.locals _
    rw [hL]
    exact hn
  · obtain ⟨e2, hne⟩ := wipe_some e2
    have e3 : Vis cenv.scope y := e3
    rw [hsc] at e3
    have no : ∀ k, scope.names.lookup y = some k → (k = .local ∨ k = .cell) → False := fun k hk hh => by
      rcases ok.own _ (PySem.mem_of_lookup hk) hh with e' | e'
      · obtain ⟨p, hp, hpy⟩ := List.mem_map.mp e'
        have e3 := ok.ix p hp
        have : p.1 = y := hpy
        rw [this] at e3
        exact hne (List.mem_map.mpr ⟨p, hp, nodup_ix hN e3 e1⟩)
      · exact e' (List.mem_of_getElem? e1)
    have hfr : scope.names.lookup y = some .free := by
      rcases e3 with e3 | e3 | e3
      · exact (no _ e3 (.inl rfl)).elim
      · exact (no _ e3 (.inr rfl)).elim
      · exact e3
    obtain ⟨m, hn', hl⟩ := I.loc
    have hvis : Vis X.env.scope y := (ok.free _ (PySem.mem_of_lookup hfr) rfl).elim (fun k => .inr (.inl k)) (fun k => .inr (.inr k))
    obtain ⟨w, r, q⟩ := hl i y av e1 e2 hvis
    refine ⟨w, r, .inr ⟨.inr (by show cenv.scope.names.lookup y = _; rw [hsc]; exact hfr), ?_⟩⟩
    obtain ⟨c, h1, h2⟩ := look hfr
    rcases q with ⟨k, _⟩ | ⟨_, c', e', z⟩
    · have k : X.env.scope.names.lookup y = some .local := k
      rcases ok.free _ (PySem.mem_of_lookup hfr) rfl with k' | k' <;> rw [show X.env.scope.names.lookup y = _ from k'] at k <;> cases k
    · rw [h2] at e'; cases e'
      exact ⟨c, h1, z.keeps hk⟩
  · obtain ⟨w, z⟩ := I.cell y c (mem e).1
    exact ⟨w, z.keeps hk⟩
  · show H cenv.locals = none
    rw [hL]; exact I.hok.fresh (Nat.le_refl _)
  · exact I.freeC y c (mem e).1
  · have hp : p ∈ pn := by simpa using hp
    rcases hpn p hp with ⟨p1, p2, p3⟩ | hx
    · refine ⟨p1, I.hok.fresh (Nat.le_of_lt p2), ?_, fun hb => (List.mem_cons.mp (I.stkSub _ hb)).elim (fun z => absurd (Nat.lt_trans p2 (by rw [z]; exact I.lt)) (Nat.lt_irrefl _)) (I.nofs (Nat.le_of_lt p2)), p3⟩
      show p.1 ≠ cenv.locals
      rw [hL]; exact Nat.ne_of_gt p2
    · obtain ⟨q1, q2, q3, q4, q5⟩ := I.pin p (List.mem_append_left _ hx)
      refine ⟨hk _ _ q1, q2, ?_, fun hb => (List.mem_cons.mp (I.stkSub _ hb)).elim (fun z => q3 z) q4, q5⟩
      show p.1 ≠ cenv.locals
      rw [hL]; exact Nat.ne_of_lt (Heap.lt_size q1)
end

section
variable {X : Cx} {σ : L2.St} {s4 : Shared} {H4 : Hp} {scope : Scope} {cenv : Env} {fp : List Addr} {pn : List (Addr × Obj)} {A : Around} {elt tg iter : Expr} {pos : Pos} {it : Addr} {J : It} {tn : Nat → Heap → Prop} {g : TG} {te : TE} {vs : List Nat} {n₀ : Nat} {QT QF : Hp → Prop} {W : Nat → Hp → Prop}

theorem seg_loopH (G : Cx) (hG : gx X (A.over (.compLoop (.GeneratorExp elt [⟨tg, iter, [], 0⟩] scope pos) 0 (.ref it) .none cenv) []) s4 H4 scope cenv fp pn = G)
    (hc : HotC G) (hco : cenv.scope.isCoroutine = false) (T : TurnH X.prog X.w X.K tg J fp it tn) (pg : PG G tg g) (pe : PE G elt te)
    (hpn : ∀ p ∈ pn, ∀ b ∈ fp, p.1 ≠ b) (hw : (wipe σ vs).length = σ.length)
    (hW : AllW J g te (wipe σ vs) vs n₀ QT QF W) :
    ∀ (k i : Nat) (s₀ s : Shared) (H : Hp), n₀ - i = k → W i H → Inv G [] (wipe σ vs) H s → tn i s.heap → (∀ b ∈ fp, H b = none) →
      Seg (model X.prog X.w) A (RA G QT) (YA G QF) k s₀ (.compLoop (.GeneratorExp elt [⟨tg, iter, [], 0⟩] scope pos) 0 (.ref it) .none cenv)
        ((model X.prog X.w).den (.compLoop (.GeneratorExp elt [⟨tg, iter, [], 0⟩] scope pos) 0 (.ref it) .none cenv)) [] s := by
  have hAg : A.over (.compLoop (.GeneratorExp elt [⟨tg, iter, [], 0⟩] scope pos) 0 (.ref it) .none cenv) [] = G.A := by rw [← hG]
  have hGe : G.env = cenv := by rw [← hG]
  have hGp : G.prog = X.prog := by rw [← hG]
  have hGw : G.w = X.w := by rw [← hG]
  have hGK : G.K = X.K := by rw [← hG]
  have hGx : G.xe = fun _ _ => False := by rw [← hG]
  have hGex : G.ex = fp := by rw [← hG]
  have hGpn : G.pn = pn := by rw [← hG]
  have stat : ∀ {σ' : L2.St} {H' : Hp} {s' : Shared}, Inv G [] σ' H' s' → (∀ b ∈ fp, H' b = none) → ∀ b ∈ fp, FpOk G [] H' b := fun {σ' H' s'} I' hn b hb => by
    have hb' : b ∈ G.ex := by rw [hGex]; exact hb
    refine ⟨hn b hb, (I'.ok.exf b hb').1, I'.ok.exfs b hb', .inl hb', fun x c e => (I'.ok.exf b hb').2 x c e, fun p hp => hpn p ?_ b hb⟩
    rw [hGpn] at hp
    simpa using hp
  intro k
  induction k with
  | zero =>
    intro i s₀ s H hk hw0 I st nf
    rcases hW i H hw0 with ⟨hi, hstop, hq⟩ | ⟨hi, _⟩
    · show Seg _ A _ _ _ s₀ _ ((compTurn (.GeneratorExp elt [⟨tg, iter, [], 0⟩] scope pos) 0 (.ref it) .none cenv).onRaise (leaving cenv)) [] s
      rw [compTurn_gen, Sem.onRaise_eq_wrap]
      refine seg_bind_wrap (wpAny_standAt ?_)
      have td := T.done G hGp hGw hGK hc i [] s _ H (fun _ _ => False) I (stat I nf) st hstop
      refine seg_bind_wrap ?_
      rw [hAg]
      refine wpAny_mono td (fun r s6 ⟨hr, I6⟩ => ?_) fun _ _ z => z.elim
      subst hr
      exact seg_end (.ok .next) (.inl ⟨.inr rfl, _, H, I6, hq⟩)
    · omega
  | succ k ih =>
    intro i s₀ s H hk hw0 I st nf
    rcases hW i H hw0 with ⟨hi, hstop, hq⟩ | ⟨hi, hgo, step⟩
    · omega
    · show Seg _ A _ _ _ s₀ _ ((compTurn (.GeneratorExp elt [⟨tg, iter, [], 0⟩] scope pos) 0 (.ref it) .none cenv).onRaise (leaving cenv)) [] s
      rw [compTurn_gen, Sem.onRaise_eq_wrap]
      refine seg_bind_wrap (wpAny_standAt ?_)
      have ti := T.item G hGp hGw hGK hc i [] s _ H (fun _ _ => False) I (stat I nf) st hgo
      refine seg_bind_wrap ?_
      rw [hAg]
      refine wpAny_mono ti (fun r s6 ⟨u, hr, h6⟩ => ?_) fun _ _ z => z.elim
      subst hr
      refine seg_bind_wrap ?_
      rw [hAg]
      refine wpAny_mono h6 (fun _ s7 ⟨x, H7, I7, r7, y7, st7, n7⟩ => ?_) fun _ _ z => z.elim
      have I7' := I7.pinned (stat I7 n7) (T.obj _ _ st7)
      refine seg_bind_wrap ?_
      rw [hAg]
      have pgr := pg.run _ s7 _ H7 x u _ I7' r7 (step x H7 y7)
      rw [hGe, hGp, hGw, hGx] at pgr
      refine wpAny_mono pgr (fun _ s8 ⟨σ8, H8, I8, hw8, q8⟩ => ?_) fun _ _ z => z.elim
      simp only [List.forIn_nil]
      refine seg_bind_wrap (wpAny_pure ?_)
      simp only [if_true]
      have hy : ∀ v, yieldOut cenv v = yieldValue v := fun v => by simp only [yieldOut, hco, Bool.false_eq_true, if_false]
      simp only [hy]
      rw [Sem.bind_eq_wrap', Sem.bind_eq_wrap', Sem.wrap_wrap, Sem.wrap_wrap]
      refine seg_wrap ?_
      rw [hAg]
      have per := pe.run _ s8 σ8 H8 _ I8 q8
      rw [hGe, hGp, hGw, hGx] at per
      refine wpAny_mono per (fun v s9 ⟨y, H9, I9, r9, c, hyc, q0, q1⟩ => ?_) fun _ _ z => z.elim
      subst hyc
      have ev : v = Value.bool c := r9
      subst ev
      refine seg_at (seg_yield rfl rfl rfl ⟨σ8, H9, c, _, rfl, I9, q0, fun hct s' dz => ?_⟩)
      have I10 := Inv.dozed I9 dz
      have pin' : ∀ b ∈ fp, ∀ o, s7.heap.get? b = some o → s'.heap.get? b = some o ∧ H9 b = none := fun b hb o e =>
        let z := I10.pin (b, o) (List.mem_append_right _ (List.mem_append_right _ (mem_pinsAt hb e)))
        ⟨z.1, z.2.1⟩
      have hl : (wipe σ vs).length = σ8.length := by rw [← hw8, wipe_length]
      refine seg_again rfl (ih (i + 1) s' s' H9 (by omega) (q1 hct) ((I10.unpinned (pins := [])).weak hl fun j v e => ?_) (T.keep _ _ _ st7 fun b hb o e => (pin' b hb o e).1) fun b hb => ?_)
      · rw [← hw8] at e
        exact (wipe_some e).1
      · obtain ⟨o, e, _⟩ := T.obj _ _ st7 b hb
        exact (pin' b hb o e).2
end

section
variable {P : Program} {w : World} {A : Around} {E : Value → Shared → Prop} {s : Shared}
theorem next_genGH {a : Addr} {g n : Nat} {gs : GenState} {F : Nat → Shared → Shared → Prop} {Er : Value → Shared → Prop} {Y : Protocol} {Q : Option Value → Shared → Prop} {x1 : Addr}
    (hl : s.heap.NoLimit) (hroom : A.depth < recursionLimit) (hg : s.heap.IsGen a g) (hgs : s.gens[g]? = some gs)
    (hgo : gs.Goes (model P w) A.in1 (fun n s₀ r s₁ => ((r = .ok (.ret .none) ∨ r = .ok .next) ∧ F n s₀ s₁) ∨ ∃ e, r = .error e ∧ Er e s₁) Y n (.send .none) (s.setGen g .running))
    (hY : ∀ v s₁ gs', gs'.bare = true → Y (n - 1) (s.setGen g .running) v s₁ (fun r' s'' => match n with
        | 0 => False
        | m + 1 => gs'.Goes (model P w) A.in1 (fun n s₀ r s₁ => ((r = .ok (.ret .none) ∨ r = .ok .next) ∧ F n s₀ s₁) ∨ ∃ e, r = .error e ∧ Er e s₁) Y m r' s'') → Q (some v) (s₁.setGen g gs'))
    (hot : ∀ s₁, F n (s.setGen g .running) s₁ → HotAt A x1 s₁.heap)
    (hP : ∀ s₁, F n (s.setGen g .running) s₁ → ∀ h', (∀ b o, s₁.heap.get? b = some o → h'.get? b = some o) → Q none { s₁.setGen g .finished with heap := h' })
    (hE : ∀ e s₁, Er e s₁ → s₁.heap.IsGen a g ∧ NotStop (model P w) e s₁.heap ∧ E e (s₁.setGen g .finished)) :
    wpAny (model P w) A (pyNext (.ref a)) Q E s := by
  unfold pyNext
  refine wpAny_bind (wpAny_attempt (wpAny_callSpecial?_slot (name := Str.ofString "__next__") hg.typeIs slot_gen_next
    (wpAny_call_entry slot_gen_next hg.typeIs entry_gen_next ?_ (args_gen_next _))))
  show wpAny _ A.in1 (Builtin.Generator.genWake (.ref a) (.send .none)) _ _ s
  unfold Builtin.Generator.genWake
  refine wpAny_bind (wpAny_holding (wpAny_genNumber hg (wpAny_bind (wpAny_genState hgs ?_))))
  cases gs with
  | running => exact hgo.elim
  | finished => exact hgo.elim
  | _ =>
    refine wpAny_bind (wpAny_roomToWake hl hroom ?_)
    show wpAny _ A.in1 (.resume g (.send .none) [] _) _ _ s
    refine wpAny_resumeQ hgs hgo (fun x s₁ hx => ?_) (fun v s₁ gs' hb hv => ?_)
    · rcases hx with ⟨hr, hp⟩ | ⟨e, rfl, he⟩
      · have hres : End.result (.ret x) = .returned .none := by
          rcases hr with hr | hr <;> rw [hr] <;> rfl
        first | rw [hres] | simp only [hres]
        show wpAny _ A.in1 (newExc (.type "StopIteration") [] >>= _) _ _ _
        refine wpAny_bind ?_
        simp only [newExc, newTuple]
        refine wpAny_bind (wpAny_newObj_type ?_ (by size_fits))
        refine wpAny_bind (m := firstArgMember _ _) (wpAny_of_eq (a := Value.none) (by first | rfl | (simp only [firstArgMember]; rfl)) ?_)
        refine wpAny_newObj_type ?_ (by size_fits)
        obtain ⟨hh, o1, vs1, h1, d1, c1⟩ := hot s₁ hp
        refine wpAny_bind (raiseNew_hot ⟨hh, o1, vs1, Heap.get?_push_of_some _ (Heap.get?_push_of_some _ h1), d1, c1⟩ (Nat.ne_of_lt (Heap.lt_size (Heap.get?_push_of_some _ h1))) (Heap.get?_push_size _ rfl) rfl (by first | (simp; done) | (simp; omega) | (simp only [Array.size_append]; simp; omega)) ?_)
        refine wpAny_bind (wpAny_isInstance (T := "StopIteration") (b := true) ⟨_, Heap.get?_update_self _ (Heap.get?_push_size _ rfl) rfl, rfl⟩ isSubtype_stop ?_)
        refine wpAny_pure (hP s₁ hp _ fun b o hb => ?_)
        have hb' : (s₁.setGen g .finished).heap.get? b = some o := hb
        exact (Heap.get?_update_other _ _ (Nat.ne_of_gt (Heap.lt_size (Heap.get?_push_of_some _ hb')))).trans (Heap.get?_push_of_some _ (Heap.get?_push_of_some _ hb'))
      · obtain ⟨hg1, hns, hq⟩ := hE e s₁ he
        obtain ⟨o, nm, qn, ho, hc, hd, hsl⟩ := hg1
        show wpAny _ A.in1 (Builtin.Generator.genLeft (.ref a) e) _ _ _
        unfold Builtin.Generator.genLeft Builtin.Generator.madeByALambda
        refine wpAny_bind (wpAny_bind (wpAny_load (o := o) ho (wpAny_pure ?_)))
        refine wpAny_bind (hns _ _ _ _ rfl ?_)
        rw [Bool.and_false, if_neg Bool.false_ne_true]
        unfold Builtin.Generator.genEscaped
        first
          | refine wpAny_bind (hns _ _ _ _ rfl ?_)
          | refine wpAny_bind (wpAny_pure (wpAny_bind (hns _ _ _ _ rfl ?_)))
        rw [if_pos (show (!false) = true from rfl)]
        first
          | refine wpAny_throw ?_
          | refine wpAny_bind (wpAny_throw ?_)
        refine wpAny_bind (hns _ _ _ _ rfl ?_)
        rw [if_neg Bool.false_ne_true]
        exact wpAny_throw hq
    · exact wpAny_pure ⟨v, rfl, wpAny_pure (hY v s₁ gs' hb hv)⟩
end

theorem all_loopH {P : Program} {w : World} {G : Cx} {QT QF : Hp → Prop} {A : Around} {R : Result → Shared → Prop} {a : Addr} {g : Nat}
    {x1 : Addr} (hot : ∀ s1 σ' H', Inv G [] σ' H' s1 → HotAt A x1 s1.heap) (hd : A.depth < recursionLimit)
    (hT : ∀ s' s1 σ' H', Inv G [] σ' H' s1 → QT H' → Dozed s1 s' → R (.ok (.ret (.bool true))) s')
    (hF : ∀ s' s1 pins σ' H', Inv G pins σ' H' s1 → QF H' → Dozed s1 s' → R (.ok (.ret (.bool false))) s')
    (hG : ∀ s1 pins σ' H', Inv G pins σ' H' s1 → s1.heap.IsGen a g) :
    ∀ (m : Nat) (s : Shared), s.heap.IsGen a g → s.heap.NoLimit →
      (∃ gs, s.gens[g]? = some gs ∧ gs.Goes (model P w) A.in1.in1 (RA G QT) (YA G QF) m (.send .none) (s.setGen g .running)) →
      codeAny (model P w) A (.builtin "all.loop" ⟨[.ref a], []⟩) R s := by
  intro m
  induction m with
  | zero =>
    intro s hg hl ⟨gs, hgs, hgo⟩
    refine codeAny_builtin F.entry_all_loop ?_
    rw [Around.under_plainId F.plain_all_loop _]
    show wpAny _ A.in1 (pyNext (.ref a) >>= _) _ _ s
    refine wpAny_bind (next_genGH (x1 := x1) (A := A.in1) (F := FA G QT) (Er := fun _ _ => False) hl hd hg hgs hgo (fun v s₁ gs' hbare hv => ?_) (fun s₁ ⟨σ', H', I, _⟩ => hot s₁ σ' H' I) (fun s₁ hp h' hk => ?_) fun e s₁ he => he.elim)
    · obtain ⟨σ', H', c, pins, rfl, I, q0, q1⟩ := hv
      refine wpAny_bind (wpAny_holding (wpAny_truthy_bool ?_))
      refine wpAny_bind (wpAny_letGo ?_)
      cases c with
      | true => exact (q1 rfl s₁ ⟨rfl, I.bare, fun _ _ e => e⟩).elim
      | false =>
        simp only [Bool.false_eq_true, if_false]
        refine wpAny_bind (wpAny_rule (wpAny_pure ?_))
        exact hF _ _ _ _ _ I (q0 rfl) ⟨rfl, allBare_setGen I.bare hbare, fun _ _ e => e⟩
    · obtain ⟨σ', H', I, q⟩ := hp
      refine wpAny_bind (wpAny_rule (wpAny_pure ?_))
      exact hT _ _ _ _ I q ⟨rfl, allBare_setGen I.bare rfl, hk⟩
  | succ m ih =>
    intro s hg hl ⟨gs, hgs, hgo⟩
    have hgl : g < s.gens.size := (Array.getElem?_eq_some_iff.mp hgs).1
    refine codeAny_builtin F.entry_all_loop ?_
    rw [Around.under_plainId F.plain_all_loop _]
    show wpAny _ A.in1 (pyNext (.ref a) >>= _) _ _ s
    refine wpAny_bind (wpAny_gsz (n := g + 1) hgl (next_genGH (x1 := x1) (A := A.in1) (F := FA G QT) (Er := fun _ _ => False) hl hd hg hgs hgo (fun v s₁ gs' hbare hv => ?_) (fun s₁ ⟨σ', H', I, _⟩ => hot s₁ σ' H' I) (fun s₁ hp h' hk => ?_) fun e s₁ he => he.elim))
    · intro hsz
      obtain ⟨σ', H', c, pins, rfl, I, q0, q1⟩ := hv
      refine wpAny_bind (wpAny_holding (wpAny_truthy_bool ?_))
      refine wpAny_bind (wpAny_letGo ?_)
      cases c with
      | true =>
        simp only [if_true]
        have hsz1 : g < s₁.gens.size := by
          have q : (s₁.setGen g gs').gens.size = s₁.gens.size := setGen_size _ _ _
          have hsz' : g + 1 ≤ (s₁.setGen g gs').gens.size := hsz
          omega
        refine wpAny_pure ⟨plainId_quiet F.plain_all_loop _, ih (s₁.setGen g gs') (hG s₁ pins σ' H' I) I.nolimit ⟨gs', setGen_at hsz1, ?_⟩⟩
        exact q1 rfl _ ⟨rfl, allBare_setGen (s := s₁.setGen g gs') (allBare_setGen I.bare hbare) rfl, fun _ _ e => e⟩
      | false =>
        simp only [Bool.false_eq_true, if_false]
        refine wpAny_bind (wpAny_rule (wpAny_pure ?_))
        exact hF _ _ _ _ _ I (q0 rfl) ⟨rfl, allBare_setGen I.bare hbare, fun _ _ e => e⟩
    · intro hsz
      obtain ⟨σ', H', I, q⟩ := hp
      refine wpAny_bind (wpAny_rule (wpAny_pure ?_))
      exact hT _ _ _ _ I q ⟨rfl, allBare_setGen I.bare rfl, hk⟩
end HX
set_option linter.all false
set_option maxRecDepth 100000
set_option maxHeartbeats 4000000
namespace HX
open PySem PySem.Spec PyProof.Rows L2 GenW GxR GA HotX L2H
theorem RoomH.units {k : Nat} {A : Around} (r : RoomH k A) : A.units + 64 < cLine := by have := r.un; omega
theorem room_agH {A : Around} {elt tg iter : Expr} {scope : Scope} {pos : Pos} {it : Addr} {cenv : Env} {k : Nat} (r : RoomH (k + 1) A) : RoomH k (ag A elt tg iter scope pos it cenv) := by
  refine ⟨?_, ?_⟩
  · have := r.dp
    have e : (ag A elt tg iter scope pos it cenv).depth ≤ A.depth + 1 := Nat.le_of_eq rfl
    omega
  · have := r.un
    have e : (ag A elt tg iter scope pos it cenv).units ≤ A.units + 5 := Nat.le_of_eq rfl
    omega
section
variable {X : Cx} {P c : Addr} {elt tg iter : Expr} {p pos gpos : Pos} {scope : Scope} {own : List (Str × Nat)} {k : Nat} {wi : TI} {g : TG} {te : TE}
theorem pe_allGH (hc : HotC X) (hN : X.N.Nodup) (hr : RoomH (k + 1) X.A) (hg : Gl X "all") (hm : X.mg "all" = none) (hb : bootBuiltins "all" = some (.builtin "all")) (TB : TabB X.base X.mg c P) (hcode : X.env.code = .ref c)
    (S : GenO X scope own) (hi : PIH X tg iter wi)
    (hpg : ∀ (A' : Around) (s : Shared) (H : Hp) (C : Addr) (cl : List (Str × Addr)) (code : Value) (fp : List Addr) (pn : List (Addr × Obj)), PG (gx X A' s H scope (genEnv scope cl C code builtinsNs X.env) fp pn) tg g)
    (hpe : ∀ (A' : Around) (s : Shared) (H : Hp) (C : Addr) (cl : List (Str × Addr)) (code : Value) (fp : List Addr) (pn : List (Addr × Obj)), RoomH k A' → HotC (gx X A' s H scope (genEnv scope cl C code builtinsNs X.env) fp pn) → PE (gx X A' s H scope (genEnv scope cl C code builtinsNs X.env) fp pn) elt te)
    (hs : ∀ v, genFold iter X.env v = pure v)
    (he : starEach [.GeneratorExp elt [⟨tg, iter, [], 0⟩] scope gpos] X.env = (false, eval (.GeneratorExp elt [⟨tg, iter, [], 0⟩] scope gpos) X.env) :: starEach [] X.env := by rfl) :
    PE X (.Call (.Name "all" p) [.GeneratorExp elt [⟨tg, iter, [], 0⟩] scope gpos] [] pos) (tAllG P wi g te (own.map (·.2))) := by
  refine ⟨fun pins s σ H Q I h => ?_⟩
  obtain ⟨p0, ⟨hh0, v0, e0, c0⟩, hp0⟩ := id hc
  have hfree : ∀ y ∈ scope.names, y.2 = .free → ∃ c, X.env.cells.lookup y.1 = some c := fun y hy e => by
    rcases S.blk.free y hy e with k | k
    · exact I.ok.has _ (.inl k)
    · exact I.ok.has _ (.inr k)
  refine wpAny_Call_Name_kw (ld_blt I hg hm hb ?_)
  refine PyProof.Rows.callWith_builtin1 ?_ he (by rfl)
  rw [he]
  show wpAny _ _ (spliced ((false, eval (.GeneratorExp elt [⟨tg, iter, [], 0⟩] scope gpos) X.env) :: backTo pos (starEach [] X.env))) _ _ s
  refine Calls.spliced_cons ?_
  refine wpAny_GeneratorExp_make S.co (closure_ok hfree) S.cell S.dot S.blk.kind (by have := hr.dp; omega) ?_ hs
  refine thn (hi.run pins s σ H _ I h) fun xv s1 hx => thn hx fun itv s2 h2 => ?_
  obtain ⟨it, fp, tn, J, H2, e, I2, T, st2, f2, q⟩ := h2
  subst e
  obtain ⟨⟨ps, hP, ht⟩, q⟩ := q
  refine ⟨I2.nolimit, ?_⟩
  have hPs : s2.heap.get? P = some { cls := .none, data := .fields ps } := I2.hok P _ hP
  have hPlt : P < s2.heap.objs.size := Heap.lt_size hPs
  have cd : PySem.W.CodeHd s2.heap c P := TB.code.keeps fun b u e => I2.bk b u e
  have sz : ∀ b ∈ fp, b < s2.heap.objs.size := fun b hb => by
    obtain ⟨o, e, _⟩ := T.obj _ _ st2 b hb
    exact Heap.lt_size e
  have nP : ∀ b ∈ fp, b ≠ P := fun b hb z => by
    have e := (f2 b hb).1
    rw [z, hP] at e
    cases e
  have cont : ∀ (code : Value) (h3 : Heap) (tk : Nat) (ps' : Array Value), Heap.ExtBut P s2.heap h3 → s2.heap.objs.size ≤ h3.objs.size → h3.get? P = some { cls := .none, data := .fields ps' } → (∃ more, ps' = ps ++ more) → TriplesOk ps'.toList →
      wpAny (model X.prog X.w) X.A (builtinsFor X.env.globals X.env.builtins) (fun bi s₄ =>
        ∀ h', h'.Ns s₄.heap.objs.size (fun y => if y = ".0" then some (.ref it) else none) → Heap.SameBut s₄.heap.objs.size (s₄.heap.push { cls := .type "frame", data := .dict #[] }) h' →
          wpAny (model X.prog X.w) X.A (spliced (backTo pos (starEach [] X.env))) (fun us s₅ => wpAny (model X.prog X.w) X.A (call (.builtin "all") ([] ++ (.ref h'.objs.size :: us))) (EP X pins σ Q) X.xe s₅) X.xe
            { s₄ with
            gens := s₄.gens.push (.fresh (.compStart (.GeneratorExp elt [⟨tg, iter, [], 0⟩] scope gpos) 0 (.ref it) .none (genEnv scope (cloFrom X.env.cells scope.names []) s₄.heap.objs.size code bi X.env))),
            toks := s₄.toks + 1 + 1 + 1,
            heap := h'.push { cls := .type "generator", data := .fields #[.int s₄.gens.size 0, .str "<genexpr>" (s₄.toks + 1), .str (X.env.qual ++ "<genexpr>") (s₄.toks + 1 + 1)] } }) X.xe { s2 with heap := h3, toks := tk } := by
    intro code h3 tk ps' hx hsz hP3 hmore ht3
    obtain ⟨bm, ob, e1, e2, e3, e4, e5, e6, e7, e8⟩ := TB.bm
    have keep3 : ∀ b u, b ≠ P → s2.heap.get? b = some u → h3.get? b = some u := fun b u hb e => hx b u hb e
    refine wpAny_builtinsFor (m := X.mg) (by rw [I2.ok.glob]; exact (I2.mod.glob.keeps I2.bk).extBut hx TB.gP) e1 e2 (keep3 _ _ e4 (I2.bk _ _ e5)) e6 e7 e8 ?_
    intro h' hn' hs'
    obtain ⟨more, em⟩ := hmore
    -- the table has grown
    have I3 : Inv X pins σ (upd H2 P (.tbl (ps ++ more))) { s2 with heap := h3, toks := tk } := by
      have J := inv_tab (more := more) (h' := h3) (g' := s2.gens) (d' := s2.drawn) (t' := tk) I2 hP keep3 (by rw [← em]; exact hP3) I2.bare
      exact J
    have tb : Tabbed P H2 (upd H2 P (.tbl (ps ++ more))) := ⟨⟨ps ++ more, upd_same, by rw [← em]; exact ht3⟩, fun b hb => upd_ne hb⟩
    obtain ⟨n₀, W, w0, hW⟩ := q _ tb
    generalize hH3 : upd H2 P (.tbl (ps ++ more)) = H3 at I3 tb w0 hW
    have f3 : ∀ b ∈ fp, FpOk X pins H3 b ∧ b < h3.objs.size := fun b hb => by
      refine ⟨⟨?_, (f2 b hb).2⟩, Nat.lt_of_lt_of_le (sz b hb) hsz⟩
      rw [← hH3, upd_ne (nP b hb)]
      exact (f2 b hb).1
    have st3 : tn 0 h3 := T.keep _ _ _ st2 fun b hb o e => keep3 b o (nP b hb) e
    show wpAny (model X.prog X.w) X.A (spliced (backTo pos (starEach [] X.env))) _ _ _
    refine Calls.spliced_nil ?_
    have hsz' : h'.objs.size = h3.objs.size + 1 := by
      have := hs'.1
      rw [this]
      exact Heap.size_push ..
    have keep' : ∀ b o, h3.get? b = some o → h'.get? b = some o := fun b o e => hs'.extBut b o (Nat.ne_of_lt (Heap.lt_size e)) (Heap.get?_push_of_some _ e)
    generalize hgo : ({ cls := .type "generator", data := .fields #[.int s2.gens.size 0, .str "<genexpr>" (tk + 1), .str (X.env.qual ++ "<genexpr>") (tk + 1 + 1)] } : Obj) = go
    have keep5 : ∀ b o, h3.get? b = some o → (h'.push go).get? b = some o := fun b o e => Heap.get?_push_of_some _ (keep' b o e)
    have hgen : ∀ h : Heap, h.get? h'.objs.size = some go → h.IsGen h'.objs.size s2.gens.size := fun h e => ⟨go, _, _, e, by rw [← hgo], by rw [← hgo], by rw [← hgo]⟩
    have hpush : (h'.push go).get? h'.objs.size = some go := Heap.get?_push_size _ (by rw [← hgo]; rfl)
    have hgd : ∀ v, go.data ≠ .cell v := fun v z => by rw [← hgo] at z; cases z
    generalize hce : genEnv scope (cloFrom X.env.cells scope.names []) h3.objs.size code builtinsNs X.env = cenv
    generalize hs5 : ({ s2 with gens := s2.gens.push (.fresh (.compStart (.GeneratorExp elt [⟨tg, iter, [], 0⟩] scope gpos) 0 (.ref it) .none cenv)), toks := tk + 1 + 1 + 1, heap := h'.push go } : Shared) = s5
    have h5h : s5.heap = h'.push go := by rw [← hs5]
    have h5g : s5.gens = s2.gens.push (.fresh (.compStart (.GeneratorExp elt [⟨tg, iter, [], 0⟩] scope gpos) 0 (.ref it) .none cenv)) := by rw [← hs5]
    have h5o : s5.os = s2.os := by rw [← hs5]
    have g5 : s5.heap.IsGen h'.objs.size s2.gens.size := hgen _ (by rw [h5h]; exact hpush)
    have b5 : AllBare s5.gens := by rw [h5g]; exact I2.bare.push rfl
    refine call_function_tree F.kind_all F.plain_all F.entry_all (F.args_all1 _) ?_
    unfold Builtin.«all»
    refine wpAny_bind (m := oneArg "all" _) (wpAny_pure ?_)
    refine wpAny_bind (wpAny_pyIter_gen g5 ?_)
    refine wpAny_pure ⟨plainId_quiet F.plain_all_loop _, ?_⟩
    generalize hG : gx X (ag X.A elt tg iter scope gpos it cenv) { s2 with heap := h3, toks := tk } H3 scope cenv fp [(h'.objs.size, go), p0] = G
    have back : ∀ {pins' : List (Addr × Obj)} {σ' : L2.St} {H' : Hp} {s1 s' : Shared}, Inv G pins' σ' H' s1 → Dozed s1 s' → Inv X pins σ H' s' := fun {pins' σ' H' s1 s'} I' d => by
      rw [← hG] at I'
      have I7 : Inv X pins σ H' s1 := I3.call' (ch := fp) I'.os I'.base I'.hok I'.bare fun b hb => ⟨(f3 b hb).1.2.2.2.1, (f3 b hb).1.2.1, (f3 b hb).1.2.2.2.2.1, (f3 b hb).1.2.2.2.2.2⟩
      exact Inv.dozed I7 d
    refine all_loopH (G := G) (QT := fun H' => Q (.bl true) H') (QF := fun H' => Q (.bl false) H') (x1 := p0.1) (fun s1 σ' H' I' => ⟨hh0, p0.2, v0, (by rw [← hG] at I'; exact (I'.pin p0 (List.mem_append_left _ (List.mem_cons_of_mem _ (List.mem_singleton.mpr rfl)))).1), e0, c0⟩) (by have := hr.dp; omega)
      (fun s' s1 σ' H' I' hq d => ⟨.bl true, H', back I' d, rfl, hq⟩) (fun s' s1 pins' σ' H' I' hq d => ⟨.bl false, H', back I' d, rfl, hq⟩)
      (fun s1 pins' σ' H' I' => hgen _ (by rw [← hG] at I'; exact (I'.pin (h'.objs.size, go) (List.mem_append_left _ List.mem_cons_self)).1))
      n₀ s5 g5 ?_ ⟨.fresh (.compStart (.GeneratorExp elt [⟨tg, iter, [], 0⟩] scope gpos) 0 (.ref it) .none cenv), by rw [h5g]; exact Array.getElem?_push_size .., rfl, ?_⟩
    · rw [h5h]
      exact I3.nolimit.keeps keep5
    -- the start
    have gset : AllBare (s5.setGen s2.gens.size .running).gens := allBare_setGen b5 rfl
    have IG : Inv G [] (wipe σ (own.map (·.2))) H3 (s5.setGen s2.gens.size .running) := by
      rw [← hG]
      refine gx_startH (s := { s2 with heap := h3, toks := tk }) (m0 := fun y => if y = ".0" then some (.ref it) else none) hce I3 S.blk S.cell hN f3 (frames_ag I.ok.frames) (fun hcal => I3.ok.hd hcal) h5o gset (fun b o e => ?_) ?_ fun p hp => ?_
      · show (s5.setGen s2.gens.size .running).heap.get? b = some o
        have e' : h3.get? b = some o := e
        show s5.heap.get? b = some o
        rw [h5h]; exact keep5 b o e'
      · show s5.heap.Ns h3.objs.size _
        rw [h5h]; exact hn'.push _
      · rcases List.mem_cons.mp hp with hp | hp
        · rw [hp]
          refine .inl ⟨?_, ?_, hgd⟩
          · show s5.heap.get? _ = _
            rw [h5h]; exact hpush
          · show h3.objs.size < h'.objs.size
            omega
        · rw [List.mem_singleton.mp hp]
          exact .inr hp0
    have stG : tn 0 (s5.setGen s2.gens.size .running).heap := T.keep _ _ _ st3 fun b hb o e => by
      show s5.heap.get? b = some o
      rw [h5h]; exact keep5 b o e
    have hcoE : cenv.scope.isCoroutine = false := by rw [← hce]; exact S.co
    have hpnf : ∀ p ∈ [(h'.objs.size, go), p0], ∀ b ∈ fp, p.1 ≠ b := fun p hp b hb z => by
      rcases List.mem_cons.mp hp with hp | hp
      case inr =>
        rw [List.mem_singleton.mp hp] at z
        exact (f3 b hb).1.2.2.2.2.2 p0 (List.mem_append_left _ hp0) z
      rw [hp] at z
      have h1 : b < h3.objs.size := (f3 b hb).2
      have z' : h'.objs.size = b := z
      rw [← z', hsz'] at h1
      exact Nat.lt_irrefl _ (Nat.lt_of_succ_lt h1)
    have hcG : HotC G := ⟨p0, ⟨by rw [← hG]; exact hh0, v0, e0, c0⟩, by rw [← hG]; exact List.mem_cons_of_mem _ (List.mem_singleton.mpr rfl)⟩
    have loop := seg_loopH (X := X) (A := X.A.in1.in1) (σ := σ) (vs := own.map (·.2)) (n₀ := n₀) (QT := fun H' => Q (.bl true) H') (QF := fun H' => Q (.bl false) H') (pn := [(h'.objs.size, go), p0]) (te := te) (g := g) (elt := elt) (tg := tg) (iter := iter) (pos := gpos) (scope := scope)
      G hG hcG hcoE T (by rw [← hG, ← hce]; exact hpg _ _ _ _ _ _ _ _) (by rw [← hG, ← hce] at *; exact hpe _ _ _ _ _ _ _ _ (room_agH hr) hcG) hpnf (wipe_length _ _) hW n₀ 0 (s5.setGen s2.gens.size .running) (s5.setGen s2.gens.size .running) H3 (Nat.sub_zero _) w0 IG stG fun b hb => (f3 b hb).1.1
    show Seg _ X.A.in1.in1 _ _ _ _ _ ((compStart (.GeneratorExp elt [⟨tg, iter, [], 0⟩] scope gpos) 0 (.ref it) .none cenv).onRaise (leaving cenv)) [] _
    unfold compStart
    rw [Sem.onRaise_eq_wrap]
    show Seg _ X.A.in1.in1 _ _ _ _ _ ((ask >>= _).wrap _ _ _ _) [] _
    refine seg_bind_wrap (wpAny_askSetting ?_)
    split
    · exact seg_again rfl loop
    · first
        | exact seg_bind_wrap (wpAny_rule (seg_bind_wrap (wpAny_standAt (seg_bind_wrap (T.self _ 0 _ _ _ stG (seg_again rfl loop))))))
        | (refine seg_bind_wrap (wpAny_rule ?_); show Seg _ X.A.in1.in1 _ _ _ _ _ ((standAt iter.pos >>= _).wrap _ _ _ _) [] _; exact seg_bind_wrap (wpAny_standAt (seg_bind_wrap (T.self _ 0 _ _ _ stG (seg_again rfl loop)))))
  cases hf : codeAmong gpos ps.toList with
  | none =>
    refine wpAny_genexprCodeX hcode (cd.code hPs ht) (cd.tab hPs) hf fun c' h' tk hx hge hlt hco' _ htab' _ => ?_
    obtain ⟨o1, vs, f1, tf, fl, tg', inF, tx, tt, op, _, _, _, _, _, _, _, _, _, htr, _⟩ := hco'
    exact cont _ h' tk _ hx (Nat.le_trans hge (Nat.le_of_lt hlt)) htab'.2 ⟨_, rfl⟩ htr
  | some cv =>
    refine wpAny_genexprCode_hit hcode (cd.code hPs ht) hf ?_
    exact cont cv s2.heap s2.toks ps (Heap.ExtBut.refl _ _) (Nat.le_refl _) hPs ⟨#[], by simp⟩ ht
end
end HX
set_option linter.all false
set_option maxRecDepth 100000
set_option maxHeartbeats 4000000
/-! Readings while an exception is handled. -/
namespace HX
open PySem PySem.Spec PyProof.Rows L2 GenW GxR GA HotX L2H FL
section
variable {prog : Program} {w : World} {A : Around} {E : Value → Shared → Prop} {s : Shared}
theorem next_list_end_hot {it l x1 : Addr} {i : Nat} {items : Array Value} {Q : Option Value → Shared → Prop} (hot : HotAt A x1 s.heap)
    (hit : s.heap.IsListIter it l i) (hl : s.heap.IsList l items) (hx : items[i]? = none)
    (hQ : ∀ h', Heap.ExtBut it s.heap h' → Q none { s with heap := h' }) : wpAny (model prog w) A (pyNext (.ref it)) Q E s := by
  obtain ⟨o, ho, hc, hd⟩ := id hit
  obtain ⟨ol, hol, _, nl, hdl⟩ := hl
  unfold pyNext
  refine wpAny_bind (wpAny_attempt (wpAny_callSpecial?_slot (name := Str.ofString "__next__") hit.typeIs slot_listiter_next
    (wpAny_call_entry slot_listiter_next hit.typeIs entry_listiter_next ?_ (args_listiter_next _))))
  show wpAny _ _ (field (.ref it) 0 >>= _) _ _ s
  refine wpAny_bind (wpAny_field ho hd (x := .ref l) rfl ?_)
  show wpAny _ _ (if (Value.ref l == Value.none) = true then _ else _) _ _ s
  rw [if_neg (show ¬ ((Value.ref l == Value.none) = true) from Bool.false_ne_true)]
  show wpAny _ _ (field (.ref it) 1 >>= _) _ _ s
  refine wpAny_bind (wpAny_field ho hd (x := .int i 0) rfl ?_)
  show wpAny _ _ (seqItems? (.ref l) >>= _) _ _ s
  refine wpAny_bind (wpAny_seqItems hol hdl ?_)
  simp only [Int.toNat_natCast, hx]
  refine wpAny_bind (wpAny_rule (wpAny_bind (wpAny_setField ho hd (by simp) ?_)))
  show wpAny _ _ (newExc (.type "StopIteration") [] >>= _) _ _ _
  refine wpAny_bind ?_
  simp only [newExc, newTuple]
  refine wpAny_bind (wpAny_newObj_type ?_ (by size_fits))
  refine wpAny_bind (m := firstArgMember _ _) (wpAny_of_eq (a := Value.none) (by first | rfl | (simp only [firstArgMember]; rfl)) ?_)
  refine wpAny_newObj_type ?_ (by size_fits)
  obtain ⟨hh, o1, vs1, h1, d1, c1⟩ := hot_upd (f := Obj.mapFields fun vs => vs.setIfInBounds 0 .none) hot ho hd (by simp)
  refine raiseNew_hot ⟨hh, o1, vs1, Heap.get?_push_of_some _ (Heap.get?_push_of_some _ h1), d1, c1⟩ (Nat.ne_of_lt (Heap.lt_size (Heap.get?_push_of_some _ h1))) (Heap.get?_push_size _ rfl) rfl (by first | (simp; done) | (simp; omega) | (simp only [Array.size_append]; simp; omega)) ?_
  refine wpAny_bind (wpAny_isInstance (T := "StopIteration") (b := true) ⟨_, Heap.get?_update_self _ (Heap.get?_push_size _ rfl) rfl, rfl⟩ isSubtype_stop ?_)
  refine wpAny_pure (hQ _ fun b o hb e => ?_)
  have e2 : (s.heap.update it (Obj.mapFields fun vs => vs.setIfInBounds 0 .none)).get? b = some o := (Heap.get?_update_other _ _ (Ne.symm hb)).trans e
  rw [Heap.get?_update_other _ _ (Nat.ne_of_gt (Heap.lt_size (Heap.get?_push_of_some _ e2)))]
  exact Heap.get?_push_of_some _ (Heap.get?_push_of_some _ e2)
end
theorem turn_listH {P : Program} {w : World} {K : PySem.W.Frag} {tg : Expr} (a it : Addr) : TurnH P w K tg (Itl K a) [it] it (fun i h => h.IsListIter it a i) where
  mem := by simp
  obj := fun i h st b hb => by
    have e : b = it := by simpa using hb
    subst e
    obtain ⟨o, e, c, d⟩ := st
    exact ⟨o, e, fun v z => by rw [d] at z; cases z⟩
  keep := fun i h h' st k => st.at fun o e => k it (by simp) o e
  item := by
    intro X hP hw hK hc i pins s σ H E I hf st hg
    subst hP hw hK
    obtain ⟨xs, x, hq, hx⟩ := hg
    obtain ⟨its, rv, p, hz⟩ := I.list hq
    obtain ⟨u, hu, ru⟩ := rv.get hx
    obtain ⟨f0, f1, f2, f3, f4, f5⟩ := hf it (by simp)
    refine wpAny_pyNext_list_item st p.isList (x := u) (by simpa using hu) fun h' st' sb => ?_
    have I1 : Inv X pins σ H { s with heap := h' } := I.turned (t' := s.toks) (fun b o hb e => (sb.2 b hb).trans e) f0 f1 f3 f4 f5
    obtain ⟨o, e, c, d⟩ := id st'
    exact ⟨u, rfl, go_of (s := { s with heap := h' }) e c d (by decide) ⟨x, H, I1, ru, ⟨rfl, fun ys hy => by rw [I.list_inj hy hq]; exact hx⟩, st', fun b hb => (hf b hb).1⟩⟩
  done := by
    intro X hP hw hK hc i pins s σ H E I hf st hg
    subst hP hw hK
    obtain ⟨xs, hq, hx⟩ := hg
    obtain ⟨its, rv, p, hz⟩ := I.list hq
    obtain ⟨f0, f1, f2, f3, f4, f5⟩ := hf it (by simp)
    have hl := rv.length
    obtain ⟨x1, hot⟩ := hc.at I
    exact next_list_end_hot hot st p.isList (by simp; omega) fun h' eb => ⟨rfl, I.turned (t' := s.toks) (fun b o hb e => eb b o hb e) f0 f1 f3 f4 f5⟩
  self := fun _ _ _ _ _ st h => wpAny_pyIter_listiter st h
theorem pi_listH {X : Cx} {tg l : Expr} {tl : TE} (hl : PE X l tl) : PIH X tg l (iList X.K tl) := by
  refine ⟨fun pins s σ H R I h => ?_⟩
  refine thn (hl.run pins s σ H _ I h) fun v s1 ⟨x, H1, I1, r1, q1⟩ => ?_
  obtain ⟨a, e, ⟨xs, hq⟩, q⟩ := q1
  subst e
  cases r1
  obtain ⟨its, rv, p, hz⟩ := I1.list hq
  refine wpAny_pyIter_list p.isList ?_
  exact pi_oneH (tk := s1.toks) I1 _ (turn_listH a _) ⟨_, Heap.get?_push_size _ rfl, rfl, rfl⟩ q
abbrev SIH (p : Pm) (X : Cx) (tg iter : Expr) (fi : AF) : Prop := PIH X tg iter (tI p fi)
section
variable {p : Pm} {X : Cx} (hK : p.K = X.K) {tg e : Expr} {f : EF}
include hK in
theorem siH_seq (ha : SE p X e f) : SIH p X tg e (iSeq f) := ⟨fun pins s σ H R I ⟨env, dr, ts, dr', hR, hO, hf, q⟩ => by
  unfold iSeq at hf
  split at hf
  · rename_i us dr1 h1
    cases hf
    refine (pi_tupH ha).run pins s σ H R I ⟨env, dr, _, _, hR, hO, h1, fun v H1 e1 r1 o1 => ?_⟩
    obtain ⟨c, vs, rfl, hh, s1⟩ := r1
    exact ⟨c, rfl, ⟨vs, hK ▸ hh⟩, hK ▸ q _ H1 e1 o1 (it_tup hh s1)⟩
  · rename_i us dr1 h1
    cases hf
    refine (pi_listH ha).run pins s σ H R I ⟨env, dr, _, _, hR, hO, h1, fun v H1 e1 r1 o1 => ?_⟩
    obtain ⟨c, vs, rfl, hh, n1, s1⟩ := r1
    exact ⟨c, rfl, ⟨vs, .inl (.inl hh)⟩, hK ▸ q _ H1 e1 o1 (it_list (.inl ⟨.inl hh, n1⟩) s1)⟩
  · rename_i us dr1 h1
    cases hf
    refine (pi_listH ha).run pins s σ H R I ⟨env, dr, _, _, hR, hO, h1, fun v H1 e1 r1 o1 => ?_⟩
    obtain ⟨c, vs, rfl, hh, s1⟩ := r1
    exact ⟨c, rfl, ⟨vs, hK ▸ hh.sq⟩, hK ▸ q _ H1 e1 o1 (it_list hh s1)⟩
  · rename_i us dr1 h1
    cases hf
    refine (pi_strH ha).run pins s σ H R I ⟨env, dr, _, _, hR, hO, h1, fun v H1 e1 r1 o1 => ?_⟩
    obtain ⟨x, rfl, ex⟩ := r1
    subst ex
    exact ⟨x, rfl, q _ H1 e1 o1 it_str⟩
  · cases hf⟩
end
section
variable {p : Pm} {X : Cx} {tg : Expr}
theorem siH_rng1 {a : Expr} {f : EF} {pp pos : Pos} (hm : X.mg "range" = none) (ha : SE p X a f) (hg : Gl X "range" := by rfl) (hs : starEach [a] X.env = [(false, eval a X.env)] := by rfl) : SIH p X tg (.Call (.Name "range" pp) [a] [] pos) (FL.iRng1 f) := ⟨fun pins s σ H R I ⟨env, dr, ts, dr', hR, hO, hf, q⟩ => by
  unfold FL.iRng1 at hf
  split at hf
  · rename_i j dr1 h1
    split at hf
    · rename_i hz
      cases hf
      refine (pi_range1H hg hm (pa_cons ha pa_nil hs) hs).run pins s σ H R I ⟨env, dr, _, _, hR, hO, h1, fun v H1 e1 r1 o1 => ?_⟩
      exact ⟨j, by rw [show v = _ from r1], hz.1, hz.2, q _ H1 e1 o1 it_rng⟩
    · cases hf
  · cases hf⟩
theorem siH_rng2 {a b : Expr} {f g : EF} {pp pos : Pos} (hm : X.mg "range" = none) (ha : SE p X a f) (hb : SE p X b g) (hg : Gl X "range" := by rfl) (hs : starEach [a, b] X.env = [(false, eval a X.env), (false, eval b X.env)] := by rfl) (hs2 : starEach [b] X.env = [(false, eval b X.env)] := by rfl) :
    SIH p X tg (.Call (.Name "range" pp) [a, b] [] pos) (FL.iRng2 f g) := ⟨fun pins s σ H R I ⟨env, dr, ts, dr', hR, hO, hf, q⟩ => by
  unfold FL.iRng2 at hf
  split at hf
  · rename_i i dr1 h1
    split at hf
    · rename_i j dr2 h2
      split at hf
      · rename_i hz
        cases hf
        refine (pi_range2H hg hm (pa_cons ha (pa_cons hb pa_nil hs2) (by rw [hs, hs2])) hs hs2).run pins s σ H R I ⟨env, dr, _, _, hR, hO, h1, fun v H1 e1 r1 o1 => ⟨env, dr1, _, _, hR.ext e1, o1, h2, fun u H2 e2 r2 o2 => ?_⟩⟩
        exact ⟨i, j, by rw [show v = _ from r1, show u = _ from r2], ⟨hz.1.1, hz.1.2, hz.2.1, hz.2.2⟩, q _ H2 (e1.trans e2) o2 it_rng⟩
      · cases hf
    · cases hf
  · cases hf⟩

end
section
variable {p : Pm} {X : Cx} {u : SF} {pos : Pos}
theorem ss_forH {tg iter : Expr} {body : List Stmt} {fi : AF} {gg : TG} {bb : BF} {vs : List Nat} (hgb : GOk p X gg bb vs) (hp : PassesOwn (model X.prog X.w) X.A X.env X.xe) (hc : HotC X) (hi : SIH p X tg iter fi) (hg : PG X tg gg) (hb : SSs p X body u)
    (hs : ∀ x, foldedSetIterable iter X.env x = pure x := by intro _; rfl) : SS p X (.For tg iter body [] pos) (sFor fi bb u) := ps_imp (ps_forH hp hc hi hg hb hs) fun D σ H ⟨env, dr, o, dr', hR, hO, hf, q⟩ => by
  unfold sFor at hf
  cases h1 : fi env dr with
  | none => rw [h1] at hf; cases hf
  | some z =>
    obtain ⟨ts, dr1⟩ := z
    rw [h1] at hf
    dsimp only at hf
    refine ⟨env, dr, ts, dr1, hR, hO, h1, fun J H1 e1 o1 hJ => ?_⟩
    refine ⟨fun i m σ2 H2 => ∃ env2 dr2, m = ts.length - i ∧ i ≤ ts.length ∧ Ext p H1 H2 ∧ Ok p H2 dr2 ∧ RelS p H2 σ2 env2 ∧ forGo bb u (ts.drop i) env2 dr2 = some (o, dr'),
      ⟨ts.length, env, dr1, by simp, Nat.zero_le _, .refl, o1, hR.ext e1, by rw [List.drop_zero]; exact hf⟩, ?_⟩
    rintro i m σ2 H2 ⟨env2, dr2, rfl, hi2, e2, o2, rs, go⟩
    obtain ⟨jgo, jstop⟩ := hJ p.ex (fun a ha => .inl ha) H2 e2 i
    rcases Nat.lt_or_ge i ts.length with hlt | hge
    · right
      obtain ⟨j1, j2⟩ := jgo ts[i] (List.getElem?_eq_getElem hlt)
      have hdrop : ts.drop i = ts[i] :: ts.drop (i + 1) := List.drop_eq_getElem_cons hlt
      rw [hdrop] at go
      refine ⟨j1, fun σ3 H3 => ∃ env2 dr2, Ext p H1 H3 ∧ Ok p H3 dr2 ∧ RelS p H3 σ3 env2 ∧ forGo bb u (ts.drop (i + 1)) env2 dr2 = some (o, dr'),
        fun σ3 H3 ⟨a1, a2, b1, b2, b3, b4⟩ => ⟨ts.length - (i + 1), by omega, a1, a2, rfl, hlt, b1, b2, b3, b4⟩, fun x H3 yx => ?_⟩
      obtain ⟨s3, rx⟩ := j2 x H3 yx
      unfold forGo at go
      cases hb' : bb ts[i] env2 with
      | none => rw [hb'] at go; cases go
      | some env1 =>
        rw [hb'] at go
        dsimp only at go
        refine hgb p.ex ts[i] x σ2 H3 env2 env1 _ rx (rs.ext (.same s3)) hb' fun σ4 rs4 _ => ?_
        have e13 : Ext p H1 H3 := e2.trans (.same s3)
        split at go
        · cases go
        · rename_i env5 dr5 hu
          exact ⟨env1, dr2, _, dr5, rs4, o2.same s3, hu, fun σ' H' e' r' o' => ⟨env5, dr5, e13.trans e', o', r', go⟩⟩
        · rename_i env5 dr5 hu
          exact ⟨env1, dr2, _, dr5, rs4, o2.same s3, hu, fun σ' H' e' r' o' => ⟨env5, dr5, e13.trans e', o', r', go⟩⟩
        · rename_i env5 dr5 hu
          cases go
          exact ⟨env1, dr2, _, _, rs4, o2.same s3, hu, fun σ' H' e' r' o' => q σ' H' (e1.trans (e13.trans e')) r' o'⟩
        · rename_i t5 dr5 hu
          cases go
          exact ⟨env1, dr2, _, _, rs4, o2.same s3, hu, fun v' H' e' r' o' => q v' H' (e1.trans (e13.trans e')) r' o'⟩
    · left
      have hie : i = ts.length := by omega
      rw [hie, List.drop_length] at go
      cases go
      exact ⟨jstop hie, q σ2 H2 (e1.trans e2) rs o2⟩
end
section
variable {p : Pm} {X : Cx} {tg elt iter : Expr} {scope : Scope} {own : List (Str × Nat)} {pos : Pos} {fi : AF} {f : EF}
theorem se_allGH {P cA : Addr} {g : TG} {b : BF} {k : Nat} {pp gpos : Pos} (hgb : GOk p X g b (own.map (·.2))) (hP : P ∈ p.tabs) (hc : HotC X) (hN : X.N.Nodup) (hr : RoomH (k + 1) X.A) (hm : X.mg "all" = none) (TB : TabB X.base X.mg cA P) (hcode : X.env.code = .ref cA)
    (S : GenO X scope own) (hi : SIH p X tg iter fi)
    (hpg : ∀ (A' : Around) (s : Shared) (H : Hp) (C : Addr) (cl : List (Str × Addr)) (code : Value) (fp : List Addr) (pn : List (Addr × Obj)), PG (gx X A' s H scope (genEnv scope cl C code builtinsNs X.env) fp pn) tg g)
    (hpe : ∀ (A' : Around) (s : Shared) (H : Hp) (C : Addr) (cl : List (Str × Addr)) (code : Value) (fp : List Addr) (pn : List (Addr × Obj)), RoomH k A' → HotC (gx X A' s H scope (genEnv scope cl C code builtinsNs X.env) fp pn) → SE p (gx X A' s H scope (genEnv scope cl C code builtinsNs X.env) fp pn) elt f)
    (hg : Gl X "all" := by rfl) (hs : ∀ v, genFold iter X.env v = pure v := by intro _; rfl)
    (he : starEach [.GeneratorExp elt [⟨tg, iter, [], 0⟩] scope gpos] X.env = (false, eval (.GeneratorExp elt [⟨tg, iter, [], 0⟩] scope gpos) X.env) :: starEach [] X.env := by rfl) :
    SE p X (.Call (.Name "all" pp) [.GeneratorExp elt [⟨tg, iter, [], 0⟩] scope gpos] [] pos) (allG fi b f (own.map (·.2))) :=
  pe_imp (pe_allGH hc hN hr hg hm (by decide +kernel) TB hcode S hi hpg hpe hs he) fun σ H Q ⟨env, dr, t, dr', hR, hO, hf, q⟩ => by
    unfold allG at hf
    cases h1 : fi env dr with
    | none => rw [h1] at hf; cases hf
    | some z =>
      obtain ⟨ts, dr1⟩ := z
      rw [h1] at hf
      dsimp only at hf
      refine ⟨env, dr, ts, dr1, hR, hO, h1, fun J H1 e1 o1 hJ => ⟨o1.2.1 P hP, fun H2 tb => ?_⟩⟩
      have e12 : Ext p H1 H2 := Ext.tabbed (o1.2.1 P hP) tb
      have o2 := o1.tabbed (o1.2.1 P hP) tb
      refine ⟨ts.length, fun i H3 => ∃ dr3, i ≤ ts.length ∧ Ext p H1 H3 ∧ Ok p H3 dr3 ∧ RelS p H3 (wipe σ (own.map (·.2))) (wipeE env (own.map (·.2))) ∧ allGo b f (wipeE env (own.map (·.2))) (ts.drop i) dr3 = some (t, dr'),
        ⟨dr1, Nat.zero_le _, e12, o2, ((hR.ext e1).ext e12).wipe _, by rw [List.drop_zero]; exact hf⟩, ?_⟩
      rintro i H3 ⟨dr3, hi3, e13, o3, rs, go⟩
      obtain ⟨jgo, jstop⟩ := hJ p.ex (fun a ha => .inl ha) H3 e13 i
      rcases Nat.lt_or_ge i ts.length with hlt | hge
      · right
        obtain ⟨j1, j2⟩ := jgo ts[i] (List.getElem?_eq_getElem hlt)
        have hdrop : ts.drop i = ts[i] :: ts.drop (i + 1) := List.drop_eq_getElem_cons hlt
        rw [hdrop] at go
        refine ⟨hlt, j1, fun v H4 yv => ?_⟩
        obtain ⟨s4, rv⟩ := j2 v H4 yv
        unfold allGo at go
        cases hb : b ts[i] (wipeE env (own.map (·.2))) with
        | none => rw [hb] at go; cases go
        | some env1 =>
          rw [hb] at go
          dsimp only at go
          refine hgb p.ex ts[i] v _ H4 _ env1 _ rv (rs.ext (.same s4)) hb fun σ2 rs2 hw2 => ⟨?_, ?_⟩
          · rw [hw2]
            exact wipe_idem _ _
          split at go
          · rename_i dr4 hf4
            cases go
            exact ⟨env1, dr3, _, _, rs2, o3.same s4, hf4, fun w H5 e5 r5 o5 => ⟨false, r5, fun _ => q _ H5 (e1.trans (e13.trans ((Ext.same s4).trans e5))) rfl o5, fun z => by cases z⟩⟩
          · rename_i dr4 hf4
            exact ⟨env1, dr3, _, dr4, rs2, o3.same s4, hf4, fun w H5 e5 r5 o5 => ⟨true, r5, And.intro (fun z => nomatch z) (fun _ => ⟨dr4, hlt, e13.trans ((Ext.same s4).trans e5), o5, rs.ext ((Ext.same s4).trans e5), go⟩)⟩⟩
          · cases go
      · left
        have hie : i = ts.length := by omega
        rw [hie, List.drop_length] at go
        cases go
        exact ⟨hie, jstop hie, q _ H3 (e1.trans e13) rfl o3⟩
end
section
variable {p : Pm} {X : Cx} {f : Addr} {fd : FuncData} {ps : List Str} {k j n : Nat} {φ : Phi} {x : Str} {pp pos : Pos} {e : Expr} {es : List Expr} {l : AF}
theorem passAt0 {X : Cx} (σ : L2.St) : PassesAt L2.CX0 X σ (fun _ _ _ => False) := fun _ _ _ _ _ _ h => h.elim
theorem se_callH (F : FnH X.prog X.w X.K X.mg X.base L2.CX0 k f fd ps (spF p n φ)) (hr : RoomH j X.A) (hkj : k ≤ j) (hc : HotC X) (hm : X.mg x = some (.ref f)) (hk : PySem.W.keepIn X.K (.ref f) = true) (hb : Binds X.K fd ps []) (ha : SA p X (e :: es) l) (hg : Gl X x := by rfl)
    (hdb : (x == ("__debug__" : Str)) = false := by decide) (he : starEach (e :: es) X.env = (false, eval e X.env) :: starEach es X.env := by rfl) (hpl : (backTo pos (starEach es X.env)).any (·.1) = false := by rfl) :
    SE p X (.Call (.Name x pp) (e :: es) [] pos) (eCall n φ l) := pe_imp (pe_callH (E := fun _ => L2.E0) F (hr.mono hkj) hc hg hm hk hb (fun σ => passAt0 σ) ha hdb he hpl) fun σ H Q h => by
  have h' := tC_call σ H Q h
  unfold tCall at h'
  unfold tCallS
  obtain ⟨env, dr, ts, dr', hR, hO, hf, q⟩ := h'
  exact ⟨env, dr, ts, dr', hR, hO, hf, fun vs H' e' r' o' => by have h2 : spF p n φ (vs ++ []) H' Q E0 := q vs H' e' r' o'; rw [List.append_nil] at h2; exact h2⟩
theorem spF_exH {ex : List Addr} {P : Program} {w : World} {K : PySem.W.Frag} {mg : Str → Option Value} {base : Heap} {CX : CXT} (F : FnH P w K mg base CX k f fd ps (spF p n φ)) : FnH P w K mg base CX k f fd ps (spF { p with ex := ex } n φ) :=
  ⟨fun vs H Q E h => F.len vs H Q E h, fun A outer s H args us vs Q E q hr hot hp e0 hb r h => F.run A outer s H args us vs Q E q hr hot hp e0 hb r h⟩
theorem FnH.none' {P : Program} {w : World} {K : PySem.W.Frag} {mg : Str → Option Value} {base : Heap} {CX : CXT} : FnH P w K mg base CX k f fd ps (spF p n fun _ _ => none) :=
  ⟨fun vs H Q E ⟨_, _, _, _, _, _, _, _, h, _⟩ => (nomatch h), fun A outer s H args us vs Q E q hr hot hp e0 hb r ⟨_, _, _, _, _, _, _, _, h, _⟩ => (nomatch h)⟩
variable {P : Program} {w : World} {K : PySem.W.Frag} {mg : Str → Option Value} {base : Heap} {fA cA : Addr} {N : List Str} {u : SF} {st : Stmt}
theorem fn_okH (F : FunC K x st fA fd cA) (S : FnScope N ps (defScope st)) {p : Pm}
    (hbody : ∀ (A : Around) (outer : List PySem.Env) (s : Shared) (H : Hp) (E : XK) (ex : List Addr) (q : Addr × Obj), RoomH k (A.deeper (envOfC x (defScope st) s.heap.objs.size fA (.ref cA))) → HotC (cxH L2.CX0 P w K mg base N x (defScope st) fA (.ref cA) A outer s H E q).nox →
      SSs (p.w ex) (cxH L2.CX0 P w K mg base N x (defScope st) fA (.ref cA) A outer s H E q).nox (defBody st) u) :
    FnH P w K mg base L2.CX0 (k + 1) fA fd ps (spF p ps.length (runF N.length ps.length u)) := by
  obtain ⟨oc, od, kV, doc, pm, an, ct, osl, rfl, lk, hcd⟩ := F.ex
  refine fn_ofH lk hcd S (fun vs H Q E ⟨ex, ts, dr, t, dr', hn, r, _⟩ => by rw [r.length, hn]) fun A outer s H vs Q E q0 hot hr ⟨ex, ts, dr, t, dr', hn, r, o, hf, q⟩ => ?_
  have hC : HotC (cxH L2.CX0 P w K mg base N x (defScope st) fA (.ref cA) A outer s H E q0).nox := ⟨q0, hot, List.mem_singleton.mpr rfl⟩
  unfold runF at hf
  rw [← hn] at hf
  split at hf
  · rename_i t1 dr1 h1
    cases hf
    exact ⟨_, (hbody A outer s H E ex q0 hr hC).nox, _, dr, _, _, rel_start r, o, h1, fun v H' e' r' o' => q v H' e' r' o'⟩
  · rename_i en dr1 h1
    cases hf
    exact ⟨_, (hbody A outer s H E ex q0 hr hC).nox, _, dr, _, _, rel_start r, o, h1, fun σ' H' e' _ o' => q .non H' e' rfl o'⟩
  · cases hf
end
end HX
set_option linter.all false
set_option maxRecDepth 100000
set_option maxHeartbeats 2000000
theorem _root_.L2H.RoomH.units {k : Nat} {A : PySem.Around} (r : L2H.RoomH k A) : A.units + 64 < PySem.cLine := HX.RoomH.units r
set_option linter.all false
set_option maxRecDepth 100000
set_option maxHeartbeats 4000000
/-! Own exceptions raised, caught, looked at in the suite. -/
namespace XX
open PySem PySem.Spec PyProof.Rows L2 GxR GA FL EXO HotX L2H
section
variable {X : Cx} {e : Expr} {es : List Expr} {ta : TA} {te : TE} {x : Str} {C fI : Addr} {k : Nat} {ns : List (Str × Nat)} {p pos : Pos} {f : Str}
def tMkE (C : Addr) (k : Nat) (ns : List (Str × Nat)) (ta : TA) : L2.St → Hp → XK → Prop := fun σ H Q => ta σ H fun vs H1 => vs.length = k ∧ ∀ d, H1 d = none → Q (.ref C) (some d) (upd H1 d (exd d (fl ns vs)))
theorem pmk_e (T : ExC X.K C) (tyC : PySem.W.typeIn X.K (.ref C) = some (.type "type")) (iC : PySem.W.findIn X.K (.ref C) "__init__" = some (some (.ref fI))) (tC : PySem.W.typeIn X.K (.ref fI) = some (.type "function")) (J : Ini X.prog X.w X.K C fI k ns) (hk : k ≤ 1000) (hr : Room 1 X.A)
    (hg : Gl X x) (hm : X.mg x = some (.ref C)) (ha : PA X (e :: es) ta) (hdb : (x == ("__debug__" : Str)) = false := by decide)
    (he : starEach (e :: es) X.env = (false, eval e X.env) :: starEach es X.env := by rfl) (hpl : (backTo pos (starEach es X.env)).any (·.1) = false := by rfl) :
    L2N.PMk X (.Call (.Name x p) (e :: es) [] pos) (tMkE C k ns ta) := by
  intro pins s σ H Q I h
  refine wpAny_Call_Name_kw (ld_glob I hg hm ?_ hdb)
  refine PySem.W.callWith_K (h₀ := X.base) I.ok.mod.kin T.kC (thn (ha.run pos pins s σ H _ I h) fun us s1 ⟨vs, H1, I1, r1, hl, q⟩ => ⟨I1.kIn, ?_⟩) he hpl
  have hul : us.length = k := r1.length.symm.trans hl
  show wpAny _ _ (call (.ref C) us) _ _ _
  have hlim := I1.nolimit
  obtain ⟨hp, g, dr, tk, os⟩ := s1
  refine wpAny_call (made (s := ⟨hp, g, dr, tk, os⟩) T iC tC J hul (by rw [hul, sizeLine_eq]; omega) I1.kIn hlim (by have := hr.dp; omega) fun h' tk' e d M => ?_)
  obtain ⟨G', g1, g2⟩ := restrict h' fun b => decide (b ≠ e)
  have gk : ∀ b, b ≠ e → G'.get? b = h'.get? b := fun b hb => g1 b (decide_eq_true hb)
  have ge : G'.get? e = none := g2 e (by simp)
  have old : ∀ b o, hp.get? b = some o → G'.get? b = some o := fun b o q => (gk b (Nat.ne_of_lt (Nat.lt_of_lt_of_le (Heap.lt_size q) M.new))).trans (M.keep b o q)
  have ob : ObjOk X.prog X.w (upd H1 d (exd d (fl ns vs))) G' d (exd d (fl ns vs)) := exd_ok (M.ns.at fun o q => (gk d M.dne).trans q) (fl_rel r1 ns)
  have J1 : Inv X pins σ (upd H1 d (exd d (fl ns vs))) ⟨G', g, dr, tk', os⟩ := I1.laid (t' := tk') old M.dbig ob
  have hfe : H1 e = none := I1.hok.fresh M.new
  have hfd : H1 d = none := I1.hok.fresh M.dbig
  obtain ⟨t1, hob⟩ := M.obj
  exact ⟨e, _, _, ⟨G', g, dr, tk', os⟩, _, .ref C, some d, rfl, J1, fun b o q => by
      by_cases hb : b = e
      · rw [hb] at q
        have q' : G'.get? e = some o := q
        rw [ge] at q'; cases q'
      · exact (gk b hb).symm.trans q, ge, hob, ⟨rfl, rfl, fun vs z => by cases z; rfl⟩, rfl, rfl, by rw [upd_ne (Ne.symm M.dne)]; exact hfe, rfl, I1.bare, raises_own T.exC tyC, q d hfd⟩
end
/-- isinstance(e, c), e the exception that the suite holds -/
def rIsc (K : PySem.W.Frag) (a : Addr) (cls : Value) (d : Option Addr) : List V → Hp → VK → Prop := fun xs H Q => ∃ (C dd : Addr) (fs : List (Str × V)) (c : V) (u : Value) (b : Bool), cls = .ref C ∧ ExC K C ∧ xs = [.ref a, c] ∧ d = some dd ∧ ClsV c u ∧ H dd = some (exd dd fs) ∧ PySem.W.kitOne K (.ref C) u = some b ∧ Q (.bl b) H
theorem call_isc {X : Cx} {a : Addr} {cls : Value} {oe : Obj} {d : Option Addr} {pn : List (Addr × Obj)} (hz : Zc cls d oe) (hf : ∃ vs, oe.data = .fields vs) : CallR (X.suite a ((a, oe) :: pn)) (.builtin "isinstance") (rIsc X.K a cls d) := by
  intro pins s σ H xs us Q I r h
  obtain ⟨C, dd, fs, c, u, b, rfl, T, rfl, rfl, k, ed, e, q⟩ := h
  obtain ⟨u1, u2, rfl, r1, r2⟩ := vals2 r
  have e2 := k.eq r2
  subst e2
  obtain rfl : u1 = Value.ref a := r1
  obtain ⟨ha, _⟩ := I.pin (a, oe) (List.mem_append_left _ List.mem_cons_self)
  obtain ⟨vs, hd⟩ := hf
  obtain ⟨mA, hns, rel⟩ := exd_at I.hok ed
  obtain ⟨od, ho, hl⟩ := lookIn_ns hns
  have J : PySem.W.InstAt s.heap a oe C (some od) := ⟨ha, hz.1, by unfold PySem.W.notCls; rw [hd] <;> rfl, by rw [hz.2]; exact ho⟩
  exact PySem.W.kia_one (PySem.W.kitx_exc T.cl T.ga T.gg T.exC T.ha T.hn T.tk T.mo) I.kIn J e (fun z => nomatch z) fun tk => ⟨.bl b, H, I.tok tk, rfl, q⟩
theorem hot_suite {X : Cx} {a : Addr} {cls : Value} {oe : Obj} {d : Option Addr} {pn : List (Addr × Obj)} (hz : L2N.Zn cls d oe) (hf : ∃ vs, oe.data = .fields vs) : HotC (X.suite a ((a, oe) :: pn)) := by
  obtain ⟨vs, hd⟩ := hf
  exact ⟨(a, oe), ⟨rfl, vs, hd, hz.2.2 vs hd⟩, List.mem_cons_self⟩
theorem room_suite {X : Cx} {a : Addr} {pn : List (Addr × Obj)} {j : Nat} (hr : Room j X.A) : RoomH j (X.suite a pn).A := ⟨hr.dp, hr.un⟩
theorem takes_noneN {X : Cx} : L2N.Takes X (fun _ _ _ _ => False) := fun _ _ ⟨_, _, _, _, _, _, _, _, _, _, _, _, _, _, _, _, w⟩ => w.elim
theorem RelS.hide {p : Pm} {H : Hp} {σ : L2.St} {env : FL.Env} (h : RelS p H σ env) (x : Option V) (i : Nat) : RelS p H (σ.set i x) (env.set i none) := by
  refine ⟨by rw [List.length_set, List.length_set]; exact h.1, fun j t q => ?_⟩
  by_cases e : i = j
  · subst e
    have hl : i < env.length := by
      have := (List.getElem?_eq_some_iff.mp q).1
      simpa using this
    rw [List.getElem?_set_self hl] at q
    cases q
  · rw [List.getElem?_set_ne e] at q
    obtain ⟨w, a, b⟩ := h.2 j t q
    exact ⟨w, by rw [List.getElem?_set_ne e]; exact a, b⟩
end XX
set_option linter.all false
set_option maxRecDepth 100000
set_option maxHeartbeats 2000000
namespace K01
open PySem PySem.Spec PyProof.Rows L2 GxR GA EXO FL
def top (i : Nat) : Stmt := PySem.Challenge.pw_readagain_k01_taken_sorts.main.body.getD i (.Pass ⟨0, 0, 0, 0⟩)
abbrev FnF (P : Program) (w : World) (K : PySem.W.Frag) (mg : Str → Option Value) (base : Heap) (k : Nat) (f : Addr) (fd : FuncData) (ps : List Str) (p : Pm) (φ : Phi) : Prop := FnOk P w K mg base L2.CX0 k f fd ps (spF p ps.length φ)
section
variable {P : Program} {w : World} {K : PySem.W.Frag} {mg : Str → Option Value} {base : Heap} {f cA : Addr} {fd : FuncData} {p : Pm}
abbrev s_is_integer : Stmt := top 5
def u_is_integer : SF := sRet (eAnd (eB (isiF isiInt) (aCons (eVar 0) aNil)) (eNot (eB (isiF isiBool) (aCons (eVar 0) aNil))))
def φ_is_integer : Phi := runF 1 1 u_is_integer
theorem sc_is_integer : FnScope ["thing"] ["thing"] (defScope s_is_integer) := ⟨rfl, rfl, rfl, by decide +kernel, rfl, by decide +kernel, by decide +kernel⟩
theorem ok_is_integer (hK : p.K = K) (F : FunC K "is_integer" s_is_integer f fd cA)
    (z_isinstance : mg "isinstance" = none)
    (z_int : mg "int" = none)
    (z_bool : mg "bool" = none) :
    FnF P w K mg base 1 f fd ["thing"] p φ_is_integer := by
  refine fn_okC F sc_is_integer fun A outer s H E ex hr => ?_
  have hu := hr.units
  exact ss_one (ss_ret (se_and (se_isi hK isi_int (se_var (pv 0)) (pe_bltn rfl z_int PyProof.Rows.Boot.«int» rfl) z_isinstance) (se_one (se_not (se_isi hK isi_bool (se_var (pv 0)) (pe_bltn rfl z_bool PyProof.Rows.Boot.«bool» rfl) z_isinstance)))))
abbrev s_is_number : Stmt := top 6
def u_is_number : SF := sRet (eAnd (eCall 1 φ_is_integer (aCons (eVar 0) aNil)) (eAnd (eBin cGe (eVar 0) (eVar 1)) (eOr (eBin cIs (eVar 2) (eC .non)) (eBin cLe (eVar 0) (eVar 2)))))
def φ_is_number : Phi := runF 3 3 u_is_number
theorem sc_is_number : FnScope ["thing", "least", "most"] ["thing", "least", "most"] (defScope s_is_number) := ⟨rfl, rfl, rfl, by decide +kernel, rfl, by decide +kernel, by decide +kernel⟩
theorem ok_is_number (hK : p.K = K) (F : FunC K "is_number" s_is_number f fd cA)
    {f_is_integer : Addr} {fd_is_integer : FuncData} (G_is_integer : FnF P w K mg base 1 f_is_integer fd_is_integer ["thing"] p φ_is_integer) (m_is_integer : mg "is_integer" = some (.ref f_is_integer)) (k_is_integer : PySem.W.keepIn K (.ref f_is_integer) = true) (b_is_integer : Binds K fd_is_integer ["thing"] []) :
    FnF P w K mg base 2 f fd ["thing", "least", "most"] p φ_is_number := by
  refine fn_okC F sc_is_number fun A outer s H E ex hr => ?_
  have hu := hr.units
  exact ss_one (ss_ret (se_and (se_call (spF_ex G_is_integer) hr (by omega) m_is_integer k_is_integer b_is_integer (sa_cons (se_var (pv 0)) sa_nil)) (se_and (se_cmp ot_ge (se_var (pv 0)) (se_var (pv 1))) (se_one (se_or (se_cmp ot_is (se_var (pv 2)) (se_non)) (se_one (se_cmp ot_le (se_var (pv 0)) (se_var (pv 2)))))))))
abbrev s_is_text : Stmt := top 7
def u_is_text : SF := sSeq (sIf (bOr (bNot (tB (eB (isiF isiStr) (aCons (eVar 0) aNil)))) (bNot (tB (eChain cLe cLe (eVar 1) (eB lenT (aCons (eVar 0) aNil)) (eVar 2))))) (sRet (eC (.bl false))) (sNil)) (sRet (allG (iSeq (eVar 0)) (bN 3) (eBin cIn (eVar 3) (eC (.str [32, 33, 34, 35, 36, 38, 39, 40, 41, 42, 43, 44, 45, 46, 47, 48, 49, 50, 51, 52, 53, 54, 55, 56, 57, 58, 59, 60, 61, 62, 63, 64, 65, 66, 67, 68, 69, 70, 71, 72, 73, 74, 75, 76, 77, 78, 79, 80, 81, 82, 83, 84, 85, 86, 87, 88, 89, 90, 91, 92, 93, 94, 95, 96, 97, 98, 99, 100, 101, 102, 103, 104, 105, 106, 107, 108, 109, 110, 111, 112, 113, 114, 115, 116, 117, 118, 119, 120, 121, 122, 123, 124, 125, 126]))) [3]))
def φ_is_text : Phi := runF 4 3 u_is_text
theorem sc_is_text : FnScope ["thing", "least", "most", "sign"] ["thing", "least", "most"] (defScope s_is_text) := ⟨rfl, rfl, rfl, by decide +kernel, rfl, by decide +kernel, by decide +kernel⟩
theorem ok_is_text (hK : p.K = K) (F : FunC K "is_text" s_is_text f fd cA)
    (z_isinstance : mg "isinstance" = none)
    (z_str : mg "str" = none)
    (z_len : mg "len" = none)
    (z_all : mg "all" = none)
    {v_SIGNS : Value} (m_SIGNS : mg "SIGNS" = some v_SIGNS) (r_SIGNS : RelV (.str (Str.ofString " !\"#$&'()*+,-./0123456789:;<=>?@ABCDEFGHIJKLMNOPQRSTUVWXYZ[\\]^_`abcdefghijklmnopqrstuvwxyz{|}~")) v_SIGNS)
    {Pt_is_text : Addr} (hP : Pt_is_text ∈ p.tabs) (TB : TabB base mg cA Pt_is_text) :
    FnF P w K mg base 2 f fd ["thing", "least", "most"] p φ_is_text := by
  refine fn_okC F sc_is_text fun A outer s H E ex hr => ?_
  have hu := hr.units
  exact ss_cons (ss_if (sb_w (sw_or (sb_not (sb_val (se_isi hK isi_str (se_var (pv 0)) (pe_bltn rfl z_str PyProof.Rows.Boot.«str» rfl) z_isinstance))) (sw_or1 (sb_not (sb_chain ot_le ot_le (se_var (pv 1)) (se_callB (ca_len hK) z_len PySem.boot_len (sa_cons (se_var (pv 0)) sa_nil)) (se_var (pv 2))))))) (ss_one (ss_ret (se_bl))) (ss_nil)) (ss_one (ss_ret (se_allG (own := [(("sign" : Str), 3)]) (g_name (i := 3) (vs := [3]) (by simp)) hP rfl sc_is_text.nd hr z_all TB rfl ⟨⟨by rfl, by decide +kernel, (by show ∀ p ∈ [(("sign" : Str), 3)], (["thing", "least", "most", "sign"] : List Str)[p.2]? = some p.1; decide +kernel), (by show ∀ y ∈ (_ : List (Str × NameKind)), y.2 = NameKind.free → (defScope s_is_text).names.lookup y.1 = some .cell ∨ (defScope s_is_text).names.lookup y.1 = some .free; decide +kernel), (by show ∀ y ∈ (_ : List (Str × NameKind)), y.2 = NameKind.local ∨ y.2 = NameKind.cell → y.1 ∈ [(("sign" : Str), 3)].map (·.1) ∨ y.1 ∉ (["thing", "least", "most", "sign"] : List Str); decide +kernel)⟩, rfl, by decide +kernel, by rfl⟩ (si_seq hK (se_var (pv 0))) (fun A2 s H C cl code fp pn => pg_name (i := 3) sc_is_text.nd rfl (by first | exact .inl rfl | exact .inr rfl)) (fun A2 s H C cl code fp pn hr2 => se_cmp (ot_in hK) (se_var (pv 3)) (se_c (pe_glob rfl m_SIGNS r_SIGNS) (fun _ => ⟨_, rfl, rfl⟩))))))
abbrev s_is_tuple_of : Stmt := top 8
def u_is_tuple_of : SF := sRet (eAnd (eB (isiF isiTup) (aCons (eVar 0) aNil)) (eChain cLe cLe (eVar 1) (eB lenT (aCons (eVar 0) aNil)) (eVar 2)))
def φ_is_tuple_of : Phi := runF 3 3 u_is_tuple_of
theorem sc_is_tuple_of : FnScope ["thing", "least", "most"] ["thing", "least", "most"] (defScope s_is_tuple_of) := ⟨rfl, rfl, rfl, by decide +kernel, rfl, by decide +kernel, by decide +kernel⟩
theorem ok_is_tuple_of (hK : p.K = K) (F : FunC K "is_tuple_of" s_is_tuple_of f fd cA)
    (z_isinstance : mg "isinstance" = none)
    (z_tuple : mg "tuple" = none)
    (z_len : mg "len" = none) :
    FnF P w K mg base 1 f fd ["thing", "least", "most"] p φ_is_tuple_of := by
  refine fn_okC F sc_is_tuple_of fun A outer s H E ex hr => ?_
  have hu := hr.units
  exact ss_one (ss_ret (se_and (se_isi hK isi_tup (se_var (pv 0)) (pe_bltn rfl z_tuple PyProof.Rows.Boot.«tuple» rfl) z_isinstance) (se_one (se_chain ot_le ot_le (se_var (pv 1)) (se_callB (ca_len hK) z_len PySem.boot_len (sa_cons (se_var (pv 0)) sa_nil)) (se_var (pv 2))))))
abbrev s_is_pair : Stmt := top 9
def u_is_pair : SF := sRet (eCall 3 φ_is_tuple_of (aCons (eVar 0) (aCons (eC (.int 2)) (aCons (eC (.int 2)) aNil))))
def φ_is_pair : Phi := runF 1 1 u_is_pair
theorem sc_is_pair : FnScope ["thing"] ["thing"] (defScope s_is_pair) := ⟨rfl, rfl, rfl, by decide +kernel, rfl, by decide +kernel, by decide +kernel⟩
theorem ok_is_pair (hK : p.K = K) (F : FunC K "is_pair" s_is_pair f fd cA)
    {f_is_tuple_of : Addr} {fd_is_tuple_of : FuncData} (G_is_tuple_of : FnF P w K mg base 1 f_is_tuple_of fd_is_tuple_of ["thing", "least", "most"] p φ_is_tuple_of) (m_is_tuple_of : mg "is_tuple_of" = some (.ref f_is_tuple_of)) (k_is_tuple_of : PySem.W.keepIn K (.ref f_is_tuple_of) = true) (b_is_tuple_of : Binds K fd_is_tuple_of ["thing", "least", "most"] []) :
    FnF P w K mg base 2 f fd ["thing"] p φ_is_pair := by
  refine fn_okC F sc_is_pair fun A outer s H E ex hr => ?_
  have hu := hr.units
  exact ss_one (ss_ret (se_call (spF_ex G_is_tuple_of) hr (by omega) m_is_tuple_of k_is_tuple_of b_is_tuple_of (sa_cons (se_var (pv 0)) (sa_cons (se_int) (sa_cons (se_int) sa_nil)))))
abbrev s_are_ascending : Stmt := top 10
def u_are_ascending : SF := sRet (allG (FL.iRng2 (eC (.int 1)) (eB lenT (aCons (eVar 0) aNil))) (bN 1) (eBin cLt (eIx (eVar 0) (eBin subT (eVar 1) (eC (.int 1)))) (eIx (eVar 0) (eVar 1))) [1])
def φ_are_ascending : Phi := runF 2 1 u_are_ascending
theorem sc_are_ascending : FnScope ["signs", "at"] ["signs"] (defScope s_are_ascending) := ⟨rfl, rfl, rfl, by decide +kernel, rfl, by decide +kernel, by decide +kernel⟩
theorem ok_are_ascending (hK : p.K = K) (F : FunC K "are_ascending" s_are_ascending f fd cA)
    (z_all : mg "all" = none)
    (z_range : mg "range" = none)
    (z_len : mg "len" = none)
    {Pt_are_ascending : Addr} (hP : Pt_are_ascending ∈ p.tabs) (TB : TabB base mg cA Pt_are_ascending) :
    FnF P w K mg base 2 f fd ["signs"] p φ_are_ascending := by
  refine fn_okC F sc_are_ascending fun A outer s H E ex hr => ?_
  have hu := hr.units
  exact ss_one (ss_ret (se_allG (own := [(("at" : Str), 1)]) (g_name (i := 1) (vs := [1]) (by simp)) hP rfl sc_are_ascending.nd hr z_all TB rfl ⟨⟨by rfl, by decide +kernel, (by show ∀ p ∈ [(("at" : Str), 1)], (["signs", "at"] : List Str)[p.2]? = some p.1; decide +kernel), (by show ∀ y ∈ (_ : List (Str × NameKind)), y.2 = NameKind.free → (defScope s_are_ascending).names.lookup y.1 = some .cell ∨ (defScope s_are_ascending).names.lookup y.1 = some .free; decide +kernel), (by show ∀ y ∈ (_ : List (Str × NameKind)), y.2 = NameKind.local ∨ y.2 = NameKind.cell → y.1 ∈ [(("at" : Str), 1)].map (·.1) ∨ y.1 ∉ (["signs", "at"] : List Str); decide +kernel)⟩, rfl, by decide +kernel, by rfl⟩ (si_rng2 z_range (se_int) (se_callB (ca_len hK) z_len PySem.boot_len (sa_cons (se_var (pv 0)) sa_nil))) (fun A2 s H C cl code fp pn => pg_name (i := 1) sc_are_ascending.nd rfl (by first | exact .inl rfl | exact .inr rfl)) (fun A2 s H C cl code fp pn hr2 => se_cmp ot_lt (se_ix hK (se_var (pv 0)) (se_bin ot_sub (se_var (pv 1)) (se_int))) (se_ix hK (se_var (pv 0)) (se_var (pv 1))))))
abbrev s_are_lengths : Stmt := top 22
def u_are_lengths : SF := sRet (eAnd (eCall 3 φ_is_number (aCons (eVar 0) (aCons (eC (.int 0)) (aCons (eC (.int 8)) aNil)))) (eOr (eBin cIs (eVar 1) (eC .non)) (eCall 3 φ_is_number (aCons (eVar 1) (aCons (eVar 0) (aCons (eC (.int 12)) aNil))))))
def φ_are_lengths : Phi := runF 2 2 u_are_lengths
theorem sc_are_lengths : FnScope ["least", "most"] ["least", "most"] (defScope s_are_lengths) := ⟨rfl, rfl, rfl, by decide +kernel, rfl, by decide +kernel, by decide +kernel⟩
theorem ok_are_lengths (hK : p.K = K) (F : FunC K "are_lengths" s_are_lengths f fd cA)
    {f_is_number : Addr} {fd_is_number : FuncData} (G_is_number : FnF P w K mg base 2 f_is_number fd_is_number ["thing", "least", "most"] p φ_is_number) (m_is_number : mg "is_number" = some (.ref f_is_number)) (k_is_number : PySem.W.keepIn K (.ref f_is_number) = true) (b_is_number : Binds K fd_is_number ["thing", "least", "most"] []) :
    FnF P w K mg base 3 f fd ["least", "most"] p φ_are_lengths := by
  refine fn_okC F sc_are_lengths fun A outer s H E ex hr => ?_
  have hu := hr.units
  exact ss_one (ss_ret (se_and (se_call (spF_ex G_is_number) hr (by omega) m_is_number k_is_number b_is_number (sa_cons (se_var (pv 0)) (sa_cons (se_int) (sa_cons (se_int) sa_nil)))) (se_one (se_or (se_cmp ot_is (se_var (pv 1)) (se_non)) (se_one (se_call (spF_ex G_is_number) hr (by omega) m_is_number k_is_number b_is_number (sa_cons (se_var (pv 1)) (sa_cons (se_var (pv 0)) (sa_cons (se_int) sa_nil)))))))))
abbrev s_are_word_signs : Stmt := top 21
def u_are_word_signs : SF := sRet (eAnd (eCall 3 φ_is_text (aCons (eVar 0) (aCons (eC (.int 1)) (aCons (eC (.int 12)) aNil)))) (eCall 1 φ_are_ascending (aCons (eVar 0) aNil)))
def φ_are_word_signs : Phi := runF 1 1 u_are_word_signs
theorem sc_are_word_signs : FnScope ["thing"] ["thing"] (defScope s_are_word_signs) := ⟨rfl, rfl, rfl, by decide +kernel, rfl, by decide +kernel, by decide +kernel⟩
theorem ok_are_word_signs (hK : p.K = K) (F : FunC K "are_word_signs" s_are_word_signs f fd cA)
    {f_is_text : Addr} {fd_is_text : FuncData} (G_is_text : FnF P w K mg base 2 f_is_text fd_is_text ["thing", "least", "most"] p φ_is_text) (m_is_text : mg "is_text" = some (.ref f_is_text)) (k_is_text : PySem.W.keepIn K (.ref f_is_text) = true) (b_is_text : Binds K fd_is_text ["thing", "least", "most"] [])
    {f_are_ascending : Addr} {fd_are_ascending : FuncData} (G_are_ascending : FnF P w K mg base 2 f_are_ascending fd_are_ascending ["signs"] p φ_are_ascending) (m_are_ascending : mg "are_ascending" = some (.ref f_are_ascending)) (k_are_ascending : PySem.W.keepIn K (.ref f_are_ascending) = true) (b_are_ascending : Binds K fd_are_ascending ["signs"] []) :
    FnF P w K mg base 3 f fd ["thing"] p φ_are_word_signs := by
  refine fn_okC F sc_are_word_signs fun A outer s H E ex hr => ?_
  have hu := hr.units
  exact ss_one (ss_ret (se_and (se_call (spF_ex G_is_text) hr (by omega) m_is_text k_is_text b_is_text (sa_cons (se_var (pv 0)) (sa_cons (se_int) (sa_cons (se_int) sa_nil)))) (se_one (se_call (spF_ex G_are_ascending) hr (by omega) m_are_ascending k_are_ascending b_are_ascending (sa_cons (se_var (pv 0)) sa_nil)))))
abbrev s_is_bound : Stmt := top 20
def u_is_bound : SF := sRet (eOr (eBin cIs (eVar 0) (eC .non)) (eCall 3 φ_is_number (aCons (eVar 0) (aCons (eNeg (eC (.int 999999999))) (aCons (eC (.int 999999999)) aNil)))))
def φ_is_bound : Phi := runF 1 1 u_is_bound
theorem sc_is_bound : FnScope ["thing"] ["thing"] (defScope s_is_bound) := ⟨rfl, rfl, rfl, by decide +kernel, rfl, by decide +kernel, by decide +kernel⟩
theorem ok_is_bound (hK : p.K = K) (F : FunC K "is_bound" s_is_bound f fd cA)
    {v_GREATEST_BOUND : Value} (m_GREATEST_BOUND : mg "GREATEST_BOUND" = some v_GREATEST_BOUND) (r_GREATEST_BOUND : RelV (.int 999999999) v_GREATEST_BOUND)
    {f_is_number : Addr} {fd_is_number : FuncData} (G_is_number : FnF P w K mg base 2 f_is_number fd_is_number ["thing", "least", "most"] p φ_is_number) (m_is_number : mg "is_number" = some (.ref f_is_number)) (k_is_number : PySem.W.keepIn K (.ref f_is_number) = true) (b_is_number : Binds K fd_is_number ["thing", "least", "most"] []) :
    FnF P w K mg base 3 f fd ["thing"] p φ_is_bound := by
  refine fn_okC F sc_is_bound fun A outer s H E ex hr => ?_
  have hu := hr.units
  exact ss_one (ss_ret (se_or (se_cmp ot_is (se_var (pv 0)) (se_non)) (se_one (se_call (spF_ex G_is_number) hr (by omega) m_is_number k_is_number b_is_number (sa_cons (se_var (pv 0)) (sa_cons (se_neg (se_c (pe_glob rfl m_GREATEST_BOUND r_GREATEST_BOUND) (fun _ => rfl))) (sa_cons (se_c (pe_glob rfl m_GREATEST_BOUND r_GREATEST_BOUND) (fun _ => rfl)) sa_nil)))))))
abbrev s_is_plain_sort : Stmt := top 19
def u_is_plain_sort : SF := sSeq (sIf (tB (eBin cEqX (eIx (eVar 0) (eC (.int 0))) (eC (.str [111, 110, 101])))) (sRet (eAnd (eBin cEqX (eB lenT (aCons (eVar 0) aNil)) (eC (.int 2))) (eCall 3 φ_is_number (aCons (eIx (eVar 0) (eC (.int 1))) (aCons (eC (.int 1)) (aCons (eC (.int 12)) aNil)))))) (sNil)) (sSeq (sIf (tB (eBin cEqX (eIx (eVar 0) (eC (.int 0))) (eC (.str [119, 111, 114, 100])))) (sRet (eAnd (eBin cEqX (eB lenT (aCons (eVar 0) aNil)) (eC (.int 4))) (eAnd (eCall 1 φ_are_word_signs (aCons (eIx (eVar 0) (eC (.int 1))) aNil)) (eCall 2 φ_are_lengths (aCons (eIx (eVar 0) (eC (.int 2))) (aCons (eIx (eVar 0) (eC (.int 3))) aNil)))))) (sNil)) (sSeq (sIf (bOr (tB (eBin cNeX (eB lenT (aCons (eVar 0) aNil)) (eC (.int 3)))) (bOr (bNot (tB (eCall 1 φ_is_bound (aCons (eIx (eVar 0) (eC (.int 1))) aNil)))) (bNot (tB (eCall 1 φ_is_bound (aCons (eIx (eVar 0) (eC (.int 2))) aNil)))))) (sRet (eC (.bl false))) (sNil)) (sRet (eOr (eBin cIs (eIx (eVar 0) (eC (.int 1))) (eC .non)) (eOr (eBin cIs (eIx (eVar 0) (eC (.int 2))) (eC .non)) (eBin cLe (eIx (eVar 0) (eC (.int 1))) (eIx (eVar 0) (eC (.int 2)))))))))
def φ_is_plain_sort : Phi := runF 1 1 u_is_plain_sort
theorem sc_is_plain_sort : FnScope ["thing"] ["thing"] (defScope s_is_plain_sort) := ⟨rfl, rfl, rfl, by decide +kernel, rfl, by decide +kernel, by decide +kernel⟩
theorem ok_is_plain_sort (hK : p.K = K) (F : FunC K "is_plain_sort" s_is_plain_sort f fd cA)
    (z_len : mg "len" = none)
    {f_is_number : Addr} {fd_is_number : FuncData} (G_is_number : FnF P w K mg base 2 f_is_number fd_is_number ["thing", "least", "most"] p φ_is_number) (m_is_number : mg "is_number" = some (.ref f_is_number)) (k_is_number : PySem.W.keepIn K (.ref f_is_number) = true) (b_is_number : Binds K fd_is_number ["thing", "least", "most"] [])
    {f_are_word_signs : Addr} {fd_are_word_signs : FuncData} (G_are_word_signs : FnF P w K mg base 3 f_are_word_signs fd_are_word_signs ["thing"] p φ_are_word_signs) (m_are_word_signs : mg "are_word_signs" = some (.ref f_are_word_signs)) (k_are_word_signs : PySem.W.keepIn K (.ref f_are_word_signs) = true) (b_are_word_signs : Binds K fd_are_word_signs ["thing"] [])
    {f_are_lengths : Addr} {fd_are_lengths : FuncData} (G_are_lengths : FnF P w K mg base 3 f_are_lengths fd_are_lengths ["least", "most"] p φ_are_lengths) (m_are_lengths : mg "are_lengths" = some (.ref f_are_lengths)) (k_are_lengths : PySem.W.keepIn K (.ref f_are_lengths) = true) (b_are_lengths : Binds K fd_are_lengths ["least", "most"] [])
    {f_is_bound : Addr} {fd_is_bound : FuncData} (G_is_bound : FnF P w K mg base 3 f_is_bound fd_is_bound ["thing"] p φ_is_bound) (m_is_bound : mg "is_bound" = some (.ref f_is_bound)) (k_is_bound : PySem.W.keepIn K (.ref f_is_bound) = true) (b_is_bound : Binds K fd_is_bound ["thing"] []) :
    FnF P w K mg base 4 f fd ["thing"] p φ_is_plain_sort := by
  refine fn_okC F sc_is_plain_sort fun A outer s H E ex hr => ?_
  have hu := hr.units
  exact ss_cons (ss_if (sb_cmp (ot_eqX hK hu) (se_ix hK (se_var (pv 0)) (se_int)) (se_str [111, 110, 101] rfl)) (ss_one (ss_ret (se_and (se_cmp (ot_eqX hK hu) (se_callB (ca_len hK) z_len PySem.boot_len (sa_cons (se_var (pv 0)) sa_nil)) (se_int)) (se_one (se_call (spF_ex G_is_number) hr (by omega) m_is_number k_is_number b_is_number (sa_cons (se_ix hK (se_var (pv 0)) (se_int)) (sa_cons (se_int) (sa_cons (se_int) sa_nil)))))))) (ss_nil)) (ss_cons (ss_if (sb_cmp (ot_eqX hK hu) (se_ix hK (se_var (pv 0)) (se_int)) (se_str [119, 111, 114, 100] rfl)) (ss_one (ss_ret (se_and (se_cmp (ot_eqX hK hu) (se_callB (ca_len hK) z_len PySem.boot_len (sa_cons (se_var (pv 0)) sa_nil)) (se_int)) (se_and (se_call (spF_ex G_are_word_signs) hr (by omega) m_are_word_signs k_are_word_signs b_are_word_signs (sa_cons (se_ix hK (se_var (pv 0)) (se_int)) sa_nil)) (se_one (se_call (spF_ex G_are_lengths) hr (by omega) m_are_lengths k_are_lengths b_are_lengths (sa_cons (se_ix hK (se_var (pv 0)) (se_int)) (sa_cons (se_ix hK (se_var (pv 0)) (se_int)) sa_nil)))))))) (ss_nil)) (ss_cons (ss_if (sb_w (sw_or (sb_cmp (ot_neX hK hu) (se_callB (ca_len hK) z_len PySem.boot_len (sa_cons (se_var (pv 0)) sa_nil)) (se_int)) (sw_or (sb_not (sb_val (se_call (spF_ex G_is_bound) hr (by omega) m_is_bound k_is_bound b_is_bound (sa_cons (se_ix hK (se_var (pv 0)) (se_int)) sa_nil)))) (sw_or1 (sb_not (sb_val (se_call (spF_ex G_is_bound) hr (by omega) m_is_bound k_is_bound b_is_bound (sa_cons (se_ix hK (se_var (pv 0)) (se_int)) sa_nil)))))))) (ss_one (ss_ret (se_bl))) (ss_nil)) (ss_one (ss_ret (se_or (se_cmp ot_is (se_ix hK (se_var (pv 0)) (se_int)) (se_non)) (se_or (se_cmp ot_is (se_ix hK (se_var (pv 0)) (se_int)) (se_non)) (se_one (se_cmp ot_le (se_ix hK (se_var (pv 0)) (se_int)) (se_ix hK (se_var (pv 0)) (se_int))))))))))
abbrev s_count_sorts : Stmt := top 17
def u_count_sorts (r_count_within : Phi) : SF := sSeq (sIf (bOr (tB (eBin cEqX (eVar 1) (eC (.int 0)))) (bOr (bNot (tB (eCall 3 φ_is_tuple_of (aCons (eVar 0) (aCons (eC (.int 2)) (aCons (eC (.int 4)) aNil)))))) (bNot (tB (eB (isiF isiStr) (aCons (eIx (eVar 0) (eC (.int 0))) aNil)))))) (sRet (eC (.int 0))) (sNil)) (sSeq (sSet 2 (eIx (eVar 0) (eC (.int 0)))) (sSeq (sIf (bOr (tB (eBin cEqX (eVar 2) (eC (.str [105, 110, 116])))) (bOr (tB (eBin cEqX (eVar 2) (eC (.str [119, 111, 114, 100])))) (tB (eBin cEqX (eVar 2) (eC (.str [111, 110, 101])))))) (sRet (eIf (tB (eCall 1 φ_is_plain_sort (aCons (eVar 0) aNil))) (eC (.int 1)) (eC (.int 0)))) (sNil)) (sSeq (sIf (bAnd (tB (eBin cEqX (eVar 2) (eC (.str [109, 97, 121, 98, 101])))) (tB (eBin cEqX (eB lenT (aCons (eVar 0) aNil)) (eC (.int 2))))) (sRet (eCall 2 r_count_within (aCons (eTup (aCons (eIx (eVar 0) (eC (.int 1))) aNil)) (aCons (eVar 1) aNil)))) (sNil)) (sSeq (sIf (bAnd (tB (eBin cEqX (eVar 2) (eC (.str [109, 97, 110, 121])))) (bAnd (tB (eBin cEqX (eB lenT (aCons (eVar 0) aNil)) (eC (.int 4)))) (tB (eCall 2 φ_are_lengths (aCons (eIx (eVar 0) (eC (.int 2))) (aCons (eIx (eVar 0) (eC (.int 3))) aNil)))))) (sRet (eCall 2 r_count_within (aCons (eTup (aCons (eIx (eVar 0) (eC (.int 1))) aNil)) (aCons (eVar 1) aNil)))) (sNil)) (sSeq (sIf (bAnd (tB (eBin cEqX (eVar 2) (eC (.str [114, 111, 119])))) (bAnd (tB (eBin cEqX (eB lenT (aCons (eVar 0) aNil)) (eC (.int 2)))) (tB (eCall 3 φ_is_tuple_of (aCons (eIx (eVar 0) (eC (.int 1))) (aCons (eC (.int 0)) (aCons (eC (.int 6)) aNil))))))) (sRet (eCall 2 r_count_within (aCons (eIx (eVar 0) (eC (.int 1))) (aCons (eVar 1) aNil)))) (sNil)) (sSeq (sIf (bAnd (tB (eBin cEqX (eVar 2) (eC (.str [99, 97, 115, 101])))) (bAnd (tB (eBin cEqX (eB lenT (aCons (eVar 0) aNil)) (eC (.int 2)))) (tB (eCall 3 φ_is_tuple_of (aCons (eIx (eVar 0) (eC (.int 1))) (aCons (eC (.int 1)) (aCons (eC (.int 6)) aNil))))))) (sRet (eCall 2 r_count_within (aCons (eIx (eVar 0) (eC (.int 1))) (aCons (eVar 1) aNil)))) (sNil)) (sRet (eC (.int 0)))))))))
theorem sc_count_sorts : FnScope ["thing", "deep", "kind"] ["thing", "deep"] (defScope s_count_sorts) := ⟨rfl, rfl, rfl, by decide +kernel, rfl, by decide +kernel, by decide +kernel⟩
theorem ok_count_sorts (hK : p.K = K) (F : FunC K "count_sorts" s_count_sorts f fd cA)
    (z_isinstance : mg "isinstance" = none)
    (z_str : mg "str" = none)
    (z_len : mg "len" = none)
    {f_is_tuple_of : Addr} {fd_is_tuple_of : FuncData} (G_is_tuple_of : FnF P w K mg base 1 f_is_tuple_of fd_is_tuple_of ["thing", "least", "most"] p φ_is_tuple_of) (m_is_tuple_of : mg "is_tuple_of" = some (.ref f_is_tuple_of)) (k_is_tuple_of : PySem.W.keepIn K (.ref f_is_tuple_of) = true) (b_is_tuple_of : Binds K fd_is_tuple_of ["thing", "least", "most"] [])
    {f_is_plain_sort : Addr} {fd_is_plain_sort : FuncData} (G_is_plain_sort : FnF P w K mg base 4 f_is_plain_sort fd_is_plain_sort ["thing"] p φ_is_plain_sort) (m_is_plain_sort : mg "is_plain_sort" = some (.ref f_is_plain_sort)) (k_is_plain_sort : PySem.W.keepIn K (.ref f_is_plain_sort) = true) (b_is_plain_sort : Binds K fd_is_plain_sort ["thing"] [])
    {f_are_lengths : Addr} {fd_are_lengths : FuncData} (G_are_lengths : FnF P w K mg base 3 f_are_lengths fd_are_lengths ["least", "most"] p φ_are_lengths) (m_are_lengths : mg "are_lengths" = some (.ref f_are_lengths)) (k_are_lengths : PySem.W.keepIn K (.ref f_are_lengths) = true) (b_are_lengths : Binds K fd_are_lengths ["least", "most"] [])
    {kb : Nat} (hkb : 4 ≤ kb)
    {r_count_within : Phi} {f_count_within : Addr} {fd_count_within : FuncData} (G_count_within : FnF P w K mg base kb f_count_within fd_count_within ["things", "deep"] p r_count_within) (m_count_within : mg "count_within" = some (.ref f_count_within)) (k_count_within : PySem.W.keepIn K (.ref f_count_within) = true) (b_count_within : Binds K fd_count_within ["things", "deep"] []) :
    FnF P w K mg base (kb + 2) f fd ["thing", "deep"] p (runF 3 2 (u_count_sorts r_count_within)) := by
  refine fn_okC F sc_count_sorts fun A outer s H E ex hr => ?_
  have hu := hr.units
  exact ss_cons (ss_if (sb_w (sw_or (sb_cmp (ot_eqX hK hu) (se_var (pv 1)) (se_int)) (sw_or (sb_not (sb_val (se_call (spF_ex G_is_tuple_of) hr (by omega) m_is_tuple_of k_is_tuple_of b_is_tuple_of (sa_cons (se_var (pv 0)) (sa_cons (se_int) (sa_cons (se_int) sa_nil)))))) (sw_or1 (sb_not (sb_val (se_isi hK isi_str (se_ix hK (se_var (pv 0)) (se_int)) (pe_bltn rfl z_str PyProof.Rows.Boot.«str» rfl) z_isinstance))))))) (ss_one (ss_ret (se_int))) (ss_nil)) (ss_cons (ss_set (i := 2) (se_ix hK (se_var (pv 0)) (se_int)) sc_count_sorts.nd) (ss_cons (ss_if (sb_w (sw_or (sb_cmp (ot_eqX hK hu) (se_var (pv 2)) (se_str [105, 110, 116] rfl)) (sw_or (sb_cmp (ot_eqX hK hu) (se_var (pv 2)) (se_str [119, 111, 114, 100] rfl)) (sw_or1 (sb_cmp (ot_eqX hK hu) (se_var (pv 2)) (se_str [111, 110, 101] rfl)))))) (ss_one (ss_ret (se_if (sb_val (se_call (spF_ex G_is_plain_sort) hr (by omega) m_is_plain_sort k_is_plain_sort b_is_plain_sort (sa_cons (se_var (pv 0)) sa_nil))) (se_int) (se_int)))) (ss_nil)) (ss_cons (ss_if (sb_w (sw_and (sb_cmp (ot_eqX hK hu) (se_var (pv 2)) (se_str [109, 97, 121, 98, 101] rfl)) (sw_and1 (sb_cmp (ot_eqX hK hu) (se_callB (ca_len hK) z_len PySem.boot_len (sa_cons (se_var (pv 0)) sa_nil)) (se_int))))) (ss_one (ss_ret (se_call (spF_ex G_count_within) hr (by omega) m_count_within k_count_within b_count_within (sa_cons (se_tup (sa_cons (se_ix hK (se_var (pv 0)) (se_int)) sa_nil)) (sa_cons (se_var (pv 1)) sa_nil))))) (ss_nil)) (ss_cons (ss_if (sb_w (sw_and (sb_cmp (ot_eqX hK hu) (se_var (pv 2)) (se_str [109, 97, 110, 121] rfl)) (sw_and (sb_cmp (ot_eqX hK hu) (se_callB (ca_len hK) z_len PySem.boot_len (sa_cons (se_var (pv 0)) sa_nil)) (se_int)) (sw_and1 (sb_val (se_call (spF_ex G_are_lengths) hr (by omega) m_are_lengths k_are_lengths b_are_lengths (sa_cons (se_ix hK (se_var (pv 0)) (se_int)) (sa_cons (se_ix hK (se_var (pv 0)) (se_int)) sa_nil)))))))) (ss_one (ss_ret (se_call (spF_ex G_count_within) hr (by omega) m_count_within k_count_within b_count_within (sa_cons (se_tup (sa_cons (se_ix hK (se_var (pv 0)) (se_int)) sa_nil)) (sa_cons (se_var (pv 1)) sa_nil))))) (ss_nil)) (ss_cons (ss_if (sb_w (sw_and (sb_cmp (ot_eqX hK hu) (se_var (pv 2)) (se_str [114, 111, 119] rfl)) (sw_and (sb_cmp (ot_eqX hK hu) (se_callB (ca_len hK) z_len PySem.boot_len (sa_cons (se_var (pv 0)) sa_nil)) (se_int)) (sw_and1 (sb_val (se_call (spF_ex G_is_tuple_of) hr (by omega) m_is_tuple_of k_is_tuple_of b_is_tuple_of (sa_cons (se_ix hK (se_var (pv 0)) (se_int)) (sa_cons (se_int) (sa_cons (se_int) sa_nil))))))))) (ss_one (ss_ret (se_call (spF_ex G_count_within) hr (by omega) m_count_within k_count_within b_count_within (sa_cons (se_ix hK (se_var (pv 0)) (se_int)) (sa_cons (se_var (pv 1)) sa_nil))))) (ss_nil)) (ss_cons (ss_if (sb_w (sw_and (sb_cmp (ot_eqX hK hu) (se_var (pv 2)) (se_str [99, 97, 115, 101] rfl)) (sw_and (sb_cmp (ot_eqX hK hu) (se_callB (ca_len hK) z_len PySem.boot_len (sa_cons (se_var (pv 0)) sa_nil)) (se_int)) (sw_and1 (sb_val (se_call (spF_ex G_is_tuple_of) hr (by omega) m_is_tuple_of k_is_tuple_of b_is_tuple_of (sa_cons (se_ix hK (se_var (pv 0)) (se_int)) (sa_cons (se_int) (sa_cons (se_int) sa_nil))))))))) (ss_one (ss_ret (se_call (spF_ex G_count_within) hr (by omega) m_count_within k_count_within b_count_within (sa_cons (se_ix hK (se_var (pv 0)) (se_int)) (sa_cons (se_var (pv 1)) sa_nil))))) (ss_nil)) (ss_one (ss_ret (se_int)))))))))
abbrev s_count_within : Stmt := top 18
def u_count_within (r_count_sorts : Phi) : SF := sSeq (sSet 2 (eC (.int 1))) (sSeq (sFor (iSeq (eVar 0)) (bN 3) (sSeq (sSet 4 (eCall 2 r_count_sorts (aCons (eVar 3) (aCons (eBin subT (eVar 1) (eC (.int 1))) aNil)))) (sSeq (sIf (tB (eBin cEqX (eVar 4) (eC (.int 0)))) (sRet (eC (.int 0))) (sNil)) (sAug addI 2 (eVar 4))))) (sRet (eVar 2)))
theorem sc_count_within : FnScope ["things", "deep", "total", "thing", "many"] ["things", "deep"] (defScope s_count_within) := ⟨rfl, rfl, rfl, by decide +kernel, rfl, by decide +kernel, by decide +kernel⟩
theorem ok_count_within (hK : p.K = K) (F : FunC K "count_within" s_count_within f fd cA)
    {kb : Nat} (hkb : 4 ≤ kb)
    {r_count_sorts : Phi} {f_count_sorts : Addr} {fd_count_sorts : FuncData} (G_count_sorts : FnF P w K mg base kb f_count_sorts fd_count_sorts ["thing", "deep"] p r_count_sorts) (m_count_sorts : mg "count_sorts" = some (.ref f_count_sorts)) (k_count_sorts : PySem.W.keepIn K (.ref f_count_sorts) = true) (b_count_sorts : Binds K fd_count_sorts ["thing", "deep"] []) :
    FnF P w K mg base (kb + 2) f fd ["things", "deep"] p (runF 5 2 (u_count_within r_count_sorts)) := by
  refine fn_okC F sc_count_within fun A outer s H E ex hr => ?_
  have hu := hr.units
  exact ss_cons (ss_set (i := 2) (se_int) sc_count_within.nd) (ss_cons (ss_for (g_name (i := 3) (vs := [3]) (by simp)) PassesOwn.never rfl (si_seq hK (se_var (pv 0))) (pg_name (i := 3) sc_count_within.nd rfl (by first | exact .inl rfl | exact .inr rfl)) (ss_cons (ss_set (i := 4) (se_call (spF_ex G_count_sorts) hr (by omega) m_count_sorts k_count_sorts b_count_sorts (sa_cons (se_var (pv 3)) (sa_cons (se_bin ot_sub (se_var (pv 1)) (se_int)) sa_nil))) sc_count_within.nd) (ss_cons (ss_if (sb_cmp (ot_eqX hK hu) (se_var (pv 4)) (se_int)) (ss_one (ss_ret (se_int))) (ss_nil)) (ss_one (ss_aug (i := 2) ot_iadd (se_var (pv 4)) sc_count_within.nd))))) (ss_one (ss_ret (se_var (pv 2)))))
mutual
def φn_count_sorts : Nat → Phi
  | 0 => fun _ _ => none
  | n + 1 => runF 3 2 (u_count_sorts (φn_count_within n))
def φn_count_within : Nat → Phi
  | 0 => fun _ _ => none
  | n + 1 => runF 5 2 (u_count_within (φn_count_sorts n))
end
theorem okn_count_sorts (hK : p.K = K) {f_count_sorts cA_count_sorts : Addr} {fd_count_sorts : FuncData} {f_count_within cA_count_within : Addr} {fd_count_within : FuncData} 
    (F_count_sorts : FunC K "count_sorts" s_count_sorts f_count_sorts fd_count_sorts cA_count_sorts) (m_count_sorts : mg "count_sorts" = some (.ref f_count_sorts)) (k_count_sorts : PySem.W.keepIn K (.ref f_count_sorts) = true) (b_count_sorts : Binds K fd_count_sorts ["thing", "deep"] []) (F_count_within : FunC K "count_within" s_count_within f_count_within fd_count_within cA_count_within) (m_count_within : mg "count_within" = some (.ref f_count_within)) (k_count_within : PySem.W.keepIn K (.ref f_count_within) = true) (b_count_within : Binds K fd_count_within ["things", "deep"] [])
    (z_isinstance : mg "isinstance" = none)
    (z_str : mg "str" = none)
    (z_len : mg "len" = none)
    {f_is_tuple_of : Addr} {fd_is_tuple_of : FuncData} (G_is_tuple_of : FnF P w K mg base 1 f_is_tuple_of fd_is_tuple_of ["thing", "least", "most"] p φ_is_tuple_of) (m_is_tuple_of : mg "is_tuple_of" = some (.ref f_is_tuple_of)) (k_is_tuple_of : PySem.W.keepIn K (.ref f_is_tuple_of) = true) (b_is_tuple_of : Binds K fd_is_tuple_of ["thing", "least", "most"] [])
    {f_is_plain_sort : Addr} {fd_is_plain_sort : FuncData} (G_is_plain_sort : FnF P w K mg base 4 f_is_plain_sort fd_is_plain_sort ["thing"] p φ_is_plain_sort) (m_is_plain_sort : mg "is_plain_sort" = some (.ref f_is_plain_sort)) (k_is_plain_sort : PySem.W.keepIn K (.ref f_is_plain_sort) = true) (b_is_plain_sort : Binds K fd_is_plain_sort ["thing"] [])
    {f_are_lengths : Addr} {fd_are_lengths : FuncData} (G_are_lengths : FnF P w K mg base 3 f_are_lengths fd_are_lengths ["least", "most"] p φ_are_lengths) (m_are_lengths : mg "are_lengths" = some (.ref f_are_lengths)) (k_are_lengths : PySem.W.keepIn K (.ref f_are_lengths) = true) (b_are_lengths : Binds K fd_are_lengths ["least", "most"] []) :
    ∀ n : Nat, FnF P w K mg base (4 + 2 * n) f_count_sorts fd_count_sorts ["thing", "deep"] p (φn_count_sorts n) ∧ FnF P w K mg base (4 + 2 * n) f_count_within fd_count_within ["things", "deep"] p (φn_count_within n) := by
  intro n
  induction n with
  | zero => exact ⟨fn_none, fn_none⟩
  | succ n ih => exact ⟨ok_count_sorts (hK := hK) (F := F_count_sorts) (hkb := Nat.le_add_right _ _) (z_isinstance := z_isinstance) (z_str := z_str) (z_len := z_len) (G_is_tuple_of := G_is_tuple_of) (m_is_tuple_of := m_is_tuple_of) (k_is_tuple_of := k_is_tuple_of) (b_is_tuple_of := b_is_tuple_of) (G_is_plain_sort := G_is_plain_sort) (m_is_plain_sort := m_is_plain_sort) (k_is_plain_sort := k_is_plain_sort) (b_is_plain_sort := b_is_plain_sort) (G_are_lengths := G_are_lengths) (m_are_lengths := m_are_lengths) (k_are_lengths := k_are_lengths) (b_are_lengths := b_are_lengths) (G_count_within := ih.2) (m_count_within := m_count_within) (k_count_within := k_count_within) (b_count_within := b_count_within), ok_count_within (hK := hK) (F := F_count_within) (hkb := Nat.le_add_right _ _) (G_count_sorts := ih.1) (m_count_sorts := m_count_sorts) (k_count_sorts := k_count_sorts) (b_count_sorts := b_count_sorts)⟩
abbrev φ_count_sorts : Phi := φn_count_sorts 12
abbrev φ_count_within : Phi := φn_count_within 12
abbrev s_is_sort : Stmt := top 16
def u_is_sort : SF := sRet (eChain cLe cLe (eC (.int 1)) (eCall 2 φ_count_sorts (aCons (eVar 0) (aCons (eC (.int 4)) aNil))) (eC (.int 16)))
def φ_is_sort : Phi := runF 1 1 u_is_sort
theorem sc_is_sort : FnScope ["thing"] ["thing"] (defScope s_is_sort) := ⟨rfl, rfl, rfl, by decide +kernel, rfl, by decide +kernel, by decide +kernel⟩
theorem ok_is_sort (hK : p.K = K) (F : FunC K "is_sort" s_is_sort f fd cA)
    {v_DEEPEST_SORT : Value} (m_DEEPEST_SORT : mg "DEEPEST_SORT" = some v_DEEPEST_SORT) (r_DEEPEST_SORT : RelV (.int 4) v_DEEPEST_SORT)
    {v_MOST_SORTS : Value} (m_MOST_SORTS : mg "MOST_SORTS" = some v_MOST_SORTS) (r_MOST_SORTS : RelV (.int 16) v_MOST_SORTS)
    {f_count_sorts : Addr} {fd_count_sorts : FuncData} (G_count_sorts : FnF P w K mg base 28 f_count_sorts fd_count_sorts ["thing", "deep"] p φ_count_sorts) (m_count_sorts : mg "count_sorts" = some (.ref f_count_sorts)) (k_count_sorts : PySem.W.keepIn K (.ref f_count_sorts) = true) (b_count_sorts : Binds K fd_count_sorts ["thing", "deep"] []) :
    FnF P w K mg base 29 f fd ["thing"] p φ_is_sort := by
  refine fn_okC F sc_is_sort fun A outer s H E ex hr => ?_
  have hu := hr.units
  exact ss_one (ss_ret (se_chain ot_le ot_le (se_int) (se_call (spF_ex G_count_sorts) hr (by omega) m_count_sorts k_count_sorts b_count_sorts (sa_cons (se_var (pv 0)) (sa_cons (se_c (pe_glob rfl m_DEEPEST_SORT r_DEEPEST_SORT) (fun _ => rfl)) sa_nil))) (se_c (pe_glob rfl m_MOST_SORTS r_MOST_SORTS) (fun _ => rfl))))
-- check_sort: Raise
abbrev s_is_between : Stmt := top 25
def u_is_between : SF := sRet (eAnd (eOr (eBin cIs (eVar 1) (eC .non)) (eBin cGe (eVar 0) (eVar 1))) (eOr (eBin cIs (eVar 2) (eC .non)) (eBin cLe (eVar 0) (eVar 2))))
def φ_is_between : Phi := runF 3 3 u_is_between
theorem sc_is_between : FnScope ["number", "low", "high"] ["number", "low", "high"] (defScope s_is_between) := ⟨rfl, rfl, rfl, by decide +kernel, rfl, by decide +kernel, by decide +kernel⟩
theorem ok_is_between (hK : p.K = K) (F : FunC K "is_between" s_is_between f fd cA)
     :
    FnF P w K mg base 1 f fd ["number", "low", "high"] p φ_is_between := by
  refine fn_okC F sc_is_between fun A outer s H E ex hr => ?_
  have hu := hr.units
  exact ss_one (ss_ret (se_and (se_or (se_cmp ot_is (se_var (pv 1)) (se_non)) (se_one (se_cmp ot_ge (se_var (pv 0)) (se_var (pv 1))))) (se_one (se_or (se_cmp ot_is (se_var (pv 2)) (se_non)) (se_one (se_cmp ot_le (se_var (pv 0)) (se_var (pv 2))))))))
abbrev s_has_only : Stmt := top 26
def u_has_only : SF := sRet (allG (iSeq (eVar 0)) (bN 2) (eBin cIn (eVar 2) (eVar 1)) [2])
def φ_has_only : Phi := runF 3 2 u_has_only
theorem sc_has_only : FnScope ["word", "signs", "sign"] ["word", "signs"] (defScope s_has_only) := ⟨rfl, rfl, rfl, by decide +kernel, rfl, by decide +kernel, by decide +kernel⟩
theorem ok_has_only (hK : p.K = K) (F : FunC K "has_only" s_has_only f fd cA)
    (z_all : mg "all" = none)
    {Pt_has_only : Addr} (hP : Pt_has_only ∈ p.tabs) (TB : TabB base mg cA Pt_has_only) :
    FnF P w K mg base 2 f fd ["word", "signs"] p φ_has_only := by
  refine fn_okC F sc_has_only fun A outer s H E ex hr => ?_
  have hu := hr.units
  exact ss_one (ss_ret (se_allG (own := [(("sign" : Str), 2)]) (g_name (i := 2) (vs := [2]) (by simp)) hP rfl sc_has_only.nd hr z_all TB rfl ⟨⟨by rfl, by decide +kernel, (by show ∀ p ∈ [(("sign" : Str), 2)], (["word", "signs", "sign"] : List Str)[p.2]? = some p.1; decide +kernel), (by show ∀ y ∈ (_ : List (Str × NameKind)), y.2 = NameKind.free → (defScope s_has_only).names.lookup y.1 = some .cell ∨ (defScope s_has_only).names.lookup y.1 = some .free; decide +kernel), (by show ∀ y ∈ (_ : List (Str × NameKind)), y.2 = NameKind.local ∨ y.2 = NameKind.cell → y.1 ∈ [(("sign" : Str), 2)].map (·.1) ∨ y.1 ∉ (["word", "signs", "sign"] : List Str); decide +kernel)⟩, rfl, by decide +kernel, by rfl⟩ (si_seq hK (se_var (pv 0))) (fun A2 s H C cl code fp pn => pg_name (i := 2) sc_has_only.nd rfl (by first | exact .inl rfl | exact .inr rfl)) (fun A2 s H C cl code fp pn hr2 => se_cmp (ot_in hK) (se_var (pv 2)) (se_var (pv 1)))))
abbrev s_is_some : Stmt := top 24
def u_is_some : SF := sRet (eAnd (eCall 1 φ_is_pair (aCons (eVar 0) aNil)) (eAnd (eB (isiF isiStr) (aCons (eIx (eVar 0) (eC (.int 0))) aNil)) (eBin cEqX (eIx (eVar 0) (eC (.int 0))) (eC (.str [115, 111, 109, 101])))))
def φ_is_some : Phi := runF 1 1 u_is_some
theorem sc_is_some : FnScope ["thing"] ["thing"] (defScope s_is_some) := ⟨rfl, rfl, rfl, by decide +kernel, rfl, by decide +kernel, by decide +kernel⟩
theorem ok_is_some (hK : p.K = K) (F : FunC K "is_some" s_is_some f fd cA)
    (z_isinstance : mg "isinstance" = none)
    (z_str : mg "str" = none)
    {f_is_pair : Addr} {fd_is_pair : FuncData} (G_is_pair : FnF P w K mg base 2 f_is_pair fd_is_pair ["thing"] p φ_is_pair) (m_is_pair : mg "is_pair" = some (.ref f_is_pair)) (k_is_pair : PySem.W.keepIn K (.ref f_is_pair) = true) (b_is_pair : Binds K fd_is_pair ["thing"] []) :
    FnF P w K mg base 3 f fd ["thing"] p φ_is_some := by
  refine fn_okC F sc_is_some fun A outer s H E ex hr => ?_
  have hu := hr.units
  exact ss_one (ss_ret (se_and (se_call (spF_ex G_is_pair) hr (by omega) m_is_pair k_is_pair b_is_pair (sa_cons (se_var (pv 0)) sa_nil)) (se_and (se_isi hK isi_str (se_ix hK (se_var (pv 0)) (se_int)) (pe_bltn rfl z_str PyProof.Rows.Boot.«str» rfl) z_isinstance) (se_one (se_cmp (ot_eqX hK hu) (se_ix hK (se_var (pv 0)) (se_int)) (se_str [115, 111, 109, 101] rfl))))))
abbrev s_is_value : Stmt := top 23
def u_is_value (r_is_value : Phi) : SF := sSeq (sSet 2 (eIx (eVar 0) (eC (.int 0)))) (sSeq (sIf (tB (eBin cEqX (eVar 2) (eC (.str [105, 110, 116])))) (sRet (eAnd (eCall 1 φ_is_integer (aCons (eVar 1) aNil)) (eCall 3 φ_is_between (aCons (eVar 1) (aCons (eIx (eVar 0) (eC (.int 1))) (aCons (eIx (eVar 0) (eC (.int 2))) aNil)))))) (sNil)) (sSeq (sIf (tB (eBin cEqX (eVar 2) (eC (.str [119, 111, 114, 100])))) (sRet (eAnd (eB (isiF isiStr) (aCons (eVar 1) aNil)) (eAnd (eCall 3 φ_is_between (aCons (eB lenT (aCons (eVar 1) aNil)) (aCons (eIx (eVar 0) (eC (.int 2))) (aCons (eIx (eVar 0) (eC (.int 3))) aNil)))) (eCall 2 φ_has_only (aCons (eVar 1) (aCons (eIx (eVar 0) (eC (.int 1))) aNil)))))) (sNil)) (sSeq (sIf (tB (eBin cEqX (eVar 2) (eC (.str [111, 110, 101])))) (sRet (eCall 3 φ_is_number (aCons (eVar 1) (aCons (eC (.int 0)) (aCons (eBin subT (eIx (eVar 0) (eC (.int 1))) (eC (.int 1))) aNil))))) (sNil)) (sSeq (sIf (tB (eBin cEqX (eVar 2) (eC (.str [109, 97, 121, 98, 101])))) (sRet (eOr (eBin cIs (eVar 1) (eC .non)) (eAnd (eCall 1 φ_is_some (aCons (eVar 1) aNil)) (eCall 2 r_is_value (aCons (eIx (eVar 0) (eC (.int 1))) (aCons (eIx (eVar 1) (eC (.int 1))) aNil)))))) (sNil)) (sSeq (sIf (bNot (tB (eB (isiF isiTup) (aCons (eVar 1) aNil)))) (sRet (eC (.bl false))) (sNil)) (sSeq (sIf (tB (eBin cEqX (eVar 2) (eC (.str [114, 111, 119])))) (sRet (eAnd (eBin cEqX (eB lenT (aCons (eVar 1) aNil)) (eB lenT (aCons (eIx (eVar 0) (eC (.int 1))) aNil))) (allG (FL.iRng1 (eB lenT (aCons (eVar 1) aNil))) (bN 3) (eCall 2 r_is_value (aCons (eIx (eIx (eVar 0) (eC (.int 1))) (eVar 3)) (aCons (eIx (eVar 1) (eVar 3)) aNil))) [3]))) (sNil)) (sSeq (sIf (tB (eBin cEqX (eVar 2) (eC (.str [109, 97, 110, 121])))) (sRet (eAnd (eCall 3 φ_is_between (aCons (eB lenT (aCons (eVar 1) aNil)) (aCons (eIx (eVar 0) (eC (.int 2))) (aCons (eIx (eVar 0) (eC (.int 3))) aNil)))) (allG (iSeq (eVar 1)) (bN 4) (eCall 2 r_is_value (aCons (eIx (eVar 0) (eC (.int 1))) (aCons (eVar 4) aNil))) [4]))) (sNil)) (sSeq (sIf (bOr (bNot (tB (eCall 1 φ_is_pair (aCons (eVar 1) aNil)))) (bNot (tB (eCall 3 φ_is_number (aCons (eIx (eVar 1) (eC (.int 0))) (aCons (eC (.int 0)) (aCons (eBin subT (eB lenT (aCons (eIx (eVar 0) (eC (.int 1))) aNil)) (eC (.int 1))) aNil))))))) (sRet (eC (.bl false))) (sNil)) (sRet (eCall 2 r_is_value (aCons (eIx (eIx (eVar 0) (eC (.int 1))) (eIx (eVar 1) (eC (.int 0)))) (aCons (eIx (eVar 1) (eC (.int 1))) aNil))))))))))))
theorem sc_is_value : FnScope ["sort", "thing", "kind", "at", "part"] ["sort", "thing"] (defScope s_is_value) := ⟨rfl, rfl, rfl, by decide +kernel, rfl, by decide +kernel, by decide +kernel⟩
theorem ok_is_value (hK : p.K = K) (F : FunC K "is_value" s_is_value f fd cA)
    (z_isinstance : mg "isinstance" = none)
    (z_str : mg "str" = none)
    (z_len : mg "len" = none)
    (z_tuple : mg "tuple" = none)
    (z_all : mg "all" = none)
    (z_range : mg "range" = none)
    {Pt_is_value : Addr} (hP : Pt_is_value ∈ p.tabs) (TB : TabB base mg cA Pt_is_value)
    {f_is_integer : Addr} {fd_is_integer : FuncData} (G_is_integer : FnF P w K mg base 1 f_is_integer fd_is_integer ["thing"] p φ_is_integer) (m_is_integer : mg "is_integer" = some (.ref f_is_integer)) (k_is_integer : PySem.W.keepIn K (.ref f_is_integer) = true) (b_is_integer : Binds K fd_is_integer ["thing"] [])
    {f_is_between : Addr} {fd_is_between : FuncData} (G_is_between : FnF P w K mg base 1 f_is_between fd_is_between ["number", "low", "high"] p φ_is_between) (m_is_between : mg "is_between" = some (.ref f_is_between)) (k_is_between : PySem.W.keepIn K (.ref f_is_between) = true) (b_is_between : Binds K fd_is_between ["number", "low", "high"] [])
    {f_has_only : Addr} {fd_has_only : FuncData} (G_has_only : FnF P w K mg base 2 f_has_only fd_has_only ["word", "signs"] p φ_has_only) (m_has_only : mg "has_only" = some (.ref f_has_only)) (k_has_only : PySem.W.keepIn K (.ref f_has_only) = true) (b_has_only : Binds K fd_has_only ["word", "signs"] [])
    {f_is_number : Addr} {fd_is_number : FuncData} (G_is_number : FnF P w K mg base 2 f_is_number fd_is_number ["thing", "least", "most"] p φ_is_number) (m_is_number : mg "is_number" = some (.ref f_is_number)) (k_is_number : PySem.W.keepIn K (.ref f_is_number) = true) (b_is_number : Binds K fd_is_number ["thing", "least", "most"] [])
    {f_is_some : Addr} {fd_is_some : FuncData} (G_is_some : FnF P w K mg base 3 f_is_some fd_is_some ["thing"] p φ_is_some) (m_is_some : mg "is_some" = some (.ref f_is_some)) (k_is_some : PySem.W.keepIn K (.ref f_is_some) = true) (b_is_some : Binds K fd_is_some ["thing"] [])
    {f_is_pair : Addr} {fd_is_pair : FuncData} (G_is_pair : FnF P w K mg base 2 f_is_pair fd_is_pair ["thing"] p φ_is_pair) (m_is_pair : mg "is_pair" = some (.ref f_is_pair)) (k_is_pair : PySem.W.keepIn K (.ref f_is_pair) = true) (b_is_pair : Binds K fd_is_pair ["thing"] [])
    {kb : Nat} (hkb : 3 ≤ kb)
    {r_is_value : Phi} {f_is_value : Addr} {fd_is_value : FuncData} (G_is_value : FnF P w K mg base kb f_is_value fd_is_value ["sort", "thing"] p r_is_value) (m_is_value : mg "is_value" = some (.ref f_is_value)) (k_is_value : PySem.W.keepIn K (.ref f_is_value) = true) (b_is_value : Binds K fd_is_value ["sort", "thing"] []) :
    FnF P w K mg base (kb + 2) f fd ["sort", "thing"] p (runF 5 2 (u_is_value r_is_value)) := by
  refine fn_okC F sc_is_value fun A outer s H E ex hr => ?_
  have hu := hr.units
  exact ss_cons (ss_set (i := 2) (se_ix hK (se_var (pv 0)) (se_int)) sc_is_value.nd) (ss_cons (ss_if (sb_cmp (ot_eqX hK hu) (se_var (pv 2)) (se_str [105, 110, 116] rfl)) (ss_one (ss_ret (se_and (se_call (spF_ex G_is_integer) hr (by omega) m_is_integer k_is_integer b_is_integer (sa_cons (se_var (pv 1)) sa_nil)) (se_one (se_call (spF_ex G_is_between) hr (by omega) m_is_between k_is_between b_is_between (sa_cons (se_var (pv 1)) (sa_cons (se_ix hK (se_var (pv 0)) (se_int)) (sa_cons (se_ix hK (se_var (pv 0)) (se_int)) sa_nil)))))))) (ss_nil)) (ss_cons (ss_if (sb_cmp (ot_eqX hK hu) (se_var (pv 2)) (se_str [119, 111, 114, 100] rfl)) (ss_one (ss_ret (se_and (se_isi hK isi_str (se_var (pv 1)) (pe_bltn rfl z_str PyProof.Rows.Boot.«str» rfl) z_isinstance) (se_and (se_call (spF_ex G_is_between) hr (by omega) m_is_between k_is_between b_is_between (sa_cons (se_callB (ca_len hK) z_len PySem.boot_len (sa_cons (se_var (pv 1)) sa_nil)) (sa_cons (se_ix hK (se_var (pv 0)) (se_int)) (sa_cons (se_ix hK (se_var (pv 0)) (se_int)) sa_nil)))) (se_one (se_call (spF_ex G_has_only) hr (by omega) m_has_only k_has_only b_has_only (sa_cons (se_var (pv 1)) (sa_cons (se_ix hK (se_var (pv 0)) (se_int)) sa_nil)))))))) (ss_nil)) (ss_cons (ss_if (sb_cmp (ot_eqX hK hu) (se_var (pv 2)) (se_str [111, 110, 101] rfl)) (ss_one (ss_ret (se_call (spF_ex G_is_number) hr (by omega) m_is_number k_is_number b_is_number (sa_cons (se_var (pv 1)) (sa_cons (se_int) (sa_cons (se_bin ot_sub (se_ix hK (se_var (pv 0)) (se_int)) (se_int)) sa_nil)))))) (ss_nil)) (ss_cons (ss_if (sb_cmp (ot_eqX hK hu) (se_var (pv 2)) (se_str [109, 97, 121, 98, 101] rfl)) (ss_one (ss_ret (se_or (se_cmp ot_is (se_var (pv 1)) (se_non)) (se_one (se_and (se_call (spF_ex G_is_some) hr (by omega) m_is_some k_is_some b_is_some (sa_cons (se_var (pv 1)) sa_nil)) (se_one (se_call (spF_ex G_is_value) hr (by omega) m_is_value k_is_value b_is_value (sa_cons (se_ix hK (se_var (pv 0)) (se_int)) (sa_cons (se_ix hK (se_var (pv 1)) (se_int)) sa_nil))))))))) (ss_nil)) (ss_cons (ss_if (sb_not (sb_val (se_isi hK isi_tup (se_var (pv 1)) (pe_bltn rfl z_tuple PyProof.Rows.Boot.«tuple» rfl) z_isinstance))) (ss_one (ss_ret (se_bl))) (ss_nil)) (ss_cons (ss_if (sb_cmp (ot_eqX hK hu) (se_var (pv 2)) (se_str [114, 111, 119] rfl)) (ss_one (ss_ret (se_and (se_cmp (ot_eqX hK hu) (se_callB (ca_len hK) z_len PySem.boot_len (sa_cons (se_var (pv 1)) sa_nil)) (se_callB (ca_len hK) z_len PySem.boot_len (sa_cons (se_ix hK (se_var (pv 0)) (se_int)) sa_nil))) (se_one (se_allG (own := [(("at" : Str), 3)]) (g_name (i := 3) (vs := [3]) (by simp)) hP rfl sc_is_value.nd hr z_all TB rfl ⟨⟨by rfl, by decide +kernel, (by show ∀ p ∈ [(("at" : Str), 3)], (["sort", "thing", "kind", "at", "part"] : List Str)[p.2]? = some p.1; decide +kernel), (by show ∀ y ∈ (_ : List (Str × NameKind)), y.2 = NameKind.free → (defScope s_is_value).names.lookup y.1 = some .cell ∨ (defScope s_is_value).names.lookup y.1 = some .free; decide +kernel), (by show ∀ y ∈ (_ : List (Str × NameKind)), y.2 = NameKind.local ∨ y.2 = NameKind.cell → y.1 ∈ [(("at" : Str), 3)].map (·.1) ∨ y.1 ∉ (["sort", "thing", "kind", "at", "part"] : List Str); decide +kernel)⟩, rfl, by decide +kernel, by rfl⟩ (si_rng1 z_range (se_callB (ca_len hK) z_len PySem.boot_len (sa_cons (se_var (pv 1)) sa_nil))) (fun A2 s H C cl code fp pn => pg_name (i := 3) sc_is_value.nd rfl (by first | exact .inl rfl | exact .inr rfl)) (fun A2 s H C cl code fp pn hr2 => se_call (spF_ex G_is_value) hr2 (by omega) m_is_value k_is_value b_is_value (sa_cons (se_ix hK (se_ix hK (se_var (pv 0)) (se_int)) (se_var (pv 3))) (sa_cons (se_ix hK (se_var (pv 1)) (se_var (pv 3))) sa_nil)))))))) (ss_nil)) (ss_cons (ss_if (sb_cmp (ot_eqX hK hu) (se_var (pv 2)) (se_str [109, 97, 110, 121] rfl)) (ss_one (ss_ret (se_and (se_call (spF_ex G_is_between) hr (by omega) m_is_between k_is_between b_is_between (sa_cons (se_callB (ca_len hK) z_len PySem.boot_len (sa_cons (se_var (pv 1)) sa_nil)) (sa_cons (se_ix hK (se_var (pv 0)) (se_int)) (sa_cons (se_ix hK (se_var (pv 0)) (se_int)) sa_nil)))) (se_one (se_allG (own := [(("part" : Str), 4)]) (g_name (i := 4) (vs := [4]) (by simp)) hP rfl sc_is_value.nd hr z_all TB rfl ⟨⟨by rfl, by decide +kernel, (by show ∀ p ∈ [(("part" : Str), 4)], (["sort", "thing", "kind", "at", "part"] : List Str)[p.2]? = some p.1; decide +kernel), (by show ∀ y ∈ (_ : List (Str × NameKind)), y.2 = NameKind.free → (defScope s_is_value).names.lookup y.1 = some .cell ∨ (defScope s_is_value).names.lookup y.1 = some .free; decide +kernel), (by show ∀ y ∈ (_ : List (Str × NameKind)), y.2 = NameKind.local ∨ y.2 = NameKind.cell → y.1 ∈ [(("part" : Str), 4)].map (·.1) ∨ y.1 ∉ (["sort", "thing", "kind", "at", "part"] : List Str); decide +kernel)⟩, rfl, by decide +kernel, by rfl⟩ (si_seq hK (se_var (pv 1))) (fun A2 s H C cl code fp pn => pg_name (i := 4) sc_is_value.nd rfl (by first | exact .inl rfl | exact .inr rfl)) (fun A2 s H C cl code fp pn hr2 => se_call (spF_ex G_is_value) hr2 (by omega) m_is_value k_is_value b_is_value (sa_cons (se_ix hK (se_var (pv 0)) (se_int)) (sa_cons (se_var (pv 4)) sa_nil)))))))) (ss_nil)) (ss_cons (ss_if (sb_w (sw_or (sb_not (sb_val (se_call (spF_ex G_is_pair) hr (by omega) m_is_pair k_is_pair b_is_pair (sa_cons (se_var (pv 1)) sa_nil)))) (sw_or1 (sb_not (sb_val (se_call (spF_ex G_is_number) hr (by omega) m_is_number k_is_number b_is_number (sa_cons (se_ix hK (se_var (pv 1)) (se_int)) (sa_cons (se_int) (sa_cons (se_bin ot_sub (se_callB (ca_len hK) z_len PySem.boot_len (sa_cons (se_ix hK (se_var (pv 0)) (se_int)) sa_nil)) (se_int)) sa_nil))))))))) (ss_one (ss_ret (se_bl))) (ss_nil)) (ss_one (ss_ret (se_call (spF_ex G_is_value) hr (by omega) m_is_value k_is_value b_is_value (sa_cons (se_ix hK (se_ix hK (se_var (pv 0)) (se_int)) (se_ix hK (se_var (pv 1)) (se_int))) (sa_cons (se_ix hK (se_var (pv 1)) (se_int)) sa_nil)))))))))))))
def φn_is_value : Nat → Phi
  | 0 => fun _ _ => none
  | n + 1 => runF 5 2 (u_is_value (φn_is_value n))
theorem okn_is_value (hK : p.K = K) {f_is_value cA_is_value : Addr} {fd_is_value : FuncData} 
    (F_is_value : FunC K "is_value" s_is_value f_is_value fd_is_value cA_is_value) (m_is_value : mg "is_value" = some (.ref f_is_value)) (k_is_value : PySem.W.keepIn K (.ref f_is_value) = true) (b_is_value : Binds K fd_is_value ["sort", "thing"] [])
    (z_isinstance : mg "isinstance" = none)
    (z_str : mg "str" = none)
    (z_len : mg "len" = none)
    (z_tuple : mg "tuple" = none)
    (z_all : mg "all" = none)
    (z_range : mg "range" = none)
    {Pt_is_value : Addr} (hP_is_value : Pt_is_value ∈ p.tabs) (TB_is_value : TabB base mg cA_is_value Pt_is_value)
    {f_is_integer : Addr} {fd_is_integer : FuncData} (G_is_integer : FnF P w K mg base 1 f_is_integer fd_is_integer ["thing"] p φ_is_integer) (m_is_integer : mg "is_integer" = some (.ref f_is_integer)) (k_is_integer : PySem.W.keepIn K (.ref f_is_integer) = true) (b_is_integer : Binds K fd_is_integer ["thing"] [])
    {f_is_between : Addr} {fd_is_between : FuncData} (G_is_between : FnF P w K mg base 1 f_is_between fd_is_between ["number", "low", "high"] p φ_is_between) (m_is_between : mg "is_between" = some (.ref f_is_between)) (k_is_between : PySem.W.keepIn K (.ref f_is_between) = true) (b_is_between : Binds K fd_is_between ["number", "low", "high"] [])
    {f_has_only : Addr} {fd_has_only : FuncData} (G_has_only : FnF P w K mg base 2 f_has_only fd_has_only ["word", "signs"] p φ_has_only) (m_has_only : mg "has_only" = some (.ref f_has_only)) (k_has_only : PySem.W.keepIn K (.ref f_has_only) = true) (b_has_only : Binds K fd_has_only ["word", "signs"] [])
    {f_is_number : Addr} {fd_is_number : FuncData} (G_is_number : FnF P w K mg base 2 f_is_number fd_is_number ["thing", "least", "most"] p φ_is_number) (m_is_number : mg "is_number" = some (.ref f_is_number)) (k_is_number : PySem.W.keepIn K (.ref f_is_number) = true) (b_is_number : Binds K fd_is_number ["thing", "least", "most"] [])
    {f_is_some : Addr} {fd_is_some : FuncData} (G_is_some : FnF P w K mg base 3 f_is_some fd_is_some ["thing"] p φ_is_some) (m_is_some : mg "is_some" = some (.ref f_is_some)) (k_is_some : PySem.W.keepIn K (.ref f_is_some) = true) (b_is_some : Binds K fd_is_some ["thing"] [])
    {f_is_pair : Addr} {fd_is_pair : FuncData} (G_is_pair : FnF P w K mg base 2 f_is_pair fd_is_pair ["thing"] p φ_is_pair) (m_is_pair : mg "is_pair" = some (.ref f_is_pair)) (k_is_pair : PySem.W.keepIn K (.ref f_is_pair) = true) (b_is_pair : Binds K fd_is_pair ["thing"] []) :
    ∀ n : Nat, FnF P w K mg base (3 + 2 * n) f_is_value fd_is_value ["sort", "thing"] p (φn_is_value n) := by
  intro n
  induction n with
  | zero => exact fn_none
  | succ n ih => exact ok_is_value (hK := hK) (F := F_is_value) (hkb := Nat.le_add_right _ _) (z_isinstance := z_isinstance) (z_str := z_str) (z_len := z_len) (z_tuple := z_tuple) (z_all := z_all) (z_range := z_range) (hP := hP_is_value) (TB := TB_is_value) (G_is_integer := G_is_integer) (m_is_integer := m_is_integer) (k_is_integer := k_is_integer) (b_is_integer := b_is_integer) (G_is_between := G_is_between) (m_is_between := m_is_between) (k_is_between := k_is_between) (b_is_between := b_is_between) (G_has_only := G_has_only) (m_has_only := m_has_only) (k_has_only := k_has_only) (b_has_only := b_has_only) (G_is_number := G_is_number) (m_is_number := m_is_number) (k_is_number := k_is_number) (b_is_number := b_is_number) (G_is_some := G_is_some) (m_is_some := m_is_some) (k_is_some := k_is_some) (b_is_some := b_is_some) (G_is_pair := G_is_pair) (m_is_pair := m_is_pair) (k_is_pair := k_is_pair) (b_is_pair := b_is_pair) (G_is_value := ih) (m_is_value := m_is_value) (k_is_value := k_is_value) (b_is_value := b_is_value)
abbrev φ_is_value : Phi := φn_is_value 12
abbrev s_count_rows : Stmt := top 28
def u_count_rows : SF := sSeq (sIf (tB (eBin cEqX (eVar 2) (eC (.int 0)))) (sRet (eC (.int 1))) (sNil)) (sSeq (sIf (bOr (tB (eBin cIs (eVar 0) (eC .non))) (tB (eBin cIs (eVar 2) (eC .non)))) (sRet (eC .non)) (sNil)) (sSeq (sSet 3 (eC (.int 0))) (sSeq (sSet 4 (eC (.int 1))) (sSeq (sFor (FL.iRng1 (eBin addT (eVar 2) (eC (.int 1)))) (bN 5) (sSeq (sIf (tB (eBin cGe (eVar 5) (eVar 1))) (sAug addI 3 (eVar 4)) (sNil)) (sSet 4 (eBin mulT (eVar 4) (eVar 0))))) (sRet (eVar 3))))))
def φ_count_rows : Phi := runF 6 3 u_count_rows
theorem sc_count_rows : FnScope ["many", "least", "most", "total", "power", "length"] ["many", "least", "most"] (defScope s_count_rows) := ⟨rfl, rfl, rfl, by decide +kernel, rfl, by decide +kernel, by decide +kernel⟩
theorem ok_count_rows (hK : p.K = K) (F : FunC K "count_rows" s_count_rows f fd cA)
    (z_range : mg "range" = none) :
    FnF P w K mg base 1 f fd ["many", "least", "most"] p φ_count_rows := by
  refine fn_okC F sc_count_rows fun A outer s H E ex hr => ?_
  have hu := hr.units
  exact ss_cons (ss_if (sb_cmp (ot_eqX hK hu) (se_var (pv 2)) (se_int)) (ss_one (ss_ret (se_int))) (ss_nil)) (ss_cons (ss_if (sb_w (sw_or (sb_cmp ot_is (se_var (pv 0)) (se_non)) (sw_or1 (sb_cmp ot_is (se_var (pv 2)) (se_non))))) (ss_one (ss_ret (se_non))) (ss_nil)) (ss_cons (ss_set (i := 3) (se_int) sc_count_rows.nd) (ss_cons (ss_set (i := 4) (se_int) sc_count_rows.nd) (ss_cons (ss_for (g_name (i := 5) (vs := [5]) (by simp)) PassesOwn.never rfl (si_rng1 z_range (se_bin (ot_add hK) (se_var (pv 2)) (se_int))) (pg_name (i := 5) sc_count_rows.nd rfl (by first | exact .inl rfl | exact .inr rfl)) (ss_cons (ss_if (sb_cmp ot_ge (se_var (pv 5)) (se_var (pv 1))) (ss_one (ss_aug (i := 3) ot_iadd (se_var (pv 4)) sc_count_rows.nd)) (ss_nil)) (ss_one (ss_set (i := 4) (se_bin (ot_mul hK) (se_var (pv 4)) (se_var (pv 0))) sc_count_rows.nd)))) (ss_one (ss_ret (se_var (pv 3))))))))
abbrev s_add_counts : Stmt := top 29
def u_add_counts : SF := sSeq (sIf (tB (eBin cIn (eC .non) (eVar 0))) (sRet (eC .non)) (sNil)) (sRet (eB sumF (aCons (eVar 0) aNil)))
def φ_add_counts : Phi := runF 1 1 u_add_counts
theorem sc_add_counts : FnScope ["counts"] ["counts"] (defScope s_add_counts) := ⟨rfl, rfl, rfl, by decide +kernel, rfl, by decide +kernel, by decide +kernel⟩
theorem ok_add_counts (hK : p.K = K) (F : FunC K "add_counts" s_add_counts f fd cA)
    (z_sum : mg "sum" = none) :
    FnF P w K mg base 1 f fd ["counts"] p φ_add_counts := by
  refine fn_okC F sc_add_counts fun A outer s H E ex hr => ?_
  have hu := hr.units
  exact ss_cons (ss_if (sb_cmp (ot_in hK) (se_non) (se_var (pv 0))) (ss_one (ss_ret (se_non))) (ss_nil)) (ss_one (ss_ret (se_callB (ca_sum rfl) z_sum PyProof.Rows.Boot.«sum» (sa_cons (se_var (pv 0)) sa_nil))))
abbrev s_multiply_counts : Stmt := top 30
def u_multiply_counts : SF := sSeq (sIf (tB (eBin cIn (eC .non) (eVar 0))) (sRet (eC .non)) (sNil)) (sSeq (sSet 1 (eC (.int 1))) (sSeq (sFor (iSeq (eVar 0)) (bN 2) (sSet 1 (eBin mulT (eVar 1) (eVar 2)))) (sRet (eVar 1))))
def φ_multiply_counts : Phi := runF 3 1 u_multiply_counts
theorem sc_multiply_counts : FnScope ["counts", "product_so_far", "count"] ["counts"] (defScope s_multiply_counts) := ⟨rfl, rfl, rfl, by decide +kernel, rfl, by decide +kernel, by decide +kernel⟩
theorem ok_multiply_counts (hK : p.K = K) (F : FunC K "multiply_counts" s_multiply_counts f fd cA)
     :
    FnF P w K mg base 1 f fd ["counts"] p φ_multiply_counts := by
  refine fn_okC F sc_multiply_counts fun A outer s H E ex hr => ?_
  have hu := hr.units
  exact ss_cons (ss_if (sb_cmp (ot_in hK) (se_non) (se_var (pv 0))) (ss_one (ss_ret (se_non))) (ss_nil)) (ss_cons (ss_set (i := 1) (se_int) sc_multiply_counts.nd) (ss_cons (ss_for (g_name (i := 2) (vs := [2]) (by simp)) PassesOwn.never rfl (si_seq hK (se_var (pv 0))) (pg_name (i := 2) sc_multiply_counts.nd rfl (by first | exact .inl rfl | exact .inr rfl)) (ss_one (ss_set (i := 1) (se_bin (ot_mul hK) (se_var (pv 1)) (se_var (pv 2))) sc_multiply_counts.nd))) (ss_one (ss_ret (se_var (pv 1))))))
abbrev s_how_many_values : Stmt := top 27
def u_how_many_values (r_how_many_values : Phi) : SF := sSeq (sSet 1 (eIx (eVar 0) (eC (.int 0)))) (sSeq (sIf (tB (eBin cEqX (eVar 1) (eC (.str [105, 110, 116])))) (sRet (eIf (bOr (tB (eBin cIs (eIx (eVar 0) (eC (.int 1))) (eC .non))) (tB (eBin cIs (eIx (eVar 0) (eC (.int 2))) (eC .non)))) (eC .non) (eBin addT (eBin subT (eIx (eVar 0) (eC (.int 2))) (eIx (eVar 0) (eC (.int 1)))) (eC (.int 1))))) (sNil)) (sSeq (sIf (tB (eBin cEqX (eVar 1) (eC (.str [119, 111, 114, 100])))) (sRet (eCall 3 φ_count_rows (aCons (eB lenT (aCons (eIx (eVar 0) (eC (.int 1))) aNil)) (aCons (eIx (eVar 0) (eC (.int 2))) (aCons (eIx (eVar 0) (eC (.int 3))) aNil))))) (sNil)) (sSeq (sIf (tB (eBin cEqX (eVar 1) (eC (.str [111, 110, 101])))) (sRet (eIx (eVar 0) (eC (.int 1)))) (sNil)) (sSeq (sIf (tB (eBin cEqX (eVar 1) (eC (.str [109, 97, 110, 121])))) (sRet (eCall 3 φ_count_rows (aCons (eCall 1 r_how_many_values (aCons (eIx (eVar 0) (eC (.int 1))) aNil)) (aCons (eIx (eVar 0) (eC (.int 2))) (aCons (eIx (eVar 0) (eC (.int 3))) aNil))))) (sNil)) (sSeq (sIf (tB (eBin cEqX (eVar 1) (eC (.str [109, 97, 121, 98, 101])))) (sRet (eCall 1 φ_add_counts (aCons (eLst (aCons (eC (.int 1)) (aCons (eCall 1 r_how_many_values (aCons (eIx (eVar 0) (eC (.int 1))) aNil)) aNil))) aNil))) (sNil)) (sSeq (sSet 2 (lcF (iSeq (eIx (eVar 0) (eC (.int 1)))) (bN 3) (uYes) (eCall 1 r_how_many_values (aCons (eVar 3) aNil)) [3])) (sRet (eIf (tB (eBin cEqX (eVar 1) (eC (.str [99, 97, 115, 101])))) (eCall 1 φ_add_counts (aCons (eVar 2) aNil)) (eCall 1 φ_multiply_counts (aCons (eVar 2) aNil))))))))))
theorem sc_how_many_values : FnScope ["sort", "kind", "counts", "part"] ["sort"] (defScope s_how_many_values) := ⟨rfl, rfl, rfl, by decide +kernel, rfl, by decide +kernel, by decide +kernel⟩
theorem ok_how_many_values (hK : p.K = K) (F : FunC K "how_many_values" s_how_many_values f fd cA)
    (z_len : mg "len" = none)
    {f_count_rows : Addr} {fd_count_rows : FuncData} (G_count_rows : FnF P w K mg base 1 f_count_rows fd_count_rows ["many", "least", "most"] p φ_count_rows) (m_count_rows : mg "count_rows" = some (.ref f_count_rows)) (k_count_rows : PySem.W.keepIn K (.ref f_count_rows) = true) (b_count_rows : Binds K fd_count_rows ["many", "least", "most"] [])
    {f_add_counts : Addr} {fd_add_counts : FuncData} (G_add_counts : FnF P w K mg base 1 f_add_counts fd_add_counts ["counts"] p φ_add_counts) (m_add_counts : mg "add_counts" = some (.ref f_add_counts)) (k_add_counts : PySem.W.keepIn K (.ref f_add_counts) = true) (b_add_counts : Binds K fd_add_counts ["counts"] [])
    {f_multiply_counts : Addr} {fd_multiply_counts : FuncData} (G_multiply_counts : FnF P w K mg base 1 f_multiply_counts fd_multiply_counts ["counts"] p φ_multiply_counts) (m_multiply_counts : mg "multiply_counts" = some (.ref f_multiply_counts)) (k_multiply_counts : PySem.W.keepIn K (.ref f_multiply_counts) = true) (b_multiply_counts : Binds K fd_multiply_counts ["counts"] [])
    {kb : Nat} (hkb : 1 ≤ kb)
    {r_how_many_values : Phi} {f_how_many_values : Addr} {fd_how_many_values : FuncData} (G_how_many_values : FnF P w K mg base kb f_how_many_values fd_how_many_values ["sort"] p r_how_many_values) (m_how_many_values : mg "how_many_values" = some (.ref f_how_many_values)) (k_how_many_values : PySem.W.keepIn K (.ref f_how_many_values) = true) (b_how_many_values : Binds K fd_how_many_values ["sort"] []) :
    FnF P w K mg base (kb + 2) f fd ["sort"] p (runF 4 1 (u_how_many_values r_how_many_values)) := by
  refine fn_okC F sc_how_many_values fun A outer s H E ex hr => ?_
  have hu := hr.units
  exact ss_cons (ss_set (i := 1) (se_ix hK (se_var (pv 0)) (se_int)) sc_how_many_values.nd) (ss_cons (ss_if (sb_cmp (ot_eqX hK hu) (se_var (pv 1)) (se_str [105, 110, 116] rfl)) (ss_one (ss_ret (se_if (sb_w (sw_or (sb_cmp ot_is (se_ix hK (se_var (pv 0)) (se_int)) (se_non)) (sw_or1 (sb_cmp ot_is (se_ix hK (se_var (pv 0)) (se_int)) (se_non))))) (se_non) (se_bin (ot_add hK) (se_bin ot_sub (se_ix hK (se_var (pv 0)) (se_int)) (se_ix hK (se_var (pv 0)) (se_int))) (se_int))))) (ss_nil)) (ss_cons (ss_if (sb_cmp (ot_eqX hK hu) (se_var (pv 1)) (se_str [119, 111, 114, 100] rfl)) (ss_one (ss_ret (se_call (spF_ex G_count_rows) hr (by omega) m_count_rows k_count_rows b_count_rows (sa_cons (se_callB (ca_len hK) z_len PySem.boot_len (sa_cons (se_ix hK (se_var (pv 0)) (se_int)) sa_nil)) (sa_cons (se_ix hK (se_var (pv 0)) (se_int)) (sa_cons (se_ix hK (se_var (pv 0)) (se_int)) sa_nil)))))) (ss_nil)) (ss_cons (ss_if (sb_cmp (ot_eqX hK hu) (se_var (pv 1)) (se_str [111, 110, 101] rfl)) (ss_one (ss_ret (se_ix hK (se_var (pv 0)) (se_int)))) (ss_nil)) (ss_cons (ss_if (sb_cmp (ot_eqX hK hu) (se_var (pv 1)) (se_str [109, 97, 110, 121] rfl)) (ss_one (ss_ret (se_call (spF_ex G_count_rows) hr (by omega) m_count_rows k_count_rows b_count_rows (sa_cons (se_call (spF_ex G_how_many_values) hr (by omega) m_how_many_values k_how_many_values b_how_many_values (sa_cons (se_ix hK (se_var (pv 0)) (se_int)) sa_nil)) (sa_cons (se_ix hK (se_var (pv 0)) (se_int)) (sa_cons (se_ix hK (se_var (pv 0)) (se_int)) sa_nil)))))) (ss_nil)) (ss_cons (ss_if (sb_cmp (ot_eqX hK hu) (se_var (pv 1)) (se_str [109, 97, 121, 98, 101] rfl)) (ss_one (ss_ret (se_call (spF_ex G_add_counts) hr (by omega) m_add_counts k_add_counts b_add_counts (sa_cons (se_lst (sa_cons (se_int) (sa_cons (se_call (spF_ex G_how_many_values) hr (by omega) m_how_many_values k_how_many_values b_how_many_values (sa_cons (se_ix hK (se_var (pv 0)) (se_int)) sa_nil)) sa_nil))) sa_nil)))) (ss_nil)) (ss_cons (ss_setLc (i := 2) (own := [(("part" : Str), 3)]) (g_name (i := 3) (vs := [3]) (by simp)) rfl sc_how_many_values.nd (si_seq hK (se_ix hK (se_var (pv 0)) (se_int))) ⟨by rfl, by decide +kernel, (by show ∀ p ∈ [(("part" : Str), 3)], (["sort", "kind", "counts", "part"] : List Str)[p.2]? = some p.1; decide +kernel), (by show ∀ y ∈ (_ : List (Str × NameKind)), y.2 = NameKind.free → (defScope s_how_many_values).names.lookup y.1 = some .cell ∨ (defScope s_how_many_values).names.lookup y.1 = some .free; decide +kernel), (by show ∀ y ∈ (_ : List (Str × NameKind)), y.2 = NameKind.local ∨ y.2 = NameKind.cell → y.1 ∈ [(("part" : Str), 3)].map (·.1) ∨ y.1 ∉ (["sort", "kind", "counts", "part"] : List Str); decide +kernel)⟩ (fun s H C cl fp => pg_name (i := 3) sc_how_many_values.nd rfl (by first | exact .inl rfl | exact .inr rfl)) (fun s H C cl fp => pts_yes) (fun D s H C cl fp => se_call (spF_ex G_how_many_values) hr (by omega) m_how_many_values k_how_many_values b_how_many_values (sa_cons (se_var (pv 3)) sa_nil)) rfl) (ss_one (ss_ret (se_if (sb_cmp (ot_eqX hK hu) (se_var (pv 1)) (se_str [99, 97, 115, 101] rfl)) (se_call (spF_ex G_add_counts) hr (by omega) m_add_counts k_add_counts b_add_counts (sa_cons (se_var (pv 2)) sa_nil)) (se_call (spF_ex G_multiply_counts) hr (by omega) m_multiply_counts k_multiply_counts b_multiply_counts (sa_cons (se_var (pv 2)) sa_nil)))))))))))
def φn_how_many_values : Nat → Phi
  | 0 => fun _ _ => none
  | n + 1 => runF 4 1 (u_how_many_values (φn_how_many_values n))
theorem okn_how_many_values (hK : p.K = K) {f_how_many_values cA_how_many_values : Addr} {fd_how_many_values : FuncData} 
    (F_how_many_values : FunC K "how_many_values" s_how_many_values f_how_many_values fd_how_many_values cA_how_many_values) (m_how_many_values : mg "how_many_values" = some (.ref f_how_many_values)) (k_how_many_values : PySem.W.keepIn K (.ref f_how_many_values) = true) (b_how_many_values : Binds K fd_how_many_values ["sort"] [])
    (z_len : mg "len" = none)
    {f_count_rows : Addr} {fd_count_rows : FuncData} (G_count_rows : FnF P w K mg base 1 f_count_rows fd_count_rows ["many", "least", "most"] p φ_count_rows) (m_count_rows : mg "count_rows" = some (.ref f_count_rows)) (k_count_rows : PySem.W.keepIn K (.ref f_count_rows) = true) (b_count_rows : Binds K fd_count_rows ["many", "least", "most"] [])
    {f_add_counts : Addr} {fd_add_counts : FuncData} (G_add_counts : FnF P w K mg base 1 f_add_counts fd_add_counts ["counts"] p φ_add_counts) (m_add_counts : mg "add_counts" = some (.ref f_add_counts)) (k_add_counts : PySem.W.keepIn K (.ref f_add_counts) = true) (b_add_counts : Binds K fd_add_counts ["counts"] [])
    {f_multiply_counts : Addr} {fd_multiply_counts : FuncData} (G_multiply_counts : FnF P w K mg base 1 f_multiply_counts fd_multiply_counts ["counts"] p φ_multiply_counts) (m_multiply_counts : mg "multiply_counts" = some (.ref f_multiply_counts)) (k_multiply_counts : PySem.W.keepIn K (.ref f_multiply_counts) = true) (b_multiply_counts : Binds K fd_multiply_counts ["counts"] []) :
    ∀ n : Nat, FnF P w K mg base (1 + 2 * n) f_how_many_values fd_how_many_values ["sort"] p (φn_how_many_values n) := by
  intro n
  induction n with
  | zero => exact fn_none
  | succ n ih => exact ok_how_many_values (hK := hK) (F := F_how_many_values) (hkb := Nat.le_add_right _ _) (z_len := z_len) (G_count_rows := G_count_rows) (m_count_rows := m_count_rows) (k_count_rows := k_count_rows) (b_count_rows := b_count_rows) (G_add_counts := G_add_counts) (m_add_counts := m_add_counts) (k_add_counts := k_add_counts) (b_add_counts := b_add_counts) (G_multiply_counts := G_multiply_counts) (m_multiply_counts := m_multiply_counts) (k_multiply_counts := k_multiply_counts) (b_multiply_counts := b_multiply_counts) (G_how_many_values := ih) (m_how_many_values := m_how_many_values) (k_how_many_values := k_how_many_values) (b_how_many_values := b_how_many_values)
abbrev φ_how_many_values : Phi := φn_how_many_values 12
abbrev s__law_power : Stmt := top 32
def u__law_power : SF := sSeq (sSet 2 (eC (.int 1))) (sSeq (sFor (FL.iRng1 (eVar 1)) (bN 3) (sSet 2 (eBin mulT (eVar 2) (eVar 0)))) (sRet (eVar 2)))
def φ__law_power : Phi := runF 4 2 u__law_power
theorem sc__law_power : FnScope ["base", "many", "found", "turn"] ["base", "many"] (defScope s__law_power) := ⟨rfl, rfl, rfl, by decide +kernel, rfl, by decide +kernel, by decide +kernel⟩
theorem ok__law_power (hK : p.K = K) (F : FunC K "_law_power" s__law_power f fd cA)
    (z_range : mg "range" = none) :
    FnF P w K mg base 1 f fd ["base", "many"] p φ__law_power := by
  refine fn_okC F sc__law_power fun A outer s H E ex hr => ?_
  have hu := hr.units
  exact ss_cons (ss_set (i := 2) (se_int) sc__law_power.nd) (ss_cons (ss_for (g_name (i := 3) (vs := [3]) (by simp)) PassesOwn.never rfl (si_rng1 z_range (se_var (pv 1))) (pg_name (i := 3) sc__law_power.nd rfl (by first | exact .inl rfl | exact .inr rfl)) (ss_one (ss_set (i := 2) (se_bin (ot_mul hK) (se_var (pv 2)) (se_var (pv 0))) sc__law_power.nd))) (ss_one (ss_ret (se_var (pv 2)))))
abbrev s__law_cell_at : Stmt := top 33
def u__law_cell_at : SF := sSeq (sIf (tB (eBin cLt (eVar 1) (eB lenT (aCons (eVar 0) aNil)))) (sRet (eIx (eVar 0) (eVar 1))) (sNil)) (sRet (eC (.int 0)))
def φ__law_cell_at : Phi := runF 2 2 u__law_cell_at
theorem sc__law_cell_at : FnScope ["script", "k"] ["script", "k"] (defScope s__law_cell_at) := ⟨rfl, rfl, rfl, by decide +kernel, rfl, by decide +kernel, by decide +kernel⟩
theorem ok__law_cell_at (hK : p.K = K) (F : FunC K "_law_cell_at" s__law_cell_at f fd cA)
    (z_len : mg "len" = none) :
    FnF P w K mg base 1 f fd ["script", "k"] p φ__law_cell_at := by
  refine fn_okC F sc__law_cell_at fun A outer s H E ex hr => ?_
  have hu := hr.units
  exact ss_cons (ss_if (sb_cmp ot_lt (se_var (pv 1)) (se_callB (ca_len hK) z_len PySem.boot_len (sa_cons (se_var (pv 0)) sa_nil))) (ss_one (ss_ret (se_ix hK (se_var (pv 0)) (se_var (pv 1))))) (ss_nil)) (ss_one (ss_ret (se_int)))
abbrev s__law_draw : Stmt := top 34
def u__law_draw : SF := sSeq (sSet 3 (eTup (aCons (eC (.int 1000003)) (aCons (eC (.int 1000033)) (aCons (eC (.int 1000037)) (aCons (eC (.int 1000039)) (aCons (eC (.int 1000081)) (aCons (eC (.int 1000099)) (aCons (eC (.int 1000117)) (aCons (eC (.int 1000121)) (aCons (eC (.int 1000133)) (aCons (eC (.int 1000151)) (aCons (eC (.int 1000159)) (aCons (eC (.int 1000171)) (aCons (eC (.int 1000183)) (aCons (eC (.int 1000187)) (aCons (eC (.int 1000193)) (aCons (eC (.int 1000199)) aNil)))))))))))))))))) (sRet (eBin modT (eBin modT (eB intF (aCons (eBin addT (eBin mulT (eVar 0) (eC (.int 48271))) (eBin mulT (eVar 1) (eC (.int 69621)))) aNil)) (eIx (eVar 3) (eBin modT (eB intF (aCons (eVar 1) aNil)) (eC (.int 16))))) (eVar 2)))
def φ__law_draw : Phi := runF 4 3 u__law_draw
theorem sc__law_draw : FnScope ["cell", "k", "bound", "primes"] ["cell", "k", "bound"] (defScope s__law_draw) := ⟨rfl, rfl, rfl, by decide +kernel, rfl, by decide +kernel, by decide +kernel⟩
theorem ok__law_draw (hK : p.K = K) (F : FunC K "_law_draw" s__law_draw f fd cA)
    (z_int : mg "int" = none) :
    FnF P w K mg base 1 f fd ["cell", "k", "bound"] p φ__law_draw := by
  refine fn_okC F sc__law_draw fun A outer s H E ex hr => ?_
  have hu := hr.units
  exact ss_cons (ss_set (i := 3) (se_tup (sa_cons (se_int) (sa_cons (se_int) (sa_cons (se_int) (sa_cons (se_int) (sa_cons (se_int) (sa_cons (se_int) (sa_cons (se_int) (sa_cons (se_int) (sa_cons (se_int) (sa_cons (se_int) (sa_cons (se_int) (sa_cons (se_int) (sa_cons (se_int) (sa_cons (se_int) (sa_cons (se_int) (sa_cons (se_int) sa_nil))))))))))))))))) sc__law_draw.nd) (ss_one (ss_ret (se_bin ot_mod (se_bin ot_mod (se_callT ca_int z_int PyProof.Rows.boot_int (sa_cons (se_bin (ot_add hK) (se_bin (ot_mul hK) (se_var (pv 0)) (se_int)) (se_bin (ot_mul hK) (se_var (pv 1)) (se_int))) sa_nil)) (se_ix hK (se_var (pv 3)) (se_bin ot_mod (se_callT ca_int z_int PyProof.Rows.boot_int (sa_cons (se_var (pv 1)) sa_nil)) (se_int)))) (se_var (pv 2)))))
abbrev s__law_number : Stmt := top 35
def u__law_number : SF := sSeq (sSet 3 (eC (.int 1))) (sSeq (sFor (FL.iRng1 (eBin modT (eB intF (aCons (eVar 1) aNil)) (eC (.int 24)))) (bN 4) (sSet 3 (eBin mulT (eVar 3) (eC (.int 1009))))) (sSeq (sSet 5 (eBin divT (eBin subT (eVar 0) (eBin powT (eC (.int 10)) (eC (.int 18)))) (eVar 3))) (sSeq (sIf (tB (eBin cGt (eVar 5) (eC (.int 0)))) (sRet (eBin modT (eBin modT (eB intF (aCons (eVar 5) aNil)) (eC (.int 1009))) (eVar 2))) (sNil)) (sSeq (sSet 6 (eBin modT (eB intF (aCons (eVar 0) aNil)) (eC (.int 1000003)))) (sRet (eBin modT (eCall 3 φ__law_draw (aCons (eBin mulT (eBin addT (eVar 6) (eBin mulT (eC (.int 977)) (eVar 1))) (eBin addT (eBin addT (eVar 6) (eBin mulT (eC (.int 31)) (eVar 1))) (eC (.int 5)))) (aCons (eBin addT (eBin modT (eB intF (aCons (eVar 1) aNil)) (eC (.int 9))) (eC (.int 1))) (aCons (eC (.int 999983)) aNil)))) (eVar 2)))))))
def φ__law_number : Phi := runF 7 3 u__law_number
theorem sc__law_number : FnScope ["cell", "k", "bound", "power", "lap", "remains", "small"] ["cell", "k", "bound"] (defScope s__law_number) := ⟨rfl, rfl, rfl, by decide +kernel, rfl, by decide +kernel, by decide +kernel⟩
theorem ok__law_number (hK : p.K = K) (F : FunC K "_law_number" s__law_number f fd cA)
    (z_range : mg "range" = none)
    (z_int : mg "int" = none)
    {f__law_draw : Addr} {fd__law_draw : FuncData} (G__law_draw : FnF P w K mg base 1 f__law_draw fd__law_draw ["cell", "k", "bound"] p φ__law_draw) (m__law_draw : mg "_law_draw" = some (.ref f__law_draw)) (k__law_draw : PySem.W.keepIn K (.ref f__law_draw) = true) (b__law_draw : Binds K fd__law_draw ["cell", "k", "bound"] []) :
    FnF P w K mg base 2 f fd ["cell", "k", "bound"] p φ__law_number := by
  refine fn_okC F sc__law_number fun A outer s H E ex hr => ?_
  have hu := hr.units
  exact ss_cons (ss_set (i := 3) (se_int) sc__law_number.nd) (ss_cons (ss_for (g_name (i := 4) (vs := [4]) (by simp)) PassesOwn.never rfl (si_rng1 z_range (se_bin ot_mod (se_callT ca_int z_int PyProof.Rows.boot_int (sa_cons (se_var (pv 1)) sa_nil)) (se_int))) (pg_name (i := 4) sc__law_number.nd rfl (by first | exact .inl rfl | exact .inr rfl)) (ss_one (ss_set (i := 3) (se_bin (ot_mul hK) (se_var (pv 3)) (se_int)) sc__law_number.nd))) (ss_cons (ss_set (i := 5) (se_bin ot_div (se_bin ot_sub (se_var (pv 0)) (se_bin ot_pow (se_int) (se_int))) (se_var (pv 3))) sc__law_number.nd) (ss_cons (ss_if (sb_cmp ot_gt (se_var (pv 5)) (se_int)) (ss_one (ss_ret (se_bin ot_mod (se_bin ot_mod (se_callT ca_int z_int PyProof.Rows.boot_int (sa_cons (se_var (pv 5)) sa_nil)) (se_int)) (se_var (pv 2))))) (ss_nil)) (ss_cons (ss_set (i := 6) (se_bin ot_mod (se_callT ca_int z_int PyProof.Rows.boot_int (sa_cons (se_var (pv 0)) sa_nil)) (se_int)) sc__law_number.nd) (ss_one (ss_ret (se_bin ot_mod (se_call (spF_ex G__law_draw) hr (by omega) m__law_draw k__law_draw b__law_draw (sa_cons (se_bin (ot_mul hK) (se_bin (ot_add hK) (se_var (pv 6)) (se_bin (ot_mul hK) (se_int) (se_var (pv 1)))) (se_bin (ot_add hK) (se_bin (ot_add hK) (se_var (pv 6)) (se_bin (ot_mul hK) (se_int) (se_var (pv 1)))) (se_int))) (sa_cons (se_bin (ot_add hK) (se_bin ot_mod (se_callT ca_int z_int PyProof.Rows.boot_int (sa_cons (se_var (pv 1)) sa_nil)) (se_int)) (se_int)) (sa_cons (se_int) sa_nil)))) (se_var (pv 2)))))))))
abbrev s__law_next : Stmt := top 36
def u__law_next : SF := sSeq (sDr 2 (eBin addT (eIx (eVar 0) (eC (.int 2))) (eC (.int 1))) (eVar 0)) (sSeq (sSet 2 (eBin divT (eIx (eVar 0) (eC (.int 2))) (eC (.int 12)))) (sSeq (sSet 3 (eBin addT (eCall 2 φ__law_cell_at (aCons (eIx (eVar 0) (eC (.int 0))) (aCons (eBin addT (eIx (eVar 0) (eC (.int 1))) (eVar 2)) aNil))) (eBin mulT (eC (.int 31)) (eVar 2)))) (sRet (eCall 3 φ__law_number (aCons (eVar 3) (aCons (eBin addT (eBin modT (eB intF (aCons (eIx (eVar 0) (eC (.int 2))) aNil)) (eC (.int 12))) (eC (.int 1))) (aCons (eVar 1) aNil)))))))
def φ__law_next : Phi := runF 4 2 u__law_next
theorem sc__law_next : FnScope ["draw", "bound", "at", "cell"] ["draw", "bound"] (defScope s__law_next) := ⟨rfl, rfl, rfl, by decide +kernel, rfl, by decide +kernel, by decide +kernel⟩
theorem ok__law_next (hK : p.K = K) (F : FunC K "_law_next" s__law_next f fd cA)
    (z_int : mg "int" = none)
    {f__law_cell_at : Addr} {fd__law_cell_at : FuncData} (G__law_cell_at : FnF P w K mg base 1 f__law_cell_at fd__law_cell_at ["script", "k"] p φ__law_cell_at) (m__law_cell_at : mg "_law_cell_at" = some (.ref f__law_cell_at)) (k__law_cell_at : PySem.W.keepIn K (.ref f__law_cell_at) = true) (b__law_cell_at : Binds K fd__law_cell_at ["script", "k"] [])
    {f__law_number : Addr} {fd__law_number : FuncData} (G__law_number : FnF P w K mg base 2 f__law_number fd__law_number ["cell", "k", "bound"] p φ__law_number) (m__law_number : mg "_law_number" = some (.ref f__law_number)) (k__law_number : PySem.W.keepIn K (.ref f__law_number) = true) (b__law_number : Binds K fd__law_number ["cell", "k", "bound"] []) :
    FnF P w K mg base 3 f fd ["draw", "bound"] p φ__law_next := by
  refine fn_okC F sc__law_next fun A outer s H E ex hr => ?_
  have hu := hr.units
  exact ss_cons (ss_dr (k := 2) (se_bin (ot_add hK) (se_ix hK (se_var (pv 0)) (se_int)) (se_int)) (se_var (pv 0))) (ss_cons (ss_set (i := 2) (se_bin ot_div (se_ix hK (se_var (pv 0)) (se_int)) (se_int)) sc__law_next.nd) (ss_cons (ss_set (i := 3) (se_bin (ot_add hK) (se_call (spF_ex G__law_cell_at) hr (by omega) m__law_cell_at k__law_cell_at b__law_cell_at (sa_cons (se_ix hK (se_var (pv 0)) (se_int)) (sa_cons (se_bin (ot_add hK) (se_ix hK (se_var (pv 0)) (se_int)) (se_var (pv 2))) sa_nil))) (se_bin (ot_mul hK) (se_int) (se_var (pv 2)))) sc__law_next.nd) (ss_one (ss_ret (se_call (spF_ex G__law_number) hr (by omega) m__law_number k__law_number b__law_number (sa_cons (se_var (pv 3)) (sa_cons (se_bin (ot_add hK) (se_bin ot_mod (se_callT ca_int z_int PyProof.Rows.boot_int (sa_cons (se_ix hK (se_var (pv 0)) (se_int)) sa_nil)) (se_int)) (se_int)) (sa_cons (se_var (pv 1)) sa_nil))))))))
abbrev s__law_pick : Stmt := top 37
def u__law_pick : SF := sRet (eIx (eVar 1) (eCall 2 φ__law_next (aCons (eVar 0) (aCons (eB lenT (aCons (eVar 1) aNil)) aNil))))
def φ__law_pick : Phi := runF 2 2 u__law_pick
theorem sc__law_pick : FnScope ["draw", "things"] ["draw", "things"] (defScope s__law_pick) := ⟨rfl, rfl, rfl, by decide +kernel, rfl, by decide +kernel, by decide +kernel⟩
theorem ok__law_pick (hK : p.K = K) (F : FunC K "_law_pick" s__law_pick f fd cA)
    (z_len : mg "len" = none)
    {f__law_next : Addr} {fd__law_next : FuncData} (G__law_next : FnF P w K mg base 3 f__law_next fd__law_next ["draw", "bound"] p φ__law_next) (m__law_next : mg "_law_next" = some (.ref f__law_next)) (k__law_next : PySem.W.keepIn K (.ref f__law_next) = true) (b__law_next : Binds K fd__law_next ["draw", "bound"] []) :
    FnF P w K mg base 4 f fd ["draw", "things"] p φ__law_pick := by
  refine fn_okC F sc__law_pick fun A outer s H E ex hr => ?_
  have hu := hr.units
  exact ss_one (ss_ret (se_ix hK (se_var (pv 1)) (se_call (spF_ex G__law_next) hr (by omega) m__law_next k__law_next b__law_next (sa_cons (se_var (pv 0)) (sa_cons (se_callB (ca_len hK) z_len PySem.boot_len (sa_cons (se_var (pv 1)) sa_nil)) sa_nil)))))
abbrev s__law_sort : Stmt := top 38
def u__law_sort (r__law_sort : Phi) : SF := sSeq (sSet 2 (eCall 2 φ__law_next (aCons (eVar 0) (aCons (eIf (tB (eBin cEqX (eVar 1) (eC (.int 0)))) (eC (.int 4)) (eC (.int 10))) aNil)))) (sSeq (sIf (tB (eBin cLt (eVar 2) (eC (.int 2)))) (sSeq (sTup [3, 4] (eCall 2 φ__law_pick (aCons (eVar 0) (aCons (eLst (aCons (eTup (aCons (eC (.int 0)) (aCons (eC .non) aNil))) (aCons (eTup (aCons (eC .non) (aCons (eC .non) aNil))) (aCons (eTup (aCons (eC (.int 0)) (aCons (eC (.int 3)) aNil))) (aCons (eTup (aCons (eNeg (eC (.int 2))) (aCons (eC (.int 5)) aNil))) (aCons (eTup (aCons (eC (.int 5)) (aCons (eC (.int 12)) aNil))) (aCons (eTup (aCons (eC (.int 0)) (aCons (eC (.int 1)) aNil))) (aCons (eTup (aCons (eC .non) (aCons (eC (.int 2)) aNil))) (aCons (eTup (aCons (eNeg (eC (.int 4))) (aCons (eNeg (eC (.int 1))) aNil))) aNil))))))))) aNil)))) (sRet (eTup (aCons (eC (.str [105, 110, 116])) (aCons (eVar 3) (aCons (eVar 4) aNil)))))) (sNil)) (sSeq (sIf (tB (eBin cEqX (eVar 2) (eC (.int 2)))) (sSeq (sSet 5 (eCall 2 φ__law_next (aCons (eVar 0) (aCons (eC (.int 2)) aNil)))) (sRet (eTup (aCons (eC (.str [119, 111, 114, 100])) (aCons (eCall 2 φ__law_pick (aCons (eVar 0) (aCons (eLst (aCons (eC (.str [97, 98])) (aCons (eC (.str [48, 97])) (aCons (eC (.str [45, 101])) (aCons (eC (.str [98])) (aCons (eC (.str [32, 44])) aNil)))))) aNil))) (aCons (eVar 5) (aCons (eCall 2 φ__law_pick (aCons (eVar 0) (aCons (eLst (aCons (eC .non) (aCons (eC (.int 2)) (aCons (eVar 5) aNil)))) aNil))) aNil))))))) (sNil)) (sSeq (sIf (tB (eBin cEqX (eVar 2) (eC (.int 3)))) (sRet (eTup (aCons (eC (.str [111, 110, 101])) (aCons (eBin addT (eC (.int 1)) (eCall 2 φ__law_next (aCons (eVar 0) (aCons (eC (.int 3)) aNil)))) aNil)))) (sNil)) (sSeq (sIf (tB (eBin cEqX (eVar 2) (eC (.int 4)))) (sRet (eTup (aCons (eC (.str [109, 97, 121, 98, 101])) (aCons (eCall 2 r__law_sort (aCons (eVar 0) (aCons (eBin subT (eVar 1) (eC (.int 1))) aNil))) aNil)))) (sNil)) (sSeq (sIf (tB (eBin cLt (eVar 2) (eC (.int 8)))) (sRet (eTup (aCons (eC (.str [114, 111, 119])) (aCons (eB tupF (aCons (lcF (FL.iRng1 (eCall 2 φ__law_next (aCons (eVar 0) (aCons (eC (.int 3)) aNil)))) (bN 6) (uYes) (eCall 2 r__law_sort (aCons (eVar 0) (aCons (eBin subT (eVar 1) (eC (.int 1))) aNil))) [6]) aNil)) aNil)))) (sNil)) (sSeq (sIf (tB (eBin cEqX (eVar 2) (eC (.int 8)))) (sSeq (sSet 5 (eCall 2 φ__law_next (aCons (eVar 0) (aCons (eC (.int 2)) aNil)))) (sRet (eTup (aCons (eC (.str [109, 97, 110, 121])) (aCons (eCall 2 r__law_sort (aCons (eVar 0) (aCons (eBin subT (eVar 1) (eC (.int 1))) aNil))) (aCons (eVar 5) (aCons (eCall 2 φ__law_pick (aCons (eVar 0) (aCons (eLst (aCons (eC .non) (aCons (eC (.int 2)) (aCons (eVar 5) aNil)))) aNil))) aNil))))))) (sNil)) (sRet (eTup (aCons (eC (.str [99, 97, 115, 101])) (aCons (eB tupF (aCons (lcF (FL.iRng1 (eBin addT (eC (.int 1)) (eCall 2 φ__law_next (aCons (eVar 0) (aCons (eC (.int 2)) aNil))))) (bN 6) (uYes) (eCall 2 r__law_sort (aCons (eVar 0) (aCons (eBin subT (eVar 1) (eC (.int 1))) aNil))) [6]) aNil)) aNil))))))))))
theorem sc__law_sort : FnScope ["draw", "deep", "kind", "low", "high", "least", "part"] ["draw", "deep"] (defScope s__law_sort) := ⟨rfl, rfl, rfl, by decide +kernel, rfl, by decide +kernel, by decide +kernel⟩
theorem ok__law_sort (hK : p.K = K) (F : FunC K "_law_sort" s__law_sort f fd cA)
    (z_tuple : mg "tuple" = none)
    (z_range : mg "range" = none)
    {f__law_next : Addr} {fd__law_next : FuncData} (G__law_next : FnF P w K mg base 3 f__law_next fd__law_next ["draw", "bound"] p φ__law_next) (m__law_next : mg "_law_next" = some (.ref f__law_next)) (k__law_next : PySem.W.keepIn K (.ref f__law_next) = true) (b__law_next : Binds K fd__law_next ["draw", "bound"] [])
    {f__law_pick : Addr} {fd__law_pick : FuncData} (G__law_pick : FnF P w K mg base 4 f__law_pick fd__law_pick ["draw", "things"] p φ__law_pick) (m__law_pick : mg "_law_pick" = some (.ref f__law_pick)) (k__law_pick : PySem.W.keepIn K (.ref f__law_pick) = true) (b__law_pick : Binds K fd__law_pick ["draw", "things"] [])
    {kb : Nat} (hkb : 4 ≤ kb)
    {r__law_sort : Phi} {f__law_sort : Addr} {fd__law_sort : FuncData} (G__law_sort : FnF P w K mg base kb f__law_sort fd__law_sort ["draw", "deep"] p r__law_sort) (m__law_sort : mg "_law_sort" = some (.ref f__law_sort)) (k__law_sort : PySem.W.keepIn K (.ref f__law_sort) = true) (b__law_sort : Binds K fd__law_sort ["draw", "deep"] []) :
    FnF P w K mg base (kb + 2) f fd ["draw", "deep"] p (runF 7 2 (u__law_sort r__law_sort)) := by
  refine fn_okC F sc__law_sort fun A outer s H E ex hr => ?_
  have hu := hr.units
  exact ss_cons (ss_set (i := 2) (se_call (spF_ex G__law_next) hr (by omega) m__law_next k__law_next b__law_next (sa_cons (se_var (pv 0)) (sa_cons (se_if (sb_cmp (ot_eqX hK hu) (se_var (pv 1)) (se_int)) (se_int) (se_int)) sa_nil))) sc__law_sort.nd) (ss_cons (ss_if (sb_cmp ot_lt (se_var (pv 2)) (se_int)) (ss_cons (ss_tup (is := [3, 4]) hK rfl (se_call (spF_ex G__law_pick) hr (by omega) m__law_pick k__law_pick b__law_pick (sa_cons (se_var (pv 0)) (sa_cons (se_lst (sa_cons (se_tup (sa_cons (se_int) (sa_cons (se_non) sa_nil))) (sa_cons (se_tup (sa_cons (se_non) (sa_cons (se_non) sa_nil))) (sa_cons (se_tup (sa_cons (se_int) (sa_cons (se_int) sa_nil))) (sa_cons (se_tup (sa_cons (se_neg (se_int)) (sa_cons (se_int) sa_nil))) (sa_cons (se_tup (sa_cons (se_int) (sa_cons (se_int) sa_nil))) (sa_cons (se_tup (sa_cons (se_int) (sa_cons (se_int) sa_nil))) (sa_cons (se_tup (sa_cons (se_non) (sa_cons (se_int) sa_nil))) (sa_cons (se_tup (sa_cons (se_neg (se_int)) (sa_cons (se_neg (se_int)) sa_nil))) sa_nil))))))))) sa_nil))) (pgs_cons (pg_name (i := 3) sc__law_sort.nd rfl (by first | exact .inl rfl | exact .inr rfl)) (pgs_cons (pg_name (i := 4) sc__law_sort.nd rfl (by first | exact .inl rfl | exact .inr rfl)) (pgs_nil)))) (ss_one (ss_ret (se_tup (sa_cons (se_str [105, 110, 116] rfl) (sa_cons (se_var (pv 3)) (sa_cons (se_var (pv 4)) sa_nil))))))) (ss_nil)) (ss_cons (ss_if (sb_cmp (ot_eqX hK hu) (se_var (pv 2)) (se_int)) (ss_cons (ss_set (i := 5) (se_call (spF_ex G__law_next) hr (by omega) m__law_next k__law_next b__law_next (sa_cons (se_var (pv 0)) (sa_cons (se_int) sa_nil))) sc__law_sort.nd) (ss_one (ss_ret (se_tup (sa_cons (se_str [119, 111, 114, 100] rfl) (sa_cons (se_call (spF_ex G__law_pick) hr (by omega) m__law_pick k__law_pick b__law_pick (sa_cons (se_var (pv 0)) (sa_cons (se_lst (sa_cons (se_str [97, 98] rfl) (sa_cons (se_str [48, 97] rfl) (sa_cons (se_str [45, 101] rfl) (sa_cons (se_str [98] rfl) (sa_cons (se_str [32, 44] rfl) sa_nil)))))) sa_nil))) (sa_cons (se_var (pv 5)) (sa_cons (se_call (spF_ex G__law_pick) hr (by omega) m__law_pick k__law_pick b__law_pick (sa_cons (se_var (pv 0)) (sa_cons (se_lst (sa_cons (se_non) (sa_cons (se_int) (sa_cons (se_var (pv 5)) sa_nil)))) sa_nil))) sa_nil)))))))) (ss_nil)) (ss_cons (ss_if (sb_cmp (ot_eqX hK hu) (se_var (pv 2)) (se_int)) (ss_one (ss_ret (se_tup (sa_cons (se_str [111, 110, 101] rfl) (sa_cons (se_bin (ot_add hK) (se_int) (se_call (spF_ex G__law_next) hr (by omega) m__law_next k__law_next b__law_next (sa_cons (se_var (pv 0)) (sa_cons (se_int) sa_nil)))) sa_nil))))) (ss_nil)) (ss_cons (ss_if (sb_cmp (ot_eqX hK hu) (se_var (pv 2)) (se_int)) (ss_one (ss_ret (se_tup (sa_cons (se_str [109, 97, 121, 98, 101] rfl) (sa_cons (se_call (spF_ex G__law_sort) hr (by omega) m__law_sort k__law_sort b__law_sort (sa_cons (se_var (pv 0)) (sa_cons (se_bin ot_sub (se_var (pv 1)) (se_int)) sa_nil))) sa_nil))))) (ss_nil)) (ss_cons (ss_if (sb_cmp ot_lt (se_var (pv 2)) (se_int)) (ss_one (ss_ret (se_tup (sa_cons (se_str [114, 111, 119] rfl) (sa_cons (se_callT (ca_tuple hK) z_tuple PyProof.Rows.Boot.«tuple» (sa_cons (se_lc (own := [(("part" : Str), 6)]) (g_name (i := 6) (vs := [6]) (by simp)) rfl sc__law_sort.nd (si_rng1 z_range (se_call (spF_ex G__law_next) hr (by omega) m__law_next k__law_next b__law_next (sa_cons (se_var (pv 0)) (sa_cons (se_int) sa_nil)))) ⟨by rfl, by decide +kernel, (by show ∀ p ∈ [(("part" : Str), 6)], (["draw", "deep", "kind", "low", "high", "least", "part"] : List Str)[p.2]? = some p.1; decide +kernel), (by show ∀ y ∈ (_ : List (Str × NameKind)), y.2 = NameKind.free → (defScope s__law_sort).names.lookup y.1 = some .cell ∨ (defScope s__law_sort).names.lookup y.1 = some .free; decide +kernel), (by show ∀ y ∈ (_ : List (Str × NameKind)), y.2 = NameKind.local ∨ y.2 = NameKind.cell → y.1 ∈ [(("part" : Str), 6)].map (·.1) ∨ y.1 ∉ (["draw", "deep", "kind", "low", "high", "least", "part"] : List Str); decide +kernel)⟩ (fun s H C cl fp => pg_name (i := 6) sc__law_sort.nd rfl (by first | exact .inl rfl | exact .inr rfl)) (fun s H C cl fp => pts_yes) (fun D s H C cl fp => se_call (spF_ex G__law_sort) hr (by omega) m__law_sort k__law_sort b__law_sort (sa_cons (se_var (pv 0)) (sa_cons (se_bin ot_sub (se_var (pv 1)) (se_int)) sa_nil)))) sa_nil)) sa_nil))))) (ss_nil)) (ss_cons (ss_if (sb_cmp (ot_eqX hK hu) (se_var (pv 2)) (se_int)) (ss_cons (ss_set (i := 5) (se_call (spF_ex G__law_next) hr (by omega) m__law_next k__law_next b__law_next (sa_cons (se_var (pv 0)) (sa_cons (se_int) sa_nil))) sc__law_sort.nd) (ss_one (ss_ret (se_tup (sa_cons (se_str [109, 97, 110, 121] rfl) (sa_cons (se_call (spF_ex G__law_sort) hr (by omega) m__law_sort k__law_sort b__law_sort (sa_cons (se_var (pv 0)) (sa_cons (se_bin ot_sub (se_var (pv 1)) (se_int)) sa_nil))) (sa_cons (se_var (pv 5)) (sa_cons (se_call (spF_ex G__law_pick) hr (by omega) m__law_pick k__law_pick b__law_pick (sa_cons (se_var (pv 0)) (sa_cons (se_lst (sa_cons (se_non) (sa_cons (se_int) (sa_cons (se_var (pv 5)) sa_nil)))) sa_nil))) sa_nil)))))))) (ss_nil)) (ss_one (ss_ret (se_tup (sa_cons (se_str [99, 97, 115, 101] rfl) (sa_cons (se_callT (ca_tuple hK) z_tuple PyProof.Rows.Boot.«tuple» (sa_cons (se_lc (own := [(("part" : Str), 6)]) (g_name (i := 6) (vs := [6]) (by simp)) rfl sc__law_sort.nd (si_rng1 z_range (se_bin (ot_add hK) (se_int) (se_call (spF_ex G__law_next) hr (by omega) m__law_next k__law_next b__law_next (sa_cons (se_var (pv 0)) (sa_cons (se_int) sa_nil))))) ⟨by rfl, by decide +kernel, (by show ∀ p ∈ [(("part" : Str), 6)], (["draw", "deep", "kind", "low", "high", "least", "part"] : List Str)[p.2]? = some p.1; decide +kernel), (by show ∀ y ∈ (_ : List (Str × NameKind)), y.2 = NameKind.free → (defScope s__law_sort).names.lookup y.1 = some .cell ∨ (defScope s__law_sort).names.lookup y.1 = some .free; decide +kernel), (by show ∀ y ∈ (_ : List (Str × NameKind)), y.2 = NameKind.local ∨ y.2 = NameKind.cell → y.1 ∈ [(("part" : Str), 6)].map (·.1) ∨ y.1 ∉ (["draw", "deep", "kind", "low", "high", "least", "part"] : List Str); decide +kernel)⟩ (fun s H C cl fp => pg_name (i := 6) sc__law_sort.nd rfl (by first | exact .inl rfl | exact .inr rfl)) (fun s H C cl fp => pts_yes) (fun D s H C cl fp => se_call (spF_ex G__law_sort) hr (by omega) m__law_sort k__law_sort b__law_sort (sa_cons (se_var (pv 0)) (sa_cons (se_bin ot_sub (se_var (pv 1)) (se_int)) sa_nil)))) sa_nil)) sa_nil)))))))))))
def φn__law_sort : Nat → Phi
  | 0 => fun _ _ => none
  | n + 1 => runF 7 2 (u__law_sort (φn__law_sort n))
theorem okn__law_sort (hK : p.K = K) {f__law_sort cA__law_sort : Addr} {fd__law_sort : FuncData} 
    (F__law_sort : FunC K "_law_sort" s__law_sort f__law_sort fd__law_sort cA__law_sort) (m__law_sort : mg "_law_sort" = some (.ref f__law_sort)) (k__law_sort : PySem.W.keepIn K (.ref f__law_sort) = true) (b__law_sort : Binds K fd__law_sort ["draw", "deep"] [])
    (z_tuple : mg "tuple" = none)
    (z_range : mg "range" = none)
    {f__law_next : Addr} {fd__law_next : FuncData} (G__law_next : FnF P w K mg base 3 f__law_next fd__law_next ["draw", "bound"] p φ__law_next) (m__law_next : mg "_law_next" = some (.ref f__law_next)) (k__law_next : PySem.W.keepIn K (.ref f__law_next) = true) (b__law_next : Binds K fd__law_next ["draw", "bound"] [])
    {f__law_pick : Addr} {fd__law_pick : FuncData} (G__law_pick : FnF P w K mg base 4 f__law_pick fd__law_pick ["draw", "things"] p φ__law_pick) (m__law_pick : mg "_law_pick" = some (.ref f__law_pick)) (k__law_pick : PySem.W.keepIn K (.ref f__law_pick) = true) (b__law_pick : Binds K fd__law_pick ["draw", "things"] []) :
    ∀ n : Nat, FnF P w K mg base (4 + 2 * n) f__law_sort fd__law_sort ["draw", "deep"] p (φn__law_sort n) := by
  intro n
  induction n with
  | zero => exact fn_none
  | succ n ih => exact ok__law_sort (hK := hK) (F := F__law_sort) (hkb := Nat.le_add_right _ _) (z_tuple := z_tuple) (z_range := z_range) (G__law_next := G__law_next) (m__law_next := m__law_next) (k__law_next := k__law_next) (b__law_next := b__law_next) (G__law_pick := G__law_pick) (m__law_pick := m__law_pick) (k__law_pick := k__law_pick) (b__law_pick := b__law_pick) (G__law_sort := ih) (m__law_sort := m__law_sort) (k__law_sort := k__law_sort) (b__law_sort := b__law_sort)
abbrev φ__law_sort : Phi := φn__law_sort 12
abbrev s__law_ints : Stmt := top 39
def u__law_ints : SF := sRet (lcF (FL.iRng2 (eNeg (eVar 1)) (eBin addT (eVar 1) (eC (.int 1)))) (bN 2) (bAnd (bOr (tB (eBin cIs (eIx (eVar 0) (eC (.int 1))) (eC .non))) (tB (eBin cGe (eVar 2) (eIx (eVar 0) (eC (.int 1)))))) (bOr (tB (eBin cIs (eIx (eVar 0) (eC (.int 2))) (eC .non))) (tB (eBin cLe (eVar 2) (eIx (eVar 0) (eC (.int 2))))))) (eVar 2) [2])
def φ__law_ints : Phi := runF 3 2 u__law_ints
theorem sc__law_ints : FnScope ["sort", "most", "number"] ["sort", "most"] (defScope s__law_ints) := ⟨rfl, rfl, rfl, by decide +kernel, rfl, by decide +kernel, by decide +kernel⟩
theorem ok__law_ints (hK : p.K = K) (F : FunC K "_law_ints" s__law_ints f fd cA)
    (z_range : mg "range" = none) :
    FnF P w K mg base 1 f fd ["sort", "most"] p φ__law_ints := by
  refine fn_okC F sc__law_ints fun A outer s H E ex hr => ?_
  have hu := hr.units
  exact ss_one (ss_ret (se_lc (own := [(("number" : Str), 2)]) (g_name (i := 2) (vs := [2]) (by simp)) rfl sc__law_ints.nd (si_rng2 z_range (se_neg (se_var (pv 1))) (se_bin (ot_add hK) (se_var (pv 1)) (se_int))) ⟨by rfl, by decide +kernel, (by show ∀ p ∈ [(("number" : Str), 2)], (["sort", "most", "number"] : List Str)[p.2]? = some p.1; decide +kernel), (by show ∀ y ∈ (_ : List (Str × NameKind)), y.2 = NameKind.free → (defScope s__law_ints).names.lookup y.1 = some .cell ∨ (defScope s__law_ints).names.lookup y.1 = some .free; decide +kernel), (by show ∀ y ∈ (_ : List (Str × NameKind)), y.2 = NameKind.local ∨ y.2 = NameKind.cell → y.1 ∈ [(("number" : Str), 2)].map (·.1) ∨ y.1 ∉ (["sort", "most", "number"] : List Str); decide +kernel)⟩ (fun s H C cl fp => pg_name (i := 2) sc__law_ints.nd rfl (by first | exact .inl rfl | exact .inr rfl)) (fun s H C cl fp => pts_if fun D => sb_w (sw_and (sb_w (sw_or (sb_cmp ot_is (se_ix hK (se_var (pv 0)) (se_int)) (se_non)) (sw_or1 (sb_cmp ot_ge (se_var (pv 2)) (se_ix hK (se_var (pv 0)) (se_int)))))) (sw_and1 (sb_w (sw_or (sb_cmp ot_is (se_ix hK (se_var (pv 0)) (se_int)) (se_non)) (sw_or1 (sb_cmp ot_le (se_var (pv 2)) (se_ix hK (se_var (pv 0)) (se_int))))))))) (fun D s H C cl fp => se_var (pv 2))))
abbrev s__law_lots : Stmt := top 40
def u__law_lots : SF := sSeq (sPar 4 5 (eLst (aNil)) (eLst (aCons (eTup (aNil)) aNil))) (sSeq (sFor (FL.iRng1 (eBin addT (eB minF (aCons (eLst (aCons (eC (.int 3)) (aCons (eIf (tB (eBin cIs (eVar 2) (eC .non))) (eC (.int 3)) (eVar 2)) aNil))) aNil)) (eC (.int 1)))) (bN 6) (sSeq (sIf (tB (eBin cGe (eVar 6) (eVar 1))) (sSet 4 (eBin addT (eVar 4) (eVar 5))) (sNil)) (sSet 5 (eSlHi (eB sumLF (aCons (lcF (iSeq (eVar 5)) (bN 7) (uYes) (lcF (iSeq (eVar 0)) (bN 8) (uYes) (eBin addT (eVar 7) (eTup (aCons (eVar 8) aNil))) [8]) [7]) (aCons (eLst (aNil)) aNil))) (eVar 3))))) (sRet (eSlHi (eVar 4) (eVar 3))))
def φ__law_lots : Phi := runF 9 4 u__law_lots
theorem sc__law_lots : FnScope ["things", "least", "most", "cap", "found", "layer", "size", "row", "one"] ["things", "least", "most", "cap"] (defScope s__law_lots) := ⟨rfl, rfl, rfl, by decide +kernel, rfl, by decide +kernel, by decide +kernel⟩
theorem ok__law_lots (hK : p.K = K) (F : FunC K "_law_lots" s__law_lots f fd cA)
    (z_range : mg "range" = none)
    (z_min : mg "min" = none)
    (z_sum : mg "sum" = none) :
    FnF P w K mg base 1 f fd ["things", "least", "most", "cap"] p φ__law_lots := by
  refine fn_okC F sc__law_lots fun A outer s H E ex hr => ?_
  have hu := hr.units
  exact ss_cons (ss_par (i := 4) (j := 5) rfl sc__law_lots.nd (se_lst (sa_nil)) (se_lst (sa_cons (se_tup (sa_nil)) sa_nil)) rfl) (ss_cons (ss_for (g_name (i := 6) (vs := [6]) (by simp)) PassesOwn.never rfl (si_rng1 z_range (se_bin (ot_add hK) (se_callB (ca_min rfl) z_min PyProof.Rows.Boot.«min» (sa_cons (se_lst (sa_cons (se_int) (sa_cons (se_if (sb_cmp ot_is (se_var (pv 2)) (se_non)) (se_int) (se_var (pv 2))) sa_nil))) sa_nil)) (se_int))) (pg_name (i := 6) sc__law_lots.nd rfl (by first | exact .inl rfl | exact .inr rfl)) (ss_cons (ss_if (sb_cmp ot_ge (se_var (pv 6)) (se_var (pv 1))) (ss_one (ss_set (i := 4) (se_bin (ot_add hK) (se_var (pv 4)) (se_var (pv 5))) sc__law_lots.nd)) (ss_nil)) (ss_one (ss_set (i := 5) (se_slhi hK (se_callB (ca_sumL rfl) z_sum PyProof.Rows.Boot.«sum» (sa_cons (se_lc (own := [(("row" : Str), 7)]) (g_name (i := 7) (vs := [7]) (by simp)) rfl sc__law_lots.nd (si_seq hK (se_var (pv 5))) ⟨by rfl, by decide +kernel, (by show ∀ p ∈ [(("row" : Str), 7)], (["things", "least", "most", "cap", "found", "layer", "size", "row", "one"] : List Str)[p.2]? = some p.1; decide +kernel), (by show ∀ y ∈ (_ : List (Str × NameKind)), y.2 = NameKind.free → (defScope s__law_lots).names.lookup y.1 = some .cell ∨ (defScope s__law_lots).names.lookup y.1 = some .free; decide +kernel), (by show ∀ y ∈ (_ : List (Str × NameKind)), y.2 = NameKind.local ∨ y.2 = NameKind.cell → y.1 ∈ [(("row" : Str), 7)].map (·.1) ∨ y.1 ∉ (["things", "least", "most", "cap", "found", "layer", "size", "row", "one"] : List Str); decide +kernel)⟩ (fun s H C cl fp => pg_name (i := 7) sc__law_lots.nd rfl (by first | exact .inl rfl | exact .inr rfl)) (fun s H C cl fp => pts_yes) (fun D s H C cl fp => se_lc (own := [(("one" : Str), 8)]) (g_name (i := 8) (vs := [8]) (by simp)) rfl sc__law_lots.nd (si_seq hK (se_var (pv 0))) ⟨by rfl, by decide +kernel, of_decide_eq_true (by kernel_rfl), of_decide_eq_true (by kernel_rfl), of_decide_eq_true (by kernel_rfl)⟩ (fun s H C cl fp => pg_name (i := 8) sc__law_lots.nd rfl (by first | exact .inl rfl | exact .inr rfl)) (fun s H C cl fp => pts_yes) (fun D s H C cl fp => se_bin (ot_add hK) (se_var (pv 7)) (se_tup (sa_cons (se_var (pv 8)) sa_nil))))) (sa_cons (se_lst (sa_nil)) sa_nil))) (se_var (pv 3))) sc__law_lots.nd)))) (ss_one (ss_ret (se_slhi hK (se_var (pv 4)) (se_var (pv 3))))))
abbrev s__law_values : Stmt := top 41
def u__law_values (r__law_values : Phi) : SF := sSeq (sIf (tB (eBin cEqX (eIx (eVar 0) (eC (.int 0))) (eC (.str [105, 110, 116])))) (sRet (eSlHi (eCall 2 φ__law_ints (aCons (eVar 0) (aCons (eC (.int 12)) aNil))) (eVar 1))) (sNil)) (sSeq (sIf (tB (eBin cEqX (eIx (eVar 0) (eC (.int 0))) (eC (.str [119, 111, 114, 100])))) (sRet (lcF (iSeq (eCall 4 φ__law_lots (aCons (eB listG (aCons (eIx (eVar 0) (eC (.int 1))) aNil)) (aCons (eIx (eVar 0) (eC (.int 2))) (aCons (eIx (eVar 0) (eC (.int 3))) (aCons (eVar 1) aNil)))))) (bN 5) (uYes) (eJoin (eC (.str [])) (eVar 5)) [5])) (sNil)) (sSeq (sIf (tB (eBin cEqX (eIx (eVar 0) (eC (.int 0))) (eC (.str [111, 110, 101])))) (sRet (eRg1 .lst (eIx (eVar 0) (eC (.int 1))))) (sNil)) (sSeq (sIf (tB (eBin cEqX (eIx (eVar 0) (eC (.int 0))) (eC (.str [109, 97, 121, 98, 101])))) (sRet (eBin addT (eLst (aCons (eC .non) aNil)) (lcF (iSeq (eCall 2 r__law_values (aCons (eIx (eVar 0) (eC (.int 1))) (aCons (eBin subT (eVar 1) (eC (.int 1))) aNil)))) (bN 6) (uYes) (eTup (aCons (eC (.str [115, 111, 109, 101])) (aCons (eVar 6) aNil))) [6]))) (sNil)) (sSeq (sIf (tB (eBin cEqX (eIx (eVar 0) (eC (.int 0))) (eC (.str [109, 97, 110, 121])))) (sRet (eCall 4 φ__law_lots (aCons (eCall 2 r__law_values (aCons (eIx (eVar 0) (eC (.int 1))) (aCons (eVar 1) aNil))) (aCons (eIx (eVar 0) (eC (.int 2))) (aCons (eIx (eVar 0) (eC (.int 3))) (aCons (eVar 1) aNil)))))) (sNil)) (sSeq (sSet 2 (eLst (aCons (eTup (aNil)) aNil))) (sSeq (sIf (tB (eBin cEqX (eIx (eVar 0) (eC (.int 0))) (eC (.str [99, 97, 115, 101])))) (sRet (eSlHi (eB sumLF (aCons (lcF (iEnumF (eIx (eVar 0) (eC (.int 1)))) (bN2 7 3) (uYes) (lcF (iSeq (eCall 2 r__law_values (aCons (eVar 3) (aCons (eVar 1) aNil)))) (bN 6) (uYes) (eTup (aCons (eVar 7) (aCons (eVar 6) aNil))) [6]) [7, 3]) (aCons (eLst (aNil)) aNil))) (eVar 1))) (sNil)) (sSeq (sFor (iSeq (eIx (eVar 0) (eC (.int 1)))) (bN 3) (sSeq (sSet 4 (eCall 2 r__law_values (aCons (eVar 3) (aCons (eVar 1) aNil)))) (sSet 2 (eSlHi (eB sumLF (aCons (lcF (iSeq (eVar 2)) (bN 5) (uYes) (lcF (iSeq (eVar 4)) (bN 6) (uYes) (eBin addT (eVar 5) (eTup (aCons (eVar 6) aNil))) [6]) [5]) (aCons (eLst (aNil)) aNil))) (eVar 1))))) (sRet (eVar 2)))))))))
theorem sc__law_values : FnScope ["sort", "cap", "found", "part", "some", "row", "one", "number"] ["sort", "cap"] (defScope s__law_values) := ⟨rfl, rfl, rfl, by decide +kernel, rfl, by decide +kernel, by decide +kernel⟩
theorem ok__law_values (hK : p.K = K) (F : FunC K "_law_values" s__law_values f fd cA)
    (z_list : mg "list" = none)
    (z_range : mg "range" = none)
    (z_sum : mg "sum" = none)
    (z_enumerate : mg "enumerate" = none)
    {f__law_ints : Addr} {fd__law_ints : FuncData} (G__law_ints : FnF P w K mg base 1 f__law_ints fd__law_ints ["sort", "most"] p φ__law_ints) (m__law_ints : mg "_law_ints" = some (.ref f__law_ints)) (k__law_ints : PySem.W.keepIn K (.ref f__law_ints) = true) (b__law_ints : Binds K fd__law_ints ["sort", "most"] [])
    {f__law_lots : Addr} {fd__law_lots : FuncData} (G__law_lots : FnF P w K mg base 1 f__law_lots fd__law_lots ["things", "least", "most", "cap"] p φ__law_lots) (m__law_lots : mg "_law_lots" = some (.ref f__law_lots)) (k__law_lots : PySem.W.keepIn K (.ref f__law_lots) = true) (b__law_lots : Binds K fd__law_lots ["things", "least", "most", "cap"] [])
    {kb : Nat} (hkb : 1 ≤ kb)
    {r__law_values : Phi} {f__law_values : Addr} {fd__law_values : FuncData} (G__law_values : FnF P w K mg base kb f__law_values fd__law_values ["sort", "cap"] p r__law_values) (m__law_values : mg "_law_values" = some (.ref f__law_values)) (k__law_values : PySem.W.keepIn K (.ref f__law_values) = true) (b__law_values : Binds K fd__law_values ["sort", "cap"] []) :
    FnF P w K mg base (kb + 2) f fd ["sort", "cap"] p (runF 8 2 (u__law_values r__law_values)) := by
  refine fn_okC F sc__law_values fun A outer s H E ex hr => ?_
  have hu := hr.units
  exact ss_cons (ss_if (sb_cmp (ot_eqX hK hu) (se_ix hK (se_var (pv 0)) (se_int)) (se_str [105, 110, 116] rfl)) (ss_one (ss_ret (se_slhi hK (se_call (spF_ex G__law_ints) hr (by omega) m__law_ints k__law_ints b__law_ints (sa_cons (se_var (pv 0)) (sa_cons (se_int) sa_nil))) (se_var (pv 1))))) (ss_nil)) (ss_cons (ss_if (sb_cmp (ot_eqX hK hu) (se_ix hK (se_var (pv 0)) (se_int)) (se_str [119, 111, 114, 100] rfl)) (ss_one (ss_ret (se_lc (own := [(("row" : Str), 5)]) (g_name (i := 5) (vs := [5]) (by simp)) rfl sc__law_values.nd (si_seq hK (se_call (spF_ex G__law_lots) hr (by omega) m__law_lots k__law_lots b__law_lots (sa_cons (se_callT (ca_listG hK rfl) z_list PyProof.Rows.Boot.«list» (sa_cons (se_ix hK (se_var (pv 0)) (se_int)) sa_nil)) (sa_cons (se_ix hK (se_var (pv 0)) (se_int)) (sa_cons (se_ix hK (se_var (pv 0)) (se_int)) (sa_cons (se_var (pv 1)) sa_nil)))))) ⟨by rfl, by decide +kernel, (by show ∀ p ∈ [(("row" : Str), 5)], (["sort", "cap", "found", "part", "some", "row", "one", "number"] : List Str)[p.2]? = some p.1; decide +kernel), (by show ∀ y ∈ (_ : List (Str × NameKind)), y.2 = NameKind.free → (defScope s__law_values).names.lookup y.1 = some .cell ∨ (defScope s__law_values).names.lookup y.1 = some .free; decide +kernel), (by show ∀ y ∈ (_ : List (Str × NameKind)), y.2 = NameKind.local ∨ y.2 = NameKind.cell → y.1 ∈ [(("row" : Str), 5)].map (·.1) ∨ y.1 ∉ (["sort", "cap", "found", "part", "some", "row", "one", "number"] : List Str); decide +kernel)⟩ (fun s H C cl fp => pg_name (i := 5) sc__law_values.nd rfl (by first | exact .inl rfl | exact .inr rfl)) (fun s H C cl fp => pts_yes) (fun D s H C cl fp => se_join hK (se_str [] rfl) (se_var (pv 5)))))) (ss_nil)) (ss_cons (ss_if (sb_cmp (ot_eqX hK hu) (se_ix hK (se_var (pv 0)) (se_int)) (se_str [111, 110, 101] rfl)) (ss_one (ss_ret (se_lstRg1 rfl z_list z_range (se_ix hK (se_var (pv 0)) (se_int))))) (ss_nil)) (ss_cons (ss_if (sb_cmp (ot_eqX hK hu) (se_ix hK (se_var (pv 0)) (se_int)) (se_str [109, 97, 121, 98, 101] rfl)) (ss_one (ss_ret (se_bin (ot_add hK) (se_lst (sa_cons (se_non) sa_nil)) (se_lc (own := [(("one" : Str), 6)]) (g_name (i := 6) (vs := [6]) (by simp)) rfl sc__law_values.nd (si_seq hK (se_call (spF_ex G__law_values) hr (by omega) m__law_values k__law_values b__law_values (sa_cons (se_ix hK (se_var (pv 0)) (se_int)) (sa_cons (se_bin ot_sub (se_var (pv 1)) (se_int)) sa_nil)))) ⟨by rfl, by decide +kernel, (by show ∀ p ∈ [(("one" : Str), 6)], (["sort", "cap", "found", "part", "some", "row", "one", "number"] : List Str)[p.2]? = some p.1; decide +kernel), (by show ∀ y ∈ (_ : List (Str × NameKind)), y.2 = NameKind.free → (defScope s__law_values).names.lookup y.1 = some .cell ∨ (defScope s__law_values).names.lookup y.1 = some .free; decide +kernel), (by show ∀ y ∈ (_ : List (Str × NameKind)), y.2 = NameKind.local ∨ y.2 = NameKind.cell → y.1 ∈ [(("one" : Str), 6)].map (·.1) ∨ y.1 ∉ (["sort", "cap", "found", "part", "some", "row", "one", "number"] : List Str); decide +kernel)⟩ (fun s H C cl fp => pg_name (i := 6) sc__law_values.nd rfl (by first | exact .inl rfl | exact .inr rfl)) (fun s H C cl fp => pts_yes) (fun D s H C cl fp => se_tup (sa_cons (se_str [115, 111, 109, 101] rfl) (sa_cons (se_var (pv 6)) sa_nil))))))) (ss_nil)) (ss_cons (ss_if (sb_cmp (ot_eqX hK hu) (se_ix hK (se_var (pv 0)) (se_int)) (se_str [109, 97, 110, 121] rfl)) (ss_one (ss_ret (se_call (spF_ex G__law_lots) hr (by omega) m__law_lots k__law_lots b__law_lots (sa_cons (se_call (spF_ex G__law_values) hr (by omega) m__law_values k__law_values b__law_values (sa_cons (se_ix hK (se_var (pv 0)) (se_int)) (sa_cons (se_var (pv 1)) sa_nil))) (sa_cons (se_ix hK (se_var (pv 0)) (se_int)) (sa_cons (se_ix hK (se_var (pv 0)) (se_int)) (sa_cons (se_var (pv 1)) sa_nil))))))) (ss_nil)) (ss_cons (ss_set (i := 2) (se_lst (sa_cons (se_tup (sa_nil)) sa_nil)) sc__law_values.nd) (ss_cons (ss_if (sb_cmp (ot_eqX hK hu) (se_ix hK (se_var (pv 0)) (se_int)) (se_str [99, 97, 115, 101] rfl)) (ss_one (ss_ret (se_slhi hK (se_callB (ca_sumL rfl) z_sum PyProof.Rows.Boot.«sum» (sa_cons (se_lc (own := [(("number" : Str), 7), (("part" : Str), 3)]) (g_two hK (i := 7) (j := 3) (vs := [7, 3]) (by simp) (by simp)) rfl sc__law_values.nd (si_enum hK z_enumerate (se_ix hK (se_var (pv 0)) (se_int))) ⟨by rfl, by decide +kernel, (by show ∀ p ∈ [(("number" : Str), 7), (("part" : Str), 3)], (["sort", "cap", "found", "part", "some", "row", "one", "number"] : List Str)[p.2]? = some p.1; decide +kernel), (by show ∀ y ∈ (_ : List (Str × NameKind)), y.2 = NameKind.free → (defScope s__law_values).names.lookup y.1 = some .cell ∨ (defScope s__law_values).names.lookup y.1 = some .free; decide +kernel), (by show ∀ y ∈ (_ : List (Str × NameKind)), y.2 = NameKind.local ∨ y.2 = NameKind.cell → y.1 ∈ [(("number" : Str), 7), (("part" : Str), 3)].map (·.1) ∨ y.1 ∉ (["sort", "cap", "found", "part", "some", "row", "one", "number"] : List Str); decide +kernel)⟩ (fun s H C cl fp => pg_tup rfl (pgs_cons (pg_name (i := 7) sc__law_values.nd rfl (by first | exact .inl rfl | exact .inr rfl)) (pgs_cons (pg_name (i := 3) sc__law_values.nd rfl (by first | exact .inl rfl | exact .inr rfl)) pgs_nil)) rfl rfl) (fun s H C cl fp => pts_yes) (fun D s H C cl fp => se_lc (own := [(("one" : Str), 6)]) (g_name (i := 6) (vs := [6]) (by simp)) rfl sc__law_values.nd (si_seq hK (se_call (spF_ex G__law_values) hr (by omega) m__law_values k__law_values b__law_values (sa_cons (se_var (pv 3)) (sa_cons (se_var (pv 1)) sa_nil)))) ⟨by rfl, by decide +kernel, of_decide_eq_true (by kernel_rfl), of_decide_eq_true (by kernel_rfl), of_decide_eq_true (by kernel_rfl)⟩ (fun s H C cl fp => pg_name (i := 6) sc__law_values.nd rfl (by first | exact .inl rfl | exact .inr rfl)) (fun s H C cl fp => pts_yes) (fun D s H C cl fp => se_tup (sa_cons (se_var (pv 7)) (sa_cons (se_var (pv 6)) sa_nil))))) (sa_cons (se_lst (sa_nil)) sa_nil))) (se_var (pv 1))))) (ss_nil)) (ss_cons (ss_for (g_name (i := 3) (vs := [3]) (by simp)) PassesOwn.never rfl (si_seq hK (se_ix hK (se_var (pv 0)) (se_int))) (pg_name (i := 3) sc__law_values.nd rfl (by first | exact .inl rfl | exact .inr rfl)) (ss_cons (ss_set (i := 4) (se_call (spF_ex G__law_values) hr (by omega) m__law_values k__law_values b__law_values (sa_cons (se_var (pv 3)) (sa_cons (se_var (pv 1)) sa_nil))) sc__law_values.nd) (ss_one (ss_set (i := 2) (se_slhi hK (se_callB (ca_sumL rfl) z_sum PyProof.Rows.Boot.«sum» (sa_cons (se_lc (own := [(("row" : Str), 5)]) (g_name (i := 5) (vs := [5]) (by simp)) rfl sc__law_values.nd (si_seq hK (se_var (pv 2))) ⟨by rfl, by decide +kernel, (by show ∀ p ∈ [(("row" : Str), 5)], (["sort", "cap", "found", "part", "some", "row", "one", "number"] : List Str)[p.2]? = some p.1; decide +kernel), (by show ∀ y ∈ (_ : List (Str × NameKind)), y.2 = NameKind.free → (defScope s__law_values).names.lookup y.1 = some .cell ∨ (defScope s__law_values).names.lookup y.1 = some .free; decide +kernel), (by show ∀ y ∈ (_ : List (Str × NameKind)), y.2 = NameKind.local ∨ y.2 = NameKind.cell → y.1 ∈ [(("row" : Str), 5)].map (·.1) ∨ y.1 ∉ (["sort", "cap", "found", "part", "some", "row", "one", "number"] : List Str); decide +kernel)⟩ (fun s H C cl fp => pg_name (i := 5) sc__law_values.nd rfl (by first | exact .inl rfl | exact .inr rfl)) (fun s H C cl fp => pts_yes) (fun D s H C cl fp => se_lc (own := [(("one" : Str), 6)]) (g_name (i := 6) (vs := [6]) (by simp)) rfl sc__law_values.nd (si_seq hK (se_var (pv 4))) ⟨by rfl, by decide +kernel, of_decide_eq_true (by kernel_rfl), of_decide_eq_true (by kernel_rfl), of_decide_eq_true (by kernel_rfl)⟩ (fun s H C cl fp => pg_name (i := 6) sc__law_values.nd rfl (by first | exact .inl rfl | exact .inr rfl)) (fun s H C cl fp => pts_yes) (fun D s H C cl fp => se_bin (ot_add hK) (se_var (pv 5)) (se_tup (sa_cons (se_var (pv 6)) sa_nil))))) (sa_cons (se_lst (sa_nil)) sa_nil))) (se_var (pv 1))) sc__law_values.nd)))) (ss_one (ss_ret (se_var (pv 2)))))))))))
def φn__law_values : Nat → Phi
  | 0 => fun _ _ => none
  | n + 1 => runF 8 2 (u__law_values (φn__law_values n))
theorem okn__law_values (hK : p.K = K) {f__law_values cA__law_values : Addr} {fd__law_values : FuncData} 
    (F__law_values : FunC K "_law_values" s__law_values f__law_values fd__law_values cA__law_values) (m__law_values : mg "_law_values" = some (.ref f__law_values)) (k__law_values : PySem.W.keepIn K (.ref f__law_values) = true) (b__law_values : Binds K fd__law_values ["sort", "cap"] [])
    (z_list : mg "list" = none)
    (z_range : mg "range" = none)
    (z_sum : mg "sum" = none)
    (z_enumerate : mg "enumerate" = none)
    {f__law_ints : Addr} {fd__law_ints : FuncData} (G__law_ints : FnF P w K mg base 1 f__law_ints fd__law_ints ["sort", "most"] p φ__law_ints) (m__law_ints : mg "_law_ints" = some (.ref f__law_ints)) (k__law_ints : PySem.W.keepIn K (.ref f__law_ints) = true) (b__law_ints : Binds K fd__law_ints ["sort", "most"] [])
    {f__law_lots : Addr} {fd__law_lots : FuncData} (G__law_lots : FnF P w K mg base 1 f__law_lots fd__law_lots ["things", "least", "most", "cap"] p φ__law_lots) (m__law_lots : mg "_law_lots" = some (.ref f__law_lots)) (k__law_lots : PySem.W.keepIn K (.ref f__law_lots) = true) (b__law_lots : Binds K fd__law_lots ["things", "least", "most", "cap"] []) :
    ∀ n : Nat, FnF P w K mg base (1 + 2 * n) f__law_values fd__law_values ["sort", "cap"] p (φn__law_values n) := by
  intro n
  induction n with
  | zero => exact fn_none
  | succ n ih => exact ok__law_values (hK := hK) (F := F__law_values) (hkb := Nat.le_add_right _ _) (z_list := z_list) (z_range := z_range) (z_sum := z_sum) (z_enumerate := z_enumerate) (G__law_ints := G__law_ints) (m__law_ints := m__law_ints) (k__law_ints := k__law_ints) (b__law_ints := b__law_ints) (G__law_lots := G__law_lots) (m__law_lots := m__law_lots) (k__law_lots := k__law_lots) (b__law_lots := b__law_lots) (G__law_values := ih) (m__law_values := m__law_values) (k__law_values := k__law_values) (b__law_values := b__law_values)
abbrev φ__law_values : Phi := φn__law_values 12
abbrev s__law_many : Stmt := top 42
def u__law_many (r__law_many : Phi) : SF := sSeq (sIf (tB (eBin cEqX (eIx (eVar 0) (eC (.int 0))) (eC (.str [105, 110, 116])))) (sRet (eIf (tB (eBin cNin (eC .non) (eSlLo (eVar 0) (eC (.int 1))))) (eBin addT (eBin subT (eIx (eVar 0) (eC (.int 2))) (eIx (eVar 0) (eC (.int 1)))) (eC (.int 1))) (eC .non))) (sNil)) (sSeq (sIf (tB (eBin cEqX (eIx (eVar 0) (eC (.int 0))) (eC (.str [111, 110, 101])))) (sRet (eIx (eVar 0) (eC (.int 1)))) (sNil)) (sSeq (sIf (tB (eBin cIn (eIx (eVar 0) (eC (.int 0))) (eTup (aCons (eC (.str [119, 111, 114, 100])) (aCons (eC (.str [109, 97, 110, 121])) aNil))))) (sSeq (sSet 1 (eIf (tB (eBin cEqX (eIx (eVar 0) (eC (.int 0))) (eC (.str [119, 111, 114, 100])))) (eB lenT (aCons (eIx (eVar 0) (eC (.int 1))) aNil)) (eCall 1 r__law_many (aCons (eIx (eVar 0) (eC (.int 1))) aNil)))) (sSeq (sIf (tB (eBin cEqX (eIx (eVar 0) (eC (.int 3))) (eC (.int 0)))) (sRet (eC (.int 1))) (sNil)) (sSeq (sIf (bOr (tB (eBin cIs (eVar 1) (eC .non))) (bAnd (tB (eBin cGt (eVar 1) (eC (.int 0)))) (tB (eBin cIs (eIx (eVar 0) (eC (.int 3))) (eC .non))))) (sRet (eC .non)) (sNil)) (sRet (eB sumF (aCons (lcF (FL.iRng2 (eIx (eVar 0) (eC (.int 2))) (eBin addT (eIx (eVar 0) (eC (.int 3))) (eC (.int 1)))) (bN 5) (uYes) (eCall 2 φ__law_power (aCons (eVar 1) (aCons (eVar 5) aNil))) [5]) aNil)))))) (sNil)) (sSeq (sIf (tB (eBin cEqX (eIx (eVar 0) (eC (.int 0))) (eC (.str [109, 97, 121, 98, 101])))) (sRet (eIf (tB (eBin cIs (eCall 1 r__law_many (aCons (eIx (eVar 0) (eC (.int 1))) aNil)) (eC .non))) (eC .non) (eBin addT (eCall 1 r__law_many (aCons (eIx (eVar 0) (eC (.int 1))) aNil)) (eC (.int 1))))) (sNil)) (sSeq (sSet 2 (lcF (iSeq (eIx (eVar 0) (eC (.int 1)))) (bN 4) (uYes) (eCall 1 r__law_many (aCons (eVar 4) aNil)) [4])) (sSeq (sIf (tB (eBin cIn (eC .non) (eVar 2))) (sRet (eC .non)) (sNil)) (sSeq (sSet 3 (eC (.int 1))) (sSeq (sFor (iSeq (eVar 2)) (bN 1) (sSet 3 (eBin mulT (eVar 3) (eVar 1)))) (sRet (eIf (tB (eBin cEqX (eIx (eVar 0) (eC (.int 0))) (eC (.str [99, 97, 115, 101])))) (eB sumF (aCons (eVar 2) aNil)) (eVar 3))))))))))
theorem sc__law_many : FnScope ["sort", "many", "found", "whole", "part", "size"] ["sort"] (defScope s__law_many) := ⟨rfl, rfl, rfl, by decide +kernel, rfl, by decide +kernel, by decide +kernel⟩
theorem ok__law_many (hK : p.K = K) (F : FunC K "_law_many" s__law_many f fd cA)
    (z_len : mg "len" = none)
    (z_sum : mg "sum" = none)
    (z_range : mg "range" = none)
    {f__law_power : Addr} {fd__law_power : FuncData} (G__law_power : FnF P w K mg base 1 f__law_power fd__law_power ["base", "many"] p φ__law_power) (m__law_power : mg "_law_power" = some (.ref f__law_power)) (k__law_power : PySem.W.keepIn K (.ref f__law_power) = true) (b__law_power : Binds K fd__law_power ["base", "many"] [])
    {kb : Nat} (hkb : 1 ≤ kb)
    {r__law_many : Phi} {f__law_many : Addr} {fd__law_many : FuncData} (G__law_many : FnF P w K mg base kb f__law_many fd__law_many ["sort"] p r__law_many) (m__law_many : mg "_law_many" = some (.ref f__law_many)) (k__law_many : PySem.W.keepIn K (.ref f__law_many) = true) (b__law_many : Binds K fd__law_many ["sort"] []) :
    FnF P w K mg base (kb + 2) f fd ["sort"] p (runF 6 1 (u__law_many r__law_many)) := by
  refine fn_okC F sc__law_many fun A outer s H E ex hr => ?_
  have hu := hr.units
  exact ss_cons (ss_if (sb_cmp (ot_eqX hK hu) (se_ix hK (se_var (pv 0)) (se_int)) (se_str [105, 110, 116] rfl)) (ss_one (ss_ret (se_if (sb_cmp (ot_nin hK) (se_non) (se_sllo hK (se_var (pv 0)) (se_int))) (se_bin (ot_add hK) (se_bin ot_sub (se_ix hK (se_var (pv 0)) (se_int)) (se_ix hK (se_var (pv 0)) (se_int))) (se_int)) (se_non)))) (ss_nil)) (ss_cons (ss_if (sb_cmp (ot_eqX hK hu) (se_ix hK (se_var (pv 0)) (se_int)) (se_str [111, 110, 101] rfl)) (ss_one (ss_ret (se_ix hK (se_var (pv 0)) (se_int)))) (ss_nil)) (ss_cons (ss_if (sb_cmp (ot_in hK) (se_ix hK (se_var (pv 0)) (se_int)) (se_tup (sa_cons (se_str [119, 111, 114, 100] rfl) (sa_cons (se_str [109, 97, 110, 121] rfl) sa_nil)))) (ss_cons (ss_set (i := 1) (se_if (sb_cmp (ot_eqX hK hu) (se_ix hK (se_var (pv 0)) (se_int)) (se_str [119, 111, 114, 100] rfl)) (se_callB (ca_len hK) z_len PySem.boot_len (sa_cons (se_ix hK (se_var (pv 0)) (se_int)) sa_nil)) (se_call (spF_ex G__law_many) hr (by omega) m__law_many k__law_many b__law_many (sa_cons (se_ix hK (se_var (pv 0)) (se_int)) sa_nil))) sc__law_many.nd) (ss_cons (ss_if (sb_cmp (ot_eqX hK hu) (se_ix hK (se_var (pv 0)) (se_int)) (se_int)) (ss_one (ss_ret (se_int))) (ss_nil)) (ss_cons (ss_if (sb_w (sw_or (sb_cmp ot_is (se_var (pv 1)) (se_non)) (sw_or1 (sb_w (sw_and (sb_cmp ot_gt (se_var (pv 1)) (se_int)) (sw_and1 (sb_cmp ot_is (se_ix hK (se_var (pv 0)) (se_int)) (se_non)))))))) (ss_one (ss_ret (se_non))) (ss_nil)) (ss_one (ss_ret (se_callB (ca_sum rfl) z_sum PyProof.Rows.Boot.«sum» (sa_cons (se_lc (own := [(("size" : Str), 5)]) (g_name (i := 5) (vs := [5]) (by simp)) rfl sc__law_many.nd (si_rng2 z_range (se_ix hK (se_var (pv 0)) (se_int)) (se_bin (ot_add hK) (se_ix hK (se_var (pv 0)) (se_int)) (se_int))) ⟨by rfl, by decide +kernel, (by show ∀ p ∈ [(("size" : Str), 5)], (["sort", "many", "found", "whole", "part", "size"] : List Str)[p.2]? = some p.1; decide +kernel), (by show ∀ y ∈ (_ : List (Str × NameKind)), y.2 = NameKind.free → (defScope s__law_many).names.lookup y.1 = some .cell ∨ (defScope s__law_many).names.lookup y.1 = some .free; decide +kernel), (by show ∀ y ∈ (_ : List (Str × NameKind)), y.2 = NameKind.local ∨ y.2 = NameKind.cell → y.1 ∈ [(("size" : Str), 5)].map (·.1) ∨ y.1 ∉ (["sort", "many", "found", "whole", "part", "size"] : List Str); decide +kernel)⟩ (fun s H C cl fp => pg_name (i := 5) sc__law_many.nd rfl (by first | exact .inl rfl | exact .inr rfl)) (fun s H C cl fp => pts_yes) (fun D s H C cl fp => se_call (spF_ex G__law_power) hr (by omega) m__law_power k__law_power b__law_power (sa_cons (se_var (pv 1)) (sa_cons (se_var (pv 5)) sa_nil)))) sa_nil))))))) (ss_nil)) (ss_cons (ss_if (sb_cmp (ot_eqX hK hu) (se_ix hK (se_var (pv 0)) (se_int)) (se_str [109, 97, 121, 98, 101] rfl)) (ss_one (ss_ret (se_if (sb_cmp ot_is (se_call (spF_ex G__law_many) hr (by omega) m__law_many k__law_many b__law_many (sa_cons (se_ix hK (se_var (pv 0)) (se_int)) sa_nil)) (se_non)) (se_non) (se_bin (ot_add hK) (se_call (spF_ex G__law_many) hr (by omega) m__law_many k__law_many b__law_many (sa_cons (se_ix hK (se_var (pv 0)) (se_int)) sa_nil)) (se_int))))) (ss_nil)) (ss_cons (ss_setLc (i := 2) (own := [(("part" : Str), 4)]) (g_name (i := 4) (vs := [4]) (by simp)) rfl sc__law_many.nd (si_seq hK (se_ix hK (se_var (pv 0)) (se_int))) ⟨by rfl, by decide +kernel, (by show ∀ p ∈ [(("part" : Str), 4)], (["sort", "many", "found", "whole", "part", "size"] : List Str)[p.2]? = some p.1; decide +kernel), (by show ∀ y ∈ (_ : List (Str × NameKind)), y.2 = NameKind.free → (defScope s__law_many).names.lookup y.1 = some .cell ∨ (defScope s__law_many).names.lookup y.1 = some .free; decide +kernel), (by show ∀ y ∈ (_ : List (Str × NameKind)), y.2 = NameKind.local ∨ y.2 = NameKind.cell → y.1 ∈ [(("part" : Str), 4)].map (·.1) ∨ y.1 ∉ (["sort", "many", "found", "whole", "part", "size"] : List Str); decide +kernel)⟩ (fun s H C cl fp => pg_name (i := 4) sc__law_many.nd rfl (by first | exact .inl rfl | exact .inr rfl)) (fun s H C cl fp => pts_yes) (fun D s H C cl fp => se_call (spF_ex G__law_many) hr (by omega) m__law_many k__law_many b__law_many (sa_cons (se_var (pv 4)) sa_nil)) rfl) (ss_cons (ss_if (sb_cmp (ot_in hK) (se_non) (se_var (pv 2))) (ss_one (ss_ret (se_non))) (ss_nil)) (ss_cons (ss_set (i := 3) (se_int) sc__law_many.nd) (ss_cons (ss_for (g_name (i := 1) (vs := [1]) (by simp)) PassesOwn.never rfl (si_seq hK (se_var (pv 2))) (pg_name (i := 1) sc__law_many.nd rfl (by first | exact .inl rfl | exact .inr rfl)) (ss_one (ss_set (i := 3) (se_bin (ot_mul hK) (se_var (pv 3)) (se_var (pv 1))) sc__law_many.nd))) (ss_one (ss_ret (se_if (sb_cmp (ot_eqX hK hu) (se_ix hK (se_var (pv 0)) (se_int)) (se_str [99, 97, 115, 101] rfl)) (se_callB (ca_sum rfl) z_sum PyProof.Rows.Boot.«sum» (sa_cons (se_var (pv 2)) sa_nil)) (se_var (pv 3))))))))))))
def φn__law_many : Nat → Phi
  | 0 => fun _ _ => none
  | n + 1 => runF 6 1 (u__law_many (φn__law_many n))
theorem okn__law_many (hK : p.K = K) {f__law_many cA__law_many : Addr} {fd__law_many : FuncData} 
    (F__law_many : FunC K "_law_many" s__law_many f__law_many fd__law_many cA__law_many) (m__law_many : mg "_law_many" = some (.ref f__law_many)) (k__law_many : PySem.W.keepIn K (.ref f__law_many) = true) (b__law_many : Binds K fd__law_many ["sort"] [])
    (z_len : mg "len" = none)
    (z_sum : mg "sum" = none)
    (z_range : mg "range" = none)
    {f__law_power : Addr} {fd__law_power : FuncData} (G__law_power : FnF P w K mg base 1 f__law_power fd__law_power ["base", "many"] p φ__law_power) (m__law_power : mg "_law_power" = some (.ref f__law_power)) (k__law_power : PySem.W.keepIn K (.ref f__law_power) = true) (b__law_power : Binds K fd__law_power ["base", "many"] []) :
    ∀ n : Nat, FnF P w K mg base (1 + 2 * n) f__law_many fd__law_many ["sort"] p (φn__law_many n) := by
  intro n
  induction n with
  | zero => exact fn_none
  | succ n ih => exact ok__law_many (hK := hK) (F := F__law_many) (hkb := Nat.le_add_right _ _) (z_len := z_len) (z_sum := z_sum) (z_range := z_range) (G__law_power := G__law_power) (m__law_power := m__law_power) (k__law_power := k__law_power) (b__law_power := b__law_power) (G__law_many := ih) (m__law_many := m__law_many) (k__law_many := k__law_many) (b__law_many := b__law_many)
abbrev φ__law_many : Phi := φn__law_many 12
abbrev s__law_wrong : Stmt := top 43
def u__law_wrong : SF := sSeq (sSet 0 (eLst (aCons (eC .non) (aCons (eTup (aNil)) (aCons (eTup (aCons (eC (.str [105, 110, 116])) aNil)) (aCons (eLst (aCons (eC (.str [105, 110, 116])) (aCons (eC (.int 0)) (aCons (eC (.int 1)) aNil)))) (aCons (eTup (aCons (eC (.str [105, 110, 116])) (aCons (eC (.int 0)) aNil))) (aCons (eTup (aCons (eC (.str [105, 110, 116])) (aCons (eC (.int 2)) (aCons (eC (.int 1)) aNil)))) (aCons (eTup (aCons (eC (.str [105, 110, 116])) (aCons (eC (.int 0)) (aCons (eC (.int 1000000000)) aNil)))) (aCons (eTup (aCons (eC (.str [105, 110, 116])) (aCons (eNeg (eC (.int 1000000000))) (aCons (eC (.int 0)) aNil)))) (aCons (eTup (aCons (eC (.str [105, 110, 116])) (aCons (eC (.bl true)) (aCons (eC (.int 2)) aNil)))) (aCons (eTup (aCons (eC (.str [105, 110, 116])) (aCons (eC (.int 0)) (aCons (eC (.int 1)) (aCons (eC (.int 2)) aNil))))) (aCons (eTup (aCons (eC (.str [105, 110, 116])) (aCons (eC (.str [48])) (aCons (eC (.str [49])) aNil)))) aNil))))))))))))) (sSeq (sSet 0 (eBin addT (eVar 0) (eLst (aCons (eTup (aCons (eC (.str [119, 111, 114, 100])) (aCons (eC (.str [])) (aCons (eC (.int 0)) (aCons (eC (.int 1)) aNil))))) (aCons (eTup (aCons (eC (.str [119, 111, 114, 100])) (aCons (eC (.str [98, 97])) (aCons (eC (.int 0)) (aCons (eC (.int 1)) aNil))))) (aCons (eTup (aCons (eC (.str [119, 111, 114, 100])) (aCons (eC (.str [97, 97])) (aCons (eC (.int 0)) (aCons (eC (.int 1)) aNil))))) (aCons (eTup (aCons (eC (.str [119, 111, 114, 100])) (aCons (eC (.str [97, 10])) (aCons (eC (.int 0)) (aCons (eC (.int 1)) aNil))))) (aCons (eTup (aCons (eC (.str [119, 111, 114, 100])) (aCons (eC (.str [97, 98])) (aCons (eC (.int 2)) (aCons (eC (.int 1)) aNil))))) (aCons (eTup (aCons (eC (.str [119, 111, 114, 100])) (aCons (eC (.str [97, 98])) (aCons (eC (.int 9)) (aCons (eC .non) aNil))))) (aCons (eTup (aCons (eC (.str [119, 111, 114, 100])) (aCons (eC (.str [97, 98])) (aCons (eC (.int 0)) (aCons (eC (.int 13)) aNil))))) (aCons (eTup (aCons (eC (.str [119, 111, 114, 100])) (aCons (eC (.str [97, 98])) (aCons (eNeg (eC (.int 1))) (aCons (eC (.int 1)) aNil))))) (aCons (eTup (aCons (eC (.str [119, 111, 114, 100])) (aCons (eC (.str [97, 98])) (aCons (eC .non) (aCons (eC (.int 1)) aNil))))) aNil)))))))))))) (sSeq (sSet 0 (eBin addT (eVar 0) (eLst (aCons (eTup (aCons (eC (.str [119, 111, 114, 100])) (aCons (eC (.str [97, 98, 99, 100, 101, 102, 103, 104, 105, 106, 107, 108, 109])) (aCons (eC (.int 0)) (aCons (eC (.int 1)) aNil))))) (aCons (eTup (aCons (eC (.str [119, 111, 114, 100])) (aCons (eTup (aCons (eC (.str [97])) (aCons (eC (.str [98])) aNil))) (aCons (eC (.int 0)) (aCons (eC (.int 1)) aNil))))) (aCons (eTup (aCons (eC (.str [119, 111, 114, 100])) (aCons (eC (.str [97, 98])) (aCons (eC (.int 0)) (aCons (eC (.bl true)) aNil))))) (aCons (eTup (aCons (eC (.str [111, 110, 101])) (aCons (eC (.int 0)) aNil))) (aCons (eTup (aCons (eC (.str [111, 110, 101])) (aCons (eC (.int 13)) aNil))) (aCons (eTup (aCons (eC (.str [111, 110, 101])) (aCons (eC (.bl true)) aNil))) (aCons (eTup (aCons (eC (.str [111, 110, 101])) aNil)) (aCons (eTup (aCons (eC (.str [109, 97, 121, 98, 101])) aNil)) (aCons (eTup (aCons (eC (.str [109, 97, 121, 98, 101])) (aCons (eC .non) aNil))) (aCons (eTup (aCons (eC (.str [109, 97, 121, 98, 101])) (aCons (eTup (aCons (eC (.str [111, 110, 101])) (aCons (eC (.int 0)) aNil))) aNil))) aNil))))))))))))) (sSeq (sSet 0 (eBin addT (eVar 0) (eLst (aCons (eTup (aCons (eC (.str [114, 111, 119])) (aCons (eTup (aCons (eC (.str [111, 110, 101])) (aCons (eC (.int 1)) aNil))) aNil))) (aCons (eTup (aCons (eC (.str [114, 111, 119])) (aCons (eLst (aCons (eTup (aCons (eC (.str [111, 110, 101])) (aCons (eC (.int 1)) aNil))) aNil)) aNil))) (aCons (eTup (aCons (eC (.str [114, 111, 119])) (aCons (eBin mulT1 (eTup (aCons (eTup (aCons (eC (.str [111, 110, 101])) (aCons (eC (.int 1)) aNil))) aNil)) (eC (.int 7))) aNil))) (aCons (eTup (aCons (eC (.str [114, 111, 119])) (aCons (eTup (aCons (eTup (aCons (eC (.str [111, 110, 101])) (aCons (eC (.int 1)) aNil))) (aCons (eC .non) aNil))) aNil))) (aCons (eTup (aCons (eC (.str [109, 97, 110, 121])) (aCons (eTup (aCons (eC (.str [111, 110, 101])) (aCons (eC (.int 1)) aNil))) (aCons (eC (.int 0)) aNil)))) (aCons (eTup (aCons (eC (.str [109, 97, 110, 121])) (aCons (eTup (aCons (eC (.str [111, 110, 101])) (aCons (eC (.int 1)) aNil))) (aCons (eC (.int 1)) (aCons (eC (.int 0)) aNil))))) (aCons (eTup (aCons (eC (.str [109, 97, 110, 121])) (aCons (eC .non) (aCons (eC (.int 0)) (aCons (eC .non) aNil))))) aNil)))))))))) (sSeq (sSet 0 (eBin addT (eVar 0) (eLst (aCons (eTup (aCons (eC (.str [99, 97, 115, 101])) (aCons (eTup (aNil)) aNil))) (aCons (eTup (aCons (eC (.str [99, 97, 115, 101])) (aCons (eBin mulT1 (eTup (aCons (eTup (aCons (eC (.str [111, 110, 101])) (aCons (eC (.int 1)) aNil))) aNil)) (eC (.int 7))) aNil))) (aCons (eTup (aCons (eC (.str [99, 97, 115, 101])) (aCons (eTup (aCons (eC (.str [111, 110, 101])) (aCons (eC (.int 1)) aNil))) aNil))) (aCons (eTup (aCons (eC (.str [116, 101, 120, 116])) (aCons (eC (.str [97, 98])) aNil))) (aCons (eTup (aCons (eC (.int 1)) (aCons (eC (.int 2)) aNil))) (aCons (eTup (aCons (eC (.str [114, 111, 119])) (aCons (eTup (aCons (eTup (aCons (eC (.str [114, 111, 119])) (aCons (eTup (aCons (eTup (aCons (eC (.str [114, 111, 119])) (aCons (eTup (aCons (eTup (aCons (eC (.str [114, 111, 119])) (aCons (eTup (aCons (eTup (aCons (eC (.str [111, 110, 101])) (aCons (eC (.int 1)) aNil))) aNil)) aNil))) aNil)) aNil))) aNil)) aNil))) aNil)) aNil))) (aCons (eTup (aCons (eC (.str [109, 97, 121, 98, 101])) (aCons (eTup (aCons (eC (.str [109, 97, 121, 98, 101])) (aCons (eTup (aCons (eC (.str [109, 97, 121, 98, 101])) (aCons (eTup (aCons (eC (.str [109, 97, 121, 98, 101])) (aCons (eTup (aCons (eC (.str [111, 110, 101])) (aCons (eC (.int 1)) aNil))) aNil))) aNil))) aNil))) aNil))) aNil)))))))))) (sRet (eBin addT (eVar 0) (eLst (aCons (eTup (aCons (eC (.str [114, 111, 119])) (aCons (eTup (aCons (eTup (aCons (eC (.str [114, 111, 119])) (aCons (eBin mulT1 (eTup (aCons (eTup (aCons (eC (.str [111, 110, 101])) (aCons (eC (.int 1)) aNil))) aNil)) (eC (.int 6))) aNil))) (aCons (eTup (aCons (eC (.str [114, 111, 119])) (aCons (eBin mulT1 (eTup (aCons (eTup (aCons (eC (.str [111, 110, 101])) (aCons (eC (.int 1)) aNil))) aNil)) (eC (.int 6))) aNil))) (aCons (eTup (aCons (eC (.str [111, 110, 101])) (aCons (eC (.int 1)) aNil))) (aCons (eTup (aCons (eC (.str [111, 110, 101])) (aCons (eC (.int 1)) aNil))) aNil))))) aNil))) aNil))))))))
def φ__law_wrong : Phi := runF 1 0 u__law_wrong
theorem sc__law_wrong : FnScope ["found"] [] (defScope s__law_wrong) := ⟨rfl, rfl, rfl, by decide +kernel, rfl, by decide +kernel, by decide +kernel⟩
theorem ok__law_wrong (hK : p.K = K) (F : FunC K "_law_wrong" s__law_wrong f fd cA)
     :
    FnF P w K mg base 1 f fd [] p φ__law_wrong := by
  refine fn_okC F sc__law_wrong fun A outer s H E ex hr => ?_
  have hu := hr.units
  exact ss_cons (ss_set (i := 0) (se_lst (sa_cons (se_non) (sa_cons (se_tup (sa_nil)) (sa_cons (se_tup (sa_cons (se_str [105, 110, 116] rfl) sa_nil)) (sa_cons (se_lst (sa_cons (se_str [105, 110, 116] rfl) (sa_cons (se_int) (sa_cons (se_int) sa_nil)))) (sa_cons (se_tup (sa_cons (se_str [105, 110, 116] rfl) (sa_cons (se_int) sa_nil))) (sa_cons (se_tup (sa_cons (se_str [105, 110, 116] rfl) (sa_cons (se_int) (sa_cons (se_int) sa_nil)))) (sa_cons (se_tup (sa_cons (se_str [105, 110, 116] rfl) (sa_cons (se_int) (sa_cons (se_int) sa_nil)))) (sa_cons (se_tup (sa_cons (se_str [105, 110, 116] rfl) (sa_cons (se_neg (se_int)) (sa_cons (se_int) sa_nil)))) (sa_cons (se_tup (sa_cons (se_str [105, 110, 116] rfl) (sa_cons (se_bl) (sa_cons (se_int) sa_nil)))) (sa_cons (se_tup (sa_cons (se_str [105, 110, 116] rfl) (sa_cons (se_int) (sa_cons (se_int) (sa_cons (se_int) sa_nil))))) (sa_cons (se_tup (sa_cons (se_str [105, 110, 116] rfl) (sa_cons (se_str [48] rfl) (sa_cons (se_str [49] rfl) sa_nil)))) sa_nil)))))))))))) sc__law_wrong.nd) (ss_cons (ss_set (i := 0) (se_bin (ot_add hK) (se_var (pv 0)) (se_lst (sa_cons (se_tup (sa_cons (se_str [119, 111, 114, 100] rfl) (sa_cons (se_str [] rfl) (sa_cons (se_int) (sa_cons (se_int) sa_nil))))) (sa_cons (se_tup (sa_cons (se_str [119, 111, 114, 100] rfl) (sa_cons (se_str [98, 97] rfl) (sa_cons (se_int) (sa_cons (se_int) sa_nil))))) (sa_cons (se_tup (sa_cons (se_str [119, 111, 114, 100] rfl) (sa_cons (se_str [97, 97] rfl) (sa_cons (se_int) (sa_cons (se_int) sa_nil))))) (sa_cons (se_tup (sa_cons (se_str [119, 111, 114, 100] rfl) (sa_cons (se_str [97, 10] rfl) (sa_cons (se_int) (sa_cons (se_int) sa_nil))))) (sa_cons (se_tup (sa_cons (se_str [119, 111, 114, 100] rfl) (sa_cons (se_str [97, 98] rfl) (sa_cons (se_int) (sa_cons (se_int) sa_nil))))) (sa_cons (se_tup (sa_cons (se_str [119, 111, 114, 100] rfl) (sa_cons (se_str [97, 98] rfl) (sa_cons (se_int) (sa_cons (se_non) sa_nil))))) (sa_cons (se_tup (sa_cons (se_str [119, 111, 114, 100] rfl) (sa_cons (se_str [97, 98] rfl) (sa_cons (se_int) (sa_cons (se_int) sa_nil))))) (sa_cons (se_tup (sa_cons (se_str [119, 111, 114, 100] rfl) (sa_cons (se_str [97, 98] rfl) (sa_cons (se_neg (se_int)) (sa_cons (se_int) sa_nil))))) (sa_cons (se_tup (sa_cons (se_str [119, 111, 114, 100] rfl) (sa_cons (se_str [97, 98] rfl) (sa_cons (se_non) (sa_cons (se_int) sa_nil))))) sa_nil))))))))))) sc__law_wrong.nd) (ss_cons (ss_set (i := 0) (se_bin (ot_add hK) (se_var (pv 0)) (se_lst (sa_cons (se_tup (sa_cons (se_str [119, 111, 114, 100] rfl) (sa_cons (se_str [97, 98, 99, 100, 101, 102, 103, 104, 105, 106, 107, 108, 109] rfl) (sa_cons (se_int) (sa_cons (se_int) sa_nil))))) (sa_cons (se_tup (sa_cons (se_str [119, 111, 114, 100] rfl) (sa_cons (se_tup (sa_cons (se_str [97] rfl) (sa_cons (se_str [98] rfl) sa_nil))) (sa_cons (se_int) (sa_cons (se_int) sa_nil))))) (sa_cons (se_tup (sa_cons (se_str [119, 111, 114, 100] rfl) (sa_cons (se_str [97, 98] rfl) (sa_cons (se_int) (sa_cons (se_bl) sa_nil))))) (sa_cons (se_tup (sa_cons (se_str [111, 110, 101] rfl) (sa_cons (se_int) sa_nil))) (sa_cons (se_tup (sa_cons (se_str [111, 110, 101] rfl) (sa_cons (se_int) sa_nil))) (sa_cons (se_tup (sa_cons (se_str [111, 110, 101] rfl) (sa_cons (se_bl) sa_nil))) (sa_cons (se_tup (sa_cons (se_str [111, 110, 101] rfl) sa_nil)) (sa_cons (se_tup (sa_cons (se_str [109, 97, 121, 98, 101] rfl) sa_nil)) (sa_cons (se_tup (sa_cons (se_str [109, 97, 121, 98, 101] rfl) (sa_cons (se_non) sa_nil))) (sa_cons (se_tup (sa_cons (se_str [109, 97, 121, 98, 101] rfl) (sa_cons (se_tup (sa_cons (se_str [111, 110, 101] rfl) (sa_cons (se_int) sa_nil))) sa_nil))) sa_nil)))))))))))) sc__law_wrong.nd) (ss_cons (ss_set (i := 0) (se_bin (ot_add hK) (se_var (pv 0)) (se_lst (sa_cons (se_tup (sa_cons (se_str [114, 111, 119] rfl) (sa_cons (se_tup (sa_cons (se_str [111, 110, 101] rfl) (sa_cons (se_int) sa_nil))) sa_nil))) (sa_cons (se_tup (sa_cons (se_str [114, 111, 119] rfl) (sa_cons (se_lst (sa_cons (se_tup (sa_cons (se_str [111, 110, 101] rfl) (sa_cons (se_int) sa_nil))) sa_nil)) sa_nil))) (sa_cons (se_tup (sa_cons (se_str [114, 111, 119] rfl) (sa_cons (se_bin (ot_mul1 hK) (se_tup (sa_cons (se_tup (sa_cons (se_str [111, 110, 101] rfl) (sa_cons (se_int) sa_nil))) sa_nil)) (se_int)) sa_nil))) (sa_cons (se_tup (sa_cons (se_str [114, 111, 119] rfl) (sa_cons (se_tup (sa_cons (se_tup (sa_cons (se_str [111, 110, 101] rfl) (sa_cons (se_int) sa_nil))) (sa_cons (se_non) sa_nil))) sa_nil))) (sa_cons (se_tup (sa_cons (se_str [109, 97, 110, 121] rfl) (sa_cons (se_tup (sa_cons (se_str [111, 110, 101] rfl) (sa_cons (se_int) sa_nil))) (sa_cons (se_int) sa_nil)))) (sa_cons (se_tup (sa_cons (se_str [109, 97, 110, 121] rfl) (sa_cons (se_tup (sa_cons (se_str [111, 110, 101] rfl) (sa_cons (se_int) sa_nil))) (sa_cons (se_int) (sa_cons (se_int) sa_nil))))) (sa_cons (se_tup (sa_cons (se_str [109, 97, 110, 121] rfl) (sa_cons (se_non) (sa_cons (se_int) (sa_cons (se_non) sa_nil))))) sa_nil))))))))) sc__law_wrong.nd) (ss_cons (ss_set (i := 0) (se_bin (ot_add hK) (se_var (pv 0)) (se_lst (sa_cons (se_tup (sa_cons (se_str [99, 97, 115, 101] rfl) (sa_cons (se_tup (sa_nil)) sa_nil))) (sa_cons (se_tup (sa_cons (se_str [99, 97, 115, 101] rfl) (sa_cons (se_bin (ot_mul1 hK) (se_tup (sa_cons (se_tup (sa_cons (se_str [111, 110, 101] rfl) (sa_cons (se_int) sa_nil))) sa_nil)) (se_int)) sa_nil))) (sa_cons (se_tup (sa_cons (se_str [99, 97, 115, 101] rfl) (sa_cons (se_tup (sa_cons (se_str [111, 110, 101] rfl) (sa_cons (se_int) sa_nil))) sa_nil))) (sa_cons (se_tup (sa_cons (se_str [116, 101, 120, 116] rfl) (sa_cons (se_str [97, 98] rfl) sa_nil))) (sa_cons (se_tup (sa_cons (se_int) (sa_cons (se_int) sa_nil))) (sa_cons (se_tup (sa_cons (se_str [114, 111, 119] rfl) (sa_cons (se_tup (sa_cons (se_tup (sa_cons (se_str [114, 111, 119] rfl) (sa_cons (se_tup (sa_cons (se_tup (sa_cons (se_str [114, 111, 119] rfl) (sa_cons (se_tup (sa_cons (se_tup (sa_cons (se_str [114, 111, 119] rfl) (sa_cons (se_tup (sa_cons (se_tup (sa_cons (se_str [111, 110, 101] rfl) (sa_cons (se_int) sa_nil))) sa_nil)) sa_nil))) sa_nil)) sa_nil))) sa_nil)) sa_nil))) sa_nil)) sa_nil))) (sa_cons (se_tup (sa_cons (se_str [109, 97, 121, 98, 101] rfl) (sa_cons (se_tup (sa_cons (se_str [109, 97, 121, 98, 101] rfl) (sa_cons (se_tup (sa_cons (se_str [109, 97, 121, 98, 101] rfl) (sa_cons (se_tup (sa_cons (se_str [109, 97, 121, 98, 101] rfl) (sa_cons (se_tup (sa_cons (se_str [111, 110, 101] rfl) (sa_cons (se_int) sa_nil))) sa_nil))) sa_nil))) sa_nil))) sa_nil))) sa_nil))))))))) sc__law_wrong.nd) (ss_one (ss_ret (se_bin (ot_add hK) (se_var (pv 0)) (se_lst (sa_cons (se_tup (sa_cons (se_str [114, 111, 119] rfl) (sa_cons (se_tup (sa_cons (se_tup (sa_cons (se_str [114, 111, 119] rfl) (sa_cons (se_bin (ot_mul1 hK) (se_tup (sa_cons (se_tup (sa_cons (se_str [111, 110, 101] rfl) (sa_cons (se_int) sa_nil))) sa_nil)) (se_int)) sa_nil))) (sa_cons (se_tup (sa_cons (se_str [114, 111, 119] rfl) (sa_cons (se_bin (ot_mul1 hK) (se_tup (sa_cons (se_tup (sa_cons (se_str [111, 110, 101] rfl) (sa_cons (se_int) sa_nil))) sa_nil)) (se_int)) sa_nil))) (sa_cons (se_tup (sa_cons (se_str [111, 110, 101] rfl) (sa_cons (se_int) sa_nil))) (sa_cons (se_tup (sa_cons (se_str [111, 110, 101] rfl) (sa_cons (se_int) sa_nil))) sa_nil))))) sa_nil))) sa_nil)))))))))
abbrev s__law_odd : Stmt := top 44
def u__law_odd : SF := sSeq (sIf (tB (eBin cEqX (eIx (eVar 0) (eC (.int 0))) (eC (.str [105, 110, 116])))) (sRet (eBin addT (eBin addT (eLst (aCons (eC .non) (aCons (eC (.str [48])) (aCons (eC (.bl true)) (aCons (eC (.bl false)) (aCons (eTup (aCons (eC (.int 0)) aNil)) aNil)))))) (eIf (tB (eBin cIs (eIx (eVar 0) (eC (.int 1))) (eC .non))) (eLst (aNil)) (eLst (aCons (eBin subT (eIx (eVar 0) (eC (.int 1))) (eC (.int 1))) aNil)))) (eIf (tB (eBin cIs (eIx (eVar 0) (eC (.int 2))) (eC .non))) (eLst (aNil)) (eLst (aCons (eBin addT (eIx (eVar 0) (eC (.int 2))) (eC (.int 1))) aNil))))) (sNil)) (sSeq (sIf (tB (eBin cEqX (eIx (eVar 0) (eC (.int 0))) (eC (.str [119, 111, 114, 100])))) (sRet (eBin addT (eBin addT (eLst (aCons (eC .non) (aCons (eC (.int 3)) (aCons (eTup (aCons (eC (.str [97])) aNil)) (aCons (eC (.str [122, 122, 122, 122])) (aCons (eC (.str [122])) aNil)))))) (eIf (tB (eBin cIsNot (eIx (eVar 0) (eC (.int 3))) (eC .non))) (eLst (aCons (eBin mulT (eIx (eIx (eVar 0) (eC (.int 1))) (eC (.int 0))) (eBin addT (eIx (eVar 0) (eC (.int 3))) (eC (.int 1)))) aNil)) (eLst (aNil)))) (eIf (tB (eBin cGt (eIx (eVar 0) (eC (.int 2))) (eC (.int 0)))) (eLst (aCons (eC (.str [])) aNil)) (eLst (aNil))))) (sNil)) (sSeq (sIf (tB (eBin cEqX (eIx (eVar 0) (eC (.int 0))) (eC (.str [111, 110, 101])))) (sRet (eLst (aCons (eNeg (eC (.int 1))) (aCons (eIx (eVar 0) (eC (.int 1))) (aCons (eC (.bl true)) (aCons (eC (.str [48])) (aCons (eC .non) aNil))))))) (sNil)) (sSeq (sIf (tB (eBin cEqX (eIx (eVar 0) (eC (.int 0))) (eC (.str [109, 97, 121, 98, 101])))) (sRet (eLst (aCons (eC (.str [115, 111, 109, 101])) (aCons (eTup (aCons (eC (.str [115, 111, 109, 101])) aNil)) (aCons (eTup (aCons (eC (.str [115, 111, 109, 101])) (aCons (eTup (aCons (eC (.str [122, 122])) (aCons (eC (.str [122, 122])) (aCons (eC (.str [122, 122])) aNil)))) aNil))) (aCons (eTup (aCons (eC (.str [110, 111, 110, 101])) (aCons (eC .non) aNil))) (aCons (eLst (aCons (eC (.str [115, 111, 109, 101])) (aCons (eC (.int 1)) aNil))) (aCons (eC (.bl false)) aNil)))))))) (sNil)) (sSeq (sIf (tB (eBin cEqX (eIx (eVar 0) (eC (.int 0))) (eC (.str [109, 97, 110, 121])))) (sRet (eBin addT (eLst (aCons (eC .non) (aCons (eC (.str [122, 122])) (aCons (eC (.int 3)) (aCons (eBin mulT1 (eTup (aCons (eTup (aCons (eC (.str [122, 122])) (aCons (eC (.str [122, 122])) (aCons (eC (.str [122, 122])) aNil)))) aNil)) (eBin addT (eIx (eVar 0) (eC (.int 2))) (eC (.int 1)))) aNil))))) (eIf (tB (eBin cGt (eIx (eVar 0) (eC (.int 2))) (eC (.int 0)))) (eLst (aCons (eTup (aNil)) aNil)) (eLst (aNil))))) (sNil)) (sSeq (sIf (tB (eBin cEqX (eIx (eVar 0) (eC (.int 0))) (eC (.str [99, 97, 115, 101])))) (sRet (eLst (aCons (eC .non) (aCons (eTup (aCons (eB lenT (aCons (eIx (eVar 0) (eC (.int 1))) aNil)) (aCons (eC (.int 0)) aNil))) (aCons (eTup (aCons (eNeg (eC (.int 1))) (aCons (eC (.int 0)) aNil))) (aCons (eTup (aCons (eC (.int 0)) aNil)) (aCons (eTup (aCons (eC (.int 0)) (aCons (eTup (aCons (eC (.str [122, 122])) (aCons (eC (.str [122, 122])) (aCons (eC (.str [122, 122])) aNil)))) aNil))) (aCons (eTup (aCons (eC (.bl true)) (aCons (eTup (aCons (eC (.str [122, 122])) (aCons (eC (.str [122, 122])) (aCons (eC (.str [122, 122])) aNil)))) aNil))) (aCons (eLst (aCons (eC (.int 0)) (aCons (eC (.int 0)) aNil))) aNil))))))))) (sNil)) (sRet (eLst (aCons (eC .non) (aCons (eBin mulT1 (eTup (aCons (eC (.str [122, 122])) aNil)) (eBin addT (eB lenT (aCons (eIx (eVar 0) (eC (.int 1))) aNil)) (eC (.int 1)))) (aCons (eB listG (aCons (eIx (eVar 0) (eC (.int 1))) aNil)) (aCons (eC (.str [122, 122])) aNil)))))))))))
def φ__law_odd : Phi := runF 1 1 u__law_odd
theorem sc__law_odd : FnScope ["sort"] ["sort"] (defScope s__law_odd) := ⟨rfl, rfl, rfl, by decide +kernel, rfl, by decide +kernel, by decide +kernel⟩
theorem ok__law_odd (hK : p.K = K) (F : FunC K "_law_odd" s__law_odd f fd cA)
    (z_len : mg "len" = none)
    (z_list : mg "list" = none) :
    FnF P w K mg base 1 f fd ["sort"] p φ__law_odd := by
  refine fn_okC F sc__law_odd fun A outer s H E ex hr => ?_
  have hu := hr.units
  exact ss_cons (ss_if (sb_cmp (ot_eqX hK hu) (se_ix hK (se_var (pv 0)) (se_int)) (se_str [105, 110, 116] rfl)) (ss_one (ss_ret (se_bin (ot_add hK) (se_bin (ot_add hK) (se_lst (sa_cons (se_non) (sa_cons (se_str [48] rfl) (sa_cons (se_bl) (sa_cons (se_bl) (sa_cons (se_tup (sa_cons (se_int) sa_nil)) sa_nil)))))) (se_if (sb_cmp ot_is (se_ix hK (se_var (pv 0)) (se_int)) (se_non)) (se_lst (sa_nil)) (se_lst (sa_cons (se_bin ot_sub (se_ix hK (se_var (pv 0)) (se_int)) (se_int)) sa_nil)))) (se_if (sb_cmp ot_is (se_ix hK (se_var (pv 0)) (se_int)) (se_non)) (se_lst (sa_nil)) (se_lst (sa_cons (se_bin (ot_add hK) (se_ix hK (se_var (pv 0)) (se_int)) (se_int)) sa_nil)))))) (ss_nil)) (ss_cons (ss_if (sb_cmp (ot_eqX hK hu) (se_ix hK (se_var (pv 0)) (se_int)) (se_str [119, 111, 114, 100] rfl)) (ss_one (ss_ret (se_bin (ot_add hK) (se_bin (ot_add hK) (se_lst (sa_cons (se_non) (sa_cons (se_int) (sa_cons (se_tup (sa_cons (se_str [97] rfl) sa_nil)) (sa_cons (se_str [122, 122, 122, 122] rfl) (sa_cons (se_str [122] rfl) sa_nil)))))) (se_if (sb_cmp ot_isNot (se_ix hK (se_var (pv 0)) (se_int)) (se_non)) (se_lst (sa_cons (se_bin (ot_mul hK) (se_ix hK (se_ix hK (se_var (pv 0)) (se_int)) (se_int)) (se_bin (ot_add hK) (se_ix hK (se_var (pv 0)) (se_int)) (se_int))) sa_nil)) (se_lst (sa_nil)))) (se_if (sb_cmp ot_gt (se_ix hK (se_var (pv 0)) (se_int)) (se_int)) (se_lst (sa_cons (se_str [] rfl) sa_nil)) (se_lst (sa_nil)))))) (ss_nil)) (ss_cons (ss_if (sb_cmp (ot_eqX hK hu) (se_ix hK (se_var (pv 0)) (se_int)) (se_str [111, 110, 101] rfl)) (ss_one (ss_ret (se_lst (sa_cons (se_neg (se_int)) (sa_cons (se_ix hK (se_var (pv 0)) (se_int)) (sa_cons (se_bl) (sa_cons (se_str [48] rfl) (sa_cons (se_non) sa_nil)))))))) (ss_nil)) (ss_cons (ss_if (sb_cmp (ot_eqX hK hu) (se_ix hK (se_var (pv 0)) (se_int)) (se_str [109, 97, 121, 98, 101] rfl)) (ss_one (ss_ret (se_lst (sa_cons (se_str [115, 111, 109, 101] rfl) (sa_cons (se_tup (sa_cons (se_str [115, 111, 109, 101] rfl) sa_nil)) (sa_cons (se_tup (sa_cons (se_str [115, 111, 109, 101] rfl) (sa_cons (se_tup (sa_cons (se_str [122, 122] rfl) (sa_cons (se_str [122, 122] rfl) (sa_cons (se_str [122, 122] rfl) sa_nil)))) sa_nil))) (sa_cons (se_tup (sa_cons (se_str [110, 111, 110, 101] rfl) (sa_cons (se_non) sa_nil))) (sa_cons (se_lst (sa_cons (se_str [115, 111, 109, 101] rfl) (sa_cons (se_int) sa_nil))) (sa_cons (se_bl) sa_nil))))))))) (ss_nil)) (ss_cons (ss_if (sb_cmp (ot_eqX hK hu) (se_ix hK (se_var (pv 0)) (se_int)) (se_str [109, 97, 110, 121] rfl)) (ss_one (ss_ret (se_bin (ot_add hK) (se_lst (sa_cons (se_non) (sa_cons (se_str [122, 122] rfl) (sa_cons (se_int) (sa_cons (se_bin (ot_mul1 hK) (se_tup (sa_cons (se_tup (sa_cons (se_str [122, 122] rfl) (sa_cons (se_str [122, 122] rfl) (sa_cons (se_str [122, 122] rfl) sa_nil)))) sa_nil)) (se_bin (ot_add hK) (se_ix hK (se_var (pv 0)) (se_int)) (se_int))) sa_nil))))) (se_if (sb_cmp ot_gt (se_ix hK (se_var (pv 0)) (se_int)) (se_int)) (se_lst (sa_cons (se_tup (sa_nil)) sa_nil)) (se_lst (sa_nil)))))) (ss_nil)) (ss_cons (ss_if (sb_cmp (ot_eqX hK hu) (se_ix hK (se_var (pv 0)) (se_int)) (se_str [99, 97, 115, 101] rfl)) (ss_one (ss_ret (se_lst (sa_cons (se_non) (sa_cons (se_tup (sa_cons (se_callB (ca_len hK) z_len PySem.boot_len (sa_cons (se_ix hK (se_var (pv 0)) (se_int)) sa_nil)) (sa_cons (se_int) sa_nil))) (sa_cons (se_tup (sa_cons (se_neg (se_int)) (sa_cons (se_int) sa_nil))) (sa_cons (se_tup (sa_cons (se_int) sa_nil)) (sa_cons (se_tup (sa_cons (se_int) (sa_cons (se_tup (sa_cons (se_str [122, 122] rfl) (sa_cons (se_str [122, 122] rfl) (sa_cons (se_str [122, 122] rfl) sa_nil)))) sa_nil))) (sa_cons (se_tup (sa_cons (se_bl) (sa_cons (se_tup (sa_cons (se_str [122, 122] rfl) (sa_cons (se_str [122, 122] rfl) (sa_cons (se_str [122, 122] rfl) sa_nil)))) sa_nil))) (sa_cons (se_lst (sa_cons (se_int) (sa_cons (se_int) sa_nil))) sa_nil)))))))))) (ss_nil)) (ss_one (ss_ret (se_lst (sa_cons (se_non) (sa_cons (se_bin (ot_mul1 hK) (se_tup (sa_cons (se_str [122, 122] rfl) sa_nil)) (se_bin (ot_add hK) (se_callB (ca_len hK) z_len PySem.boot_len (sa_cons (se_ix hK (se_var (pv 0)) (se_int)) sa_nil)) (se_int))) (sa_cons (se_callT (ca_listG hK rfl) z_list PyProof.Rows.Boot.«list» (sa_cons (se_ix hK (se_var (pv 0)) (se_int)) sa_nil)) (sa_cons (se_str [122, 122] rfl) sa_nil))))))))))))
abbrev s__law_refuses_known : Stmt := top 45
def u__law_refuses_known : SF := sSeq (sTup [0, 1, 2] (eTup (aCons (eTup (aCons (eC (.str [111, 110, 101])) (aCons (eC (.int 3)) aNil))) (aCons (eTup (aCons (eC (.str [119, 111, 114, 100])) (aCons (eC (.str [97, 98])) (aCons (eC (.int 1)) (aCons (eC (.int 2)) aNil))))) (aCons (eTup (aCons (eC (.str [105, 110, 116])) (aCons (eC (.int 0)) (aCons (eC (.int 9)) aNil)))) aNil))))) (sSeq (sSet 3 (eLst (aCons (eTup (aCons (eC (.str [111, 110, 101])) (aCons (eC (.int 0)) aNil))) (aCons (eTup (aCons (eC (.str [111, 110, 101])) (aCons (eC (.int 13)) aNil))) (aCons (eTup (aCons (eC (.str [111, 110, 101])) (aCons (eC (.bl true)) aNil))) (aCons (eTup (aCons (eC (.str [111, 110, 101])) aNil)) (aCons (eTup (aCons (eC (.str [111, 110, 101])) (aCons (eC (.int 3)) (aCons (eC (.int 3)) aNil)))) (aCons (eLst (aCons (eC (.str [111, 110, 101])) (aCons (eC (.int 3)) aNil))) (aCons (eTup (aCons (eC (.str [111, 110, 101])) (aCons (eC (.str [51])) aNil))) (aCons (eTup (aCons (eC (.str [116, 119, 111])) (aCons (eC (.int 3)) aNil))) (aCons (eTup (aCons (eC (.int 1)) (aCons (eC (.int 3)) aNil))) (aCons (eTup (aCons (eC (.str [111, 110, 101])) (aCons (eC .non) aNil))) (aCons (eC (.str [111, 110, 101])) (aCons (eC .non) (aCons (eTup (aNil)) aNil))))))))))))))) (sSeq (sSet 3 (eBin addT (eVar 3) (eLst (aCons (eTup (aCons (eC (.str [105, 110, 116])) (aCons (eC (.int 1)) (aCons (eC (.int 0)) aNil)))) (aCons (eTup (aCons (eC (.str [105, 110, 116])) (aCons (eC (.bl true)) (aCons (eC (.int 3)) aNil)))) (aCons (eTup (aCons (eC (.str [105, 110, 116])) (aCons (eC (.int 0)) (aCons (eC (.bl false)) aNil)))) (aCons (eTup (aCons (eC (.str [105, 110, 116])) (aCons (eC (.int 0)) aNil))) (aCons (eTup (aCons (eC (.str [105, 110, 116])) (aCons (eC (.int 0)) (aCons (eC (.int 1)) (aCons (eC (.int 2)) aNil))))) (aCons (eTup (aCons (eC (.str [105, 110, 116])) (aCons (eBin powT (eC (.int 10)) (eC (.int 9))) (aCons (eC .non) aNil)))) (aCons (eTup (aCons (eC (.str [105, 110, 116])) (aCons (eC .non) (aCons (eNeg (eBin powT (eC (.int 10)) (eC (.int 9)))) aNil)))) (aCons (eTup (aCons (eC (.str [105, 110, 116])) (aCons (eC (.str [48])) (aCons (eC .non) aNil)))) (aCons (eTup (aCons (eC (.str [119, 111, 114, 100])) (aCons (eC (.str [])) (aCons (eC (.int 0)) (aCons (eC (.int 1)) aNil))))) (aCons (eTup (aCons (eC (.str [119, 111, 114, 100])) (aCons (eC (.str [98, 97])) (aCons (eC (.int 0)) (aCons (eC (.int 1)) aNil))))) (aCons (eTup (aCons (eC (.str [119, 111, 114, 100])) (aCons (eC (.str [97, 97])) (aCons (eC (.int 0)) (aCons (eC (.int 1)) aNil))))) (aCons (eTup (aCons (eC (.str [119, 111, 114, 100])) (aCons (eC (.str [10])) (aCons (eC (.int 0)) (aCons (eC (.int 1)) aNil))))) aNil))))))))))))))) (sSeq (sSet 3 (eBin addT (eVar 3) (eLst (aCons (eTup (aCons (eC (.str [119, 111, 114, 100])) (aCons (eC (.str [97, 98])) (aCons (eC (.int 0)) aNil)))) (aCons (eTup (aCons (eC (.str [119, 111, 114, 100])) (aCons (eC (.str [97, 98])) (aCons (eC (.int 0)) (aCons (eC (.int 1)) (aCons (eC (.int 2)) aNil)))))) (aCons (eTup (aCons (eC (.str [119, 111, 114, 100])) (aCons (eC (.str [97, 98])) (aCons (eNeg (eC (.int 1))) (aCons (eC (.int 1)) aNil))))) (aCons (eTup (aCons (eC (.str [119, 111, 114, 100])) (aCons (eC (.str [97, 98])) (aCons (eC (.int 9)) (aCons (eC (.int 9)) aNil))))) (aCons (eTup (aCons (eC (.str [119, 111, 114, 100])) (aCons (eC (.str [97, 98])) (aCons (eC (.int 2)) (aCons (eC (.int 1)) aNil))))) (aCons (eTup (aCons (eC (.str [119, 111, 114, 100])) (aCons (eC (.str [97, 98])) (aCons (eC (.int 0)) (aCons (eC (.int 13)) aNil))))) (aCons (eTup (aCons (eC (.str [119, 111, 114, 100])) (aCons (eC (.str [97, 98])) (aCons (eC (.bl true)) (aCons (eC (.int 2)) aNil))))) (aCons (eTup (aCons (eC (.str [119, 111, 114, 100])) (aCons (eC (.str [97, 98])) (aCons (eC (.int 0)) (aCons (eC (.bl true)) aNil))))) (aCons (eTup (aCons (eC (.str [119, 111, 114, 100])) (aCons (eC (.str [97, 98, 99, 100, 101, 102, 103, 104, 105, 106, 107, 108, 109])) (aCons (eC (.int 0)) (aCons (eC (.int 1)) aNil))))) (aCons (eTup (aCons (eC (.str [119, 111, 114, 100])) (aCons (eTup (aCons (eC (.str [97])) (aCons (eC (.str [98])) aNil))) (aCons (eC (.int 0)) (aCons (eC (.int 1)) aNil))))) (aCons (eTup (aCons (eC (.str [119, 111, 114, 100])) (aCons (eC .non) (aCons (eC (.int 0)) (aCons (eC (.int 1)) aNil))))) aNil)))))))))))))) (sSeq (sSet 3 (eBin addT (eVar 3) (eLst (aCons (eTup (aCons (eC (.str [109, 97, 121, 98, 101])) (aCons (eVar 0) (aCons (eVar 0) aNil)))) (aCons (eTup (aCons (eC (.str [109, 97, 121, 98, 101])) aNil)) (aCons (eTup (aCons (eC (.str [109, 97, 121, 98, 101])) (aCons (eC (.int 3)) aNil))) (aCons (eTup (aCons (eC (.str [114, 111, 119])) (aCons (eBin mulT1 (eTup (aCons (eVar 0) aNil)) (eC (.int 7))) aNil))) (aCons (eTup (aCons (eC (.str [114, 111, 119])) (aCons (eLst (aCons (eVar 0) aNil)) aNil))) (aCons (eTup (aCons (eC (.str [114, 111, 119])) (aCons (eVar 0) aNil))) (aCons (eTup (aCons (eC (.str [114, 111, 119])) (aCons (eTup (aCons (eVar 0) aNil)) (aCons (eC (.int 1)) aNil)))) (aCons (eTup (aCons (eC (.str [114, 111, 119])) aNil)) (aCons (eTup (aCons (eC (.str [114, 111, 119])) (aCons (eTup (aCons (eVar 0) (aCons (eC (.int 3)) aNil))) aNil))) (aCons (eTup (aCons (eC (.str [109, 97, 110, 121])) (aCons (eVar 0) (aCons (eC (.int 0)) aNil)))) (aCons (eTup (aCons (eC (.str [109, 97, 110, 121])) (aCons (eVar 0) (aCons (eC (.int 0)) (aCons (eC (.int 1)) (aCons (eC (.int 2)) aNil)))))) (aCons (eTup (aCons (eC (.str [109, 97, 110, 121])) (aCons (eVar 0) (aCons (eC (.int 2)) (aCons (eC (.int 1)) aNil))))) (aCons (eTup (aCons (eC (.str [109, 97, 110, 121])) (aCons (eVar 0) (aCons (eNeg (eC (.int 1))) (aCons (eC (.int 1)) aNil))))) (aCons (eTup (aCons (eC (.str [109, 97, 110, 121])) (aCons (eVar 0) (aCons (eC (.int 0)) (aCons (eC (.int 13)) aNil))))) (aCons (eTup (aCons (eC (.str [109, 97, 110, 121])) (aCons (eC (.int 3)) (aCons (eC (.int 0)) (aCons (eC (.int 1)) aNil))))) (aCons (eTup (aCons (eC (.str [109, 97, 110, 121])) (aCons (eVar 0) (aCons (eC (.int 9)) (aCons (eC (.int 9)) aNil))))) (aCons (eTup (aCons (eC (.str [109, 97, 110, 121])) (aCons (eVar 0) (aCons (eC (.bl false)) (aCons (eC (.int 1)) aNil))))) aNil)))))))))))))))))))) (sSeq (sSet 3 (eBin addT (eVar 3) (eLst (aCons (eTup (aCons (eC (.str [99, 97, 115, 101])) (aCons (eTup (aNil)) aNil))) (aCons (eTup (aCons (eC (.str [99, 97, 115, 101])) (aCons (eBin mulT1 (eTup (aCons (eVar 0) aNil)) (eC (.int 7))) aNil))) (aCons (eTup (aCons (eC (.str [99, 97, 115, 101])) (aCons (eLst (aCons (eVar 0) aNil)) aNil))) (aCons (eTup (aCons (eC (.str [99, 97, 115, 101])) (aCons (eTup (aCons (eVar 0) aNil)) (aCons (eC (.int 1)) aNil)))) (aCons (eTup (aCons (eC (.str [99, 97, 115, 101])) aNil)) (aCons (eTup (aCons (eC (.str [99, 97, 115, 101])) (aCons (eTup (aCons (eC (.int 3)) aNil)) aNil))) (aCons (eTup (aCons (eC (.str [109, 97, 121, 98, 101])) (aCons (eTup (aCons (eC (.str [109, 97, 121, 98, 101])) (aCons (eTup (aCons (eC (.str [109, 97, 121, 98, 101])) (aCons (eTup (aCons (eC (.str [109, 97, 121, 98, 101])) (aCons (eVar 0) aNil))) aNil))) aNil))) aNil))) (aCons (eTup (aCons (eC (.str [114, 111, 119])) (aCons (eTup (aCons (eTup (aCons (eC (.str [114, 111, 119])) (aCons (eBin mulT1 (eTup (aCons (eVar 0) aNil)) (eC (.int 6))) aNil))) (aCons (eTup (aCons (eC (.str [114, 111, 119])) (aCons (eBin mulT1 (eTup (aCons (eVar 0) aNil)) (eC (.int 6))) aNil))) (aCons (eVar 0) (aCons (eVar 0) aNil))))) aNil))) aNil))))))))))) (sSeq (sIf (bOr (tB (eB anyF (aCons (lcF (iSeq (eVar 3)) (bN 5) (uYes) (eCall 1 φ_is_sort (aCons (eVar 5) aNil)) [5]) aNil))) (bNot (tB (eB allF (aCons (lcF (iSeq (eTup (aCons (eVar 0) (aCons (eVar 1) (aCons (eVar 2) (aCons (eTup (aCons (eC (.str [114, 111, 119])) (aCons (eTup (aNil)) aNil))) (aCons (eTup (aCons (eC (.str [109, 97, 121, 98, 101])) (aCons (eTup (aCons (eC (.str [109, 97, 121, 98, 101])) (aCons (eTup (aCons (eC (.str [109, 97, 121, 98, 101])) (aCons (eVar 0) aNil))) aNil))) aNil))) (aCons (eTup (aCons (eC (.str [114, 111, 119])) (aCons (eTup (aCons (eTup (aCons (eC (.str [114, 111, 119])) (aCons (eBin mulT1 (eTup (aCons (eVar 0) aNil)) (eC (.int 6))) aNil))) (aCons (eTup (aCons (eC (.str [114, 111, 119])) (aCons (eBin mulT1 (eTup (aCons (eVar 0) aNil)) (eC (.int 6))) aNil))) (aCons (eVar 0) aNil)))) aNil))) aNil)))))))) (bN 5) (uYes) (eCall 1 φ_is_sort (aCons (eVar 5) aNil)) [5]) aNil))))) (sRet (eC (.bl false))) (sNil)) (sSeq (sSet 4 (eLst (aCons (eTup (aCons (eVar 0) (aCons (eTup (aCons (eC (.int 3)) (aCons (eNeg (eC (.int 1))) (aCons (eC (.bl true)) (aCons (eC .non) (aCons (eC (.str [48])) (aCons (eTup (aCons (eC (.int 0)) aNil)) (aCons (eC (.str [])) aNil)))))))) aNil))) (aCons (eTup (aCons (eVar 1) (aCons (eTup (aCons (eC (.str [])) (aCons (eC (.str [97, 98, 97])) (aCons (eC (.str [99])) (aCons (eC .non) (aCons (eC (.int 1)) (aCons (eTup (aCons (eC (.str [97])) aNil)) aNil))))))) aNil))) (aCons (eTup (aCons (eVar 2) (aCons (eTup (aCons (eNeg (eC (.int 1))) (aCons (eC (.int 10)) (aCons (eC (.bl false)) (aCons (eC .non) (aCons (eC (.str [49])) aNil)))))) aNil))) (aCons (eTup (aCons (eTup (aCons (eC (.str [109, 97, 121, 98, 101])) (aCons (eVar 0) aNil))) (aCons (eTup (aCons (eC (.int 0)) (aCons (eTup (aCons (eC (.str [115, 111, 109, 101])) aNil)) (aCons (eTup (aCons (eC (.str [115, 111, 109, 101])) (aCons (eC (.int 3)) aNil))) (aCons (eTup (aCons (eC (.str [97, 110, 121])) (aCons (eC (.int 1)) aNil))) (aCons (eLst (aCons (eC (.str [115, 111, 109, 101])) (aCons (eC (.int 1)) aNil))) (aCons (eTup (aCons (eC (.str [115, 111, 109, 101])) (aCons (eC (.int 1)) (aCons (eC (.int 1)) aNil)))) (aCons (eTup (aCons (eC (.str [115, 111, 109, 101])) (aCons (eC .non) aNil))) (aCons (eTup (aNil)) (aCons (eC (.bl false)) aNil)))))))))) aNil))) aNil)))))) (sSeq (sSet 4 (eBin addT (eVar 4) (eLst (aCons (eTup (aCons (eTup (aCons (eC (.str [114, 111, 119])) (aCons (eTup (aCons (eVar 0) (aCons (eVar 1) aNil))) aNil))) (aCons (eTup (aCons (eTup (aCons (eC (.int 0)) aNil)) (aCons (eTup (aCons (eC (.int 0)) (aCons (eC (.str [97])) (aCons (eC (.int 0)) aNil)))) (aCons (eTup (aCons (eC (.int 3)) (aCons (eC (.str [97])) aNil))) (aCons (eTup (aCons (eC (.int 0)) (aCons (eC (.str [99])) aNil))) (aCons (eLst (aCons (eC (.int 0)) (aCons (eC (.str [97])) aNil))) (aCons (eTup (aCons (eC (.str [97])) (aCons (eC (.int 0)) aNil))) (aCons (eC .non) (aCons (eTup (aNil)) aNil))))))))) aNil))) (aCons (eTup (aCons (eTup (aCons (eC (.str [114, 111, 119])) (aCons (eTup (aNil)) aNil))) (aCons (eTup (aCons (eLst (aNil)) (aCons (eC .non) (aCons (eTup (aCons (eC (.int 0)) aNil)) aNil)))) aNil))) (aCons (eTup (aCons (eTup (aCons (eC (.str [109, 97, 110, 121])) (aCons (eVar 0) (aCons (eC (.int 1)) (aCons (eC (.int 2)) aNil))))) (aCons (eTup (aCons (eTup (aNil)) (aCons (eTup (aCons (eC (.int 0)) (aCons (eC (.int 0)) (aCons (eC (.int 0)) aNil)))) (aCons (eTup (aCons (eC (.int 3)) aNil)) (aCons (eLst (aCons (eC (.int 0)) aNil)) (aCons (eTup (aCons (eC (.int 0)) (aCons (eC .non) aNil))) (aCons (eC (.int 0)) (aCons (eC .non) aNil)))))))) aNil))) aNil)))))) (sSeq (sSet 4 (eBin addT (eVar 4) (eLst (aCons (eTup (aCons (eTup (aCons (eC (.str [99, 97, 115, 101])) (aCons (eTup (aCons (eVar 0) (aCons (eVar 1) aNil))) aNil))) (aCons (eTup (aCons (eTup (aCons (eC (.int 0)) (aCons (eC (.str [97])) aNil))) (aCons (eTup (aCons (eC (.int 1)) (aCons (eC (.int 0)) aNil))) (aCons (eTup (aCons (eC (.int 2)) (aCons (eC (.int 0)) aNil))) (aCons (eTup (aCons (eNeg (eC (.int 1))) (aCons (eC (.int 0)) aNil))) (aCons (eTup (aCons (eC (.bl true)) (aCons (eC (.str [97])) aNil))) (aCons (eTup (aCons (eC (.int 0)) aNil)) (aCons (eTup (aCons (eC (.int 0)) (aCons (eC (.int 0)) (aCons (eC (.int 0)) aNil)))) (aCons (eLst (aCons (eC (.int 0)) (aCons (eC (.int 0)) aNil))) (aCons (eC (.int 0)) (aCons (eC .non) aNil))))))))))) aNil))) (aCons (eTup (aCons (eTup (aCons (eC (.str [105, 110, 116])) (aCons (eC .non) (aCons (eC (.int 5)) aNil)))) (aCons (eTup (aCons (eC (.int 6)) (aCons (eC .non) aNil))) aNil))) (aCons (eTup (aCons (eTup (aCons (eC (.str [105, 110, 116])) (aCons (eC (.int 5)) (aCons (eC .non) aNil)))) (aCons (eTup (aCons (eC (.int 4)) (aCons (eC (.str [53])) aNil))) aNil))) (aCons (eTup (aCons (eTup (aCons (eC (.str [119, 111, 114, 100])) (aCons (eC (.str [97, 98])) (aCons (eC (.int 0)) (aCons (eC .non) aNil))))) (aCons (eTup (aCons (eC (.str [99])) (aCons (eC (.int 0)) aNil))) aNil))) (aCons (eTup (aCons (eTup (aCons (eC (.str [109, 97, 110, 121])) (aCons (eVar 1) (aCons (eC (.int 0)) (aCons (eC .non) aNil))))) (aCons (eTup (aCons (eTup (aCons (eC (.str [])) aNil)) (aCons (eLst (aCons (eC (.str [97])) aNil)) aNil))) aNil))) aNil)))))))) (sRet (eNot (eB anyF (aCons (lcF (iSeq (eVar 4)) (bN2 6 7) (uYes) (eB anyF (aCons (lcF (iSeq (eVar 7)) (bN 5) (uYes) (eCall 2 φ_is_value (aCons (eVar 6) (aCons (eVar 5) aNil))) [5]) aNil)) [6, 7]) aNil)))))))))))))
def φ__law_refuses_known : Phi := runF 8 0 u__law_refuses_known
theorem sc__law_refuses_known : FnScope ["one", "word", "whole", "wrong", "pairs", "thing", "sort", "things"] [] (defScope s__law_refuses_known) := ⟨rfl, rfl, rfl, by decide +kernel, rfl, by decide +kernel, by decide +kernel⟩
theorem ok__law_refuses_known (hK : p.K = K) (F : FunC K "_law_refuses_known" s__law_refuses_known f fd cA)
    (z_any : mg "any" = none)
    (z_all : mg "all" = none)
    {f_is_sort : Addr} {fd_is_sort : FuncData} (G_is_sort : FnF P w K mg base 29 f_is_sort fd_is_sort ["thing"] p φ_is_sort) (m_is_sort : mg "is_sort" = some (.ref f_is_sort)) (k_is_sort : PySem.W.keepIn K (.ref f_is_sort) = true) (b_is_sort : Binds K fd_is_sort ["thing"] [])
    {f_is_value : Addr} {fd_is_value : FuncData} (G_is_value : FnF P w K mg base 27 f_is_value fd_is_value ["sort", "thing"] p φ_is_value) (m_is_value : mg "is_value" = some (.ref f_is_value)) (k_is_value : PySem.W.keepIn K (.ref f_is_value) = true) (b_is_value : Binds K fd_is_value ["sort", "thing"] []) :
    FnF P w K mg base 30 f fd [] p φ__law_refuses_known := by
  refine fn_okC F sc__law_refuses_known fun A outer s H E ex hr => ?_
  have hu := hr.units
  exact ss_cons (ss_tup (is := [0, 1, 2]) hK rfl (se_tup (sa_cons (se_tup (sa_cons (se_str [111, 110, 101] rfl) (sa_cons (se_int) sa_nil))) (sa_cons (se_tup (sa_cons (se_str [119, 111, 114, 100] rfl) (sa_cons (se_str [97, 98] rfl) (sa_cons (se_int) (sa_cons (se_int) sa_nil))))) (sa_cons (se_tup (sa_cons (se_str [105, 110, 116] rfl) (sa_cons (se_int) (sa_cons (se_int) sa_nil)))) sa_nil)))) (pgs_cons (pg_name (i := 0) sc__law_refuses_known.nd rfl (by first | exact .inl rfl | exact .inr rfl)) (pgs_cons (pg_name (i := 1) sc__law_refuses_known.nd rfl (by first | exact .inl rfl | exact .inr rfl)) (pgs_cons (pg_name (i := 2) sc__law_refuses_known.nd rfl (by first | exact .inl rfl | exact .inr rfl)) (pgs_nil))))) (ss_cons (ss_set (i := 3) (se_lst (sa_cons (se_tup (sa_cons (se_str [111, 110, 101] rfl) (sa_cons (se_int) sa_nil))) (sa_cons (se_tup (sa_cons (se_str [111, 110, 101] rfl) (sa_cons (se_int) sa_nil))) (sa_cons (se_tup (sa_cons (se_str [111, 110, 101] rfl) (sa_cons (se_bl) sa_nil))) (sa_cons (se_tup (sa_cons (se_str [111, 110, 101] rfl) sa_nil)) (sa_cons (se_tup (sa_cons (se_str [111, 110, 101] rfl) (sa_cons (se_int) (sa_cons (se_int) sa_nil)))) (sa_cons (se_lst (sa_cons (se_str [111, 110, 101] rfl) (sa_cons (se_int) sa_nil))) (sa_cons (se_tup (sa_cons (se_str [111, 110, 101] rfl) (sa_cons (se_str [51] rfl) sa_nil))) (sa_cons (se_tup (sa_cons (se_str [116, 119, 111] rfl) (sa_cons (se_int) sa_nil))) (sa_cons (se_tup (sa_cons (se_int) (sa_cons (se_int) sa_nil))) (sa_cons (se_tup (sa_cons (se_str [111, 110, 101] rfl) (sa_cons (se_non) sa_nil))) (sa_cons (se_str [111, 110, 101] rfl) (sa_cons (se_non) (sa_cons (se_tup (sa_nil)) sa_nil)))))))))))))) sc__law_refuses_known.nd) (ss_cons (ss_set (i := 3) (se_bin (ot_add hK) (se_var (pv 3)) (se_lst (sa_cons (se_tup (sa_cons (se_str [105, 110, 116] rfl) (sa_cons (se_int) (sa_cons (se_int) sa_nil)))) (sa_cons (se_tup (sa_cons (se_str [105, 110, 116] rfl) (sa_cons (se_bl) (sa_cons (se_int) sa_nil)))) (sa_cons (se_tup (sa_cons (se_str [105, 110, 116] rfl) (sa_cons (se_int) (sa_cons (se_bl) sa_nil)))) (sa_cons (se_tup (sa_cons (se_str [105, 110, 116] rfl) (sa_cons (se_int) sa_nil))) (sa_cons (se_tup (sa_cons (se_str [105, 110, 116] rfl) (sa_cons (se_int) (sa_cons (se_int) (sa_cons (se_int) sa_nil))))) (sa_cons (se_tup (sa_cons (se_str [105, 110, 116] rfl) (sa_cons (se_bin ot_pow (se_int) (se_int)) (sa_cons (se_non) sa_nil)))) (sa_cons (se_tup (sa_cons (se_str [105, 110, 116] rfl) (sa_cons (se_non) (sa_cons (se_neg (se_bin ot_pow (se_int) (se_int))) sa_nil)))) (sa_cons (se_tup (sa_cons (se_str [105, 110, 116] rfl) (sa_cons (se_str [48] rfl) (sa_cons (se_non) sa_nil)))) (sa_cons (se_tup (sa_cons (se_str [119, 111, 114, 100] rfl) (sa_cons (se_str [] rfl) (sa_cons (se_int) (sa_cons (se_int) sa_nil))))) (sa_cons (se_tup (sa_cons (se_str [119, 111, 114, 100] rfl) (sa_cons (se_str [98, 97] rfl) (sa_cons (se_int) (sa_cons (se_int) sa_nil))))) (sa_cons (se_tup (sa_cons (se_str [119, 111, 114, 100] rfl) (sa_cons (se_str [97, 97] rfl) (sa_cons (se_int) (sa_cons (se_int) sa_nil))))) (sa_cons (se_tup (sa_cons (se_str [119, 111, 114, 100] rfl) (sa_cons (se_str [10] rfl) (sa_cons (se_int) (sa_cons (se_int) sa_nil))))) sa_nil)))))))))))))) sc__law_refuses_known.nd) (ss_cons (ss_set (i := 3) (se_bin (ot_add hK) (se_var (pv 3)) (se_lst (sa_cons (se_tup (sa_cons (se_str [119, 111, 114, 100] rfl) (sa_cons (se_str [97, 98] rfl) (sa_cons (se_int) sa_nil)))) (sa_cons (se_tup (sa_cons (se_str [119, 111, 114, 100] rfl) (sa_cons (se_str [97, 98] rfl) (sa_cons (se_int) (sa_cons (se_int) (sa_cons (se_int) sa_nil)))))) (sa_cons (se_tup (sa_cons (se_str [119, 111, 114, 100] rfl) (sa_cons (se_str [97, 98] rfl) (sa_cons (se_neg (se_int)) (sa_cons (se_int) sa_nil))))) (sa_cons (se_tup (sa_cons (se_str [119, 111, 114, 100] rfl) (sa_cons (se_str [97, 98] rfl) (sa_cons (se_int) (sa_cons (se_int) sa_nil))))) (sa_cons (se_tup (sa_cons (se_str [119, 111, 114, 100] rfl) (sa_cons (se_str [97, 98] rfl) (sa_cons (se_int) (sa_cons (se_int) sa_nil))))) (sa_cons (se_tup (sa_cons (se_str [119, 111, 114, 100] rfl) (sa_cons (se_str [97, 98] rfl) (sa_cons (se_int) (sa_cons (se_int) sa_nil))))) (sa_cons (se_tup (sa_cons (se_str [119, 111, 114, 100] rfl) (sa_cons (se_str [97, 98] rfl) (sa_cons (se_bl) (sa_cons (se_int) sa_nil))))) (sa_cons (se_tup (sa_cons (se_str [119, 111, 114, 100] rfl) (sa_cons (se_str [97, 98] rfl) (sa_cons (se_int) (sa_cons (se_bl) sa_nil))))) (sa_cons (se_tup (sa_cons (se_str [119, 111, 114, 100] rfl) (sa_cons (se_str [97, 98, 99, 100, 101, 102, 103, 104, 105, 106, 107, 108, 109] rfl) (sa_cons (se_int) (sa_cons (se_int) sa_nil))))) (sa_cons (se_tup (sa_cons (se_str [119, 111, 114, 100] rfl) (sa_cons (se_tup (sa_cons (se_str [97] rfl) (sa_cons (se_str [98] rfl) sa_nil))) (sa_cons (se_int) (sa_cons (se_int) sa_nil))))) (sa_cons (se_tup (sa_cons (se_str [119, 111, 114, 100] rfl) (sa_cons (se_non) (sa_cons (se_int) (sa_cons (se_int) sa_nil))))) sa_nil))))))))))))) sc__law_refuses_known.nd) (ss_cons (ss_set (i := 3) (se_bin (ot_add hK) (se_var (pv 3)) (se_lst (sa_cons (se_tup (sa_cons (se_str [109, 97, 121, 98, 101] rfl) (sa_cons (se_var (pv 0)) (sa_cons (se_var (pv 0)) sa_nil)))) (sa_cons (se_tup (sa_cons (se_str [109, 97, 121, 98, 101] rfl) sa_nil)) (sa_cons (se_tup (sa_cons (se_str [109, 97, 121, 98, 101] rfl) (sa_cons (se_int) sa_nil))) (sa_cons (se_tup (sa_cons (se_str [114, 111, 119] rfl) (sa_cons (se_bin (ot_mul1 hK) (se_tup (sa_cons (se_var (pv 0)) sa_nil)) (se_int)) sa_nil))) (sa_cons (se_tup (sa_cons (se_str [114, 111, 119] rfl) (sa_cons (se_lst (sa_cons (se_var (pv 0)) sa_nil)) sa_nil))) (sa_cons (se_tup (sa_cons (se_str [114, 111, 119] rfl) (sa_cons (se_var (pv 0)) sa_nil))) (sa_cons (se_tup (sa_cons (se_str [114, 111, 119] rfl) (sa_cons (se_tup (sa_cons (se_var (pv 0)) sa_nil)) (sa_cons (se_int) sa_nil)))) (sa_cons (se_tup (sa_cons (se_str [114, 111, 119] rfl) sa_nil)) (sa_cons (se_tup (sa_cons (se_str [114, 111, 119] rfl) (sa_cons (se_tup (sa_cons (se_var (pv 0)) (sa_cons (se_int) sa_nil))) sa_nil))) (sa_cons (se_tup (sa_cons (se_str [109, 97, 110, 121] rfl) (sa_cons (se_var (pv 0)) (sa_cons (se_int) sa_nil)))) (sa_cons (se_tup (sa_cons (se_str [109, 97, 110, 121] rfl) (sa_cons (se_var (pv 0)) (sa_cons (se_int) (sa_cons (se_int) (sa_cons (se_int) sa_nil)))))) (sa_cons (se_tup (sa_cons (se_str [109, 97, 110, 121] rfl) (sa_cons (se_var (pv 0)) (sa_cons (se_int) (sa_cons (se_int) sa_nil))))) (sa_cons (se_tup (sa_cons (se_str [109, 97, 110, 121] rfl) (sa_cons (se_var (pv 0)) (sa_cons (se_neg (se_int)) (sa_cons (se_int) sa_nil))))) (sa_cons (se_tup (sa_cons (se_str [109, 97, 110, 121] rfl) (sa_cons (se_var (pv 0)) (sa_cons (se_int) (sa_cons (se_int) sa_nil))))) (sa_cons (se_tup (sa_cons (se_str [109, 97, 110, 121] rfl) (sa_cons (se_int) (sa_cons (se_int) (sa_cons (se_int) sa_nil))))) (sa_cons (se_tup (sa_cons (se_str [109, 97, 110, 121] rfl) (sa_cons (se_var (pv 0)) (sa_cons (se_int) (sa_cons (se_int) sa_nil))))) (sa_cons (se_tup (sa_cons (se_str [109, 97, 110, 121] rfl) (sa_cons (se_var (pv 0)) (sa_cons (se_bl) (sa_cons (se_int) sa_nil))))) sa_nil))))))))))))))))))) sc__law_refuses_known.nd) (ss_cons (ss_set (i := 3) (se_bin (ot_add hK) (se_var (pv 3)) (se_lst (sa_cons (se_tup (sa_cons (se_str [99, 97, 115, 101] rfl) (sa_cons (se_tup (sa_nil)) sa_nil))) (sa_cons (se_tup (sa_cons (se_str [99, 97, 115, 101] rfl) (sa_cons (se_bin (ot_mul1 hK) (se_tup (sa_cons (se_var (pv 0)) sa_nil)) (se_int)) sa_nil))) (sa_cons (se_tup (sa_cons (se_str [99, 97, 115, 101] rfl) (sa_cons (se_lst (sa_cons (se_var (pv 0)) sa_nil)) sa_nil))) (sa_cons (se_tup (sa_cons (se_str [99, 97, 115, 101] rfl) (sa_cons (se_tup (sa_cons (se_var (pv 0)) sa_nil)) (sa_cons (se_int) sa_nil)))) (sa_cons (se_tup (sa_cons (se_str [99, 97, 115, 101] rfl) sa_nil)) (sa_cons (se_tup (sa_cons (se_str [99, 97, 115, 101] rfl) (sa_cons (se_tup (sa_cons (se_int) sa_nil)) sa_nil))) (sa_cons (se_tup (sa_cons (se_str [109, 97, 121, 98, 101] rfl) (sa_cons (se_tup (sa_cons (se_str [109, 97, 121, 98, 101] rfl) (sa_cons (se_tup (sa_cons (se_str [109, 97, 121, 98, 101] rfl) (sa_cons (se_tup (sa_cons (se_str [109, 97, 121, 98, 101] rfl) (sa_cons (se_var (pv 0)) sa_nil))) sa_nil))) sa_nil))) sa_nil))) (sa_cons (se_tup (sa_cons (se_str [114, 111, 119] rfl) (sa_cons (se_tup (sa_cons (se_tup (sa_cons (se_str [114, 111, 119] rfl) (sa_cons (se_bin (ot_mul1 hK) (se_tup (sa_cons (se_var (pv 0)) sa_nil)) (se_int)) sa_nil))) (sa_cons (se_tup (sa_cons (se_str [114, 111, 119] rfl) (sa_cons (se_bin (ot_mul1 hK) (se_tup (sa_cons (se_var (pv 0)) sa_nil)) (se_int)) sa_nil))) (sa_cons (se_var (pv 0)) (sa_cons (se_var (pv 0)) sa_nil))))) sa_nil))) sa_nil)))))))))) sc__law_refuses_known.nd) (ss_cons (ss_if (sb_w (sw_or (sb_val (se_callB (ca_any rfl) z_any PyProof.Rows.Boot.«any» (sa_cons (se_lc (own := [(("thing" : Str), 5)]) (g_name (i := 5) (vs := [5]) (by simp)) rfl sc__law_refuses_known.nd (si_seq hK (se_var (pv 3))) ⟨by rfl, by decide +kernel, (by show ∀ p ∈ [(("thing" : Str), 5)], (["one", "word", "whole", "wrong", "pairs", "thing", "sort", "things"] : List Str)[p.2]? = some p.1; decide +kernel), (by show ∀ y ∈ (_ : List (Str × NameKind)), y.2 = NameKind.free → (defScope s__law_refuses_known).names.lookup y.1 = some .cell ∨ (defScope s__law_refuses_known).names.lookup y.1 = some .free; decide +kernel), (by show ∀ y ∈ (_ : List (Str × NameKind)), y.2 = NameKind.local ∨ y.2 = NameKind.cell → y.1 ∈ [(("thing" : Str), 5)].map (·.1) ∨ y.1 ∉ (["one", "word", "whole", "wrong", "pairs", "thing", "sort", "things"] : List Str); decide +kernel)⟩ (fun s H C cl fp => pg_name (i := 5) sc__law_refuses_known.nd rfl (by first | exact .inl rfl | exact .inr rfl)) (fun s H C cl fp => pts_yes) (fun D s H C cl fp => se_call (spF_ex G_is_sort) hr (by omega) m_is_sort k_is_sort b_is_sort (sa_cons (se_var (pv 5)) sa_nil))) sa_nil))) (sw_or1 (sb_not (sb_val (se_callB (ca_all rfl) z_all PyProof.Rows.Boot.«all» (sa_cons (se_lc (own := [(("thing" : Str), 5)]) (g_name (i := 5) (vs := [5]) (by simp)) rfl sc__law_refuses_known.nd (si_seq hK (se_tup (sa_cons (se_var (pv 0)) (sa_cons (se_var (pv 1)) (sa_cons (se_var (pv 2)) (sa_cons (se_tup (sa_cons (se_str [114, 111, 119] rfl) (sa_cons (se_tup (sa_nil)) sa_nil))) (sa_cons (se_tup (sa_cons (se_str [109, 97, 121, 98, 101] rfl) (sa_cons (se_tup (sa_cons (se_str [109, 97, 121, 98, 101] rfl) (sa_cons (se_tup (sa_cons (se_str [109, 97, 121, 98, 101] rfl) (sa_cons (se_var (pv 0)) sa_nil))) sa_nil))) sa_nil))) (sa_cons (se_tup (sa_cons (se_str [114, 111, 119] rfl) (sa_cons (se_tup (sa_cons (se_tup (sa_cons (se_str [114, 111, 119] rfl) (sa_cons (se_bin (ot_mul1 hK) (se_tup (sa_cons (se_var (pv 0)) sa_nil)) (se_int)) sa_nil))) (sa_cons (se_tup (sa_cons (se_str [114, 111, 119] rfl) (sa_cons (se_bin (ot_mul1 hK) (se_tup (sa_cons (se_var (pv 0)) sa_nil)) (se_int)) sa_nil))) (sa_cons (se_var (pv 0)) sa_nil)))) sa_nil))) sa_nil)))))))) ⟨by rfl, by decide +kernel, (by show ∀ p ∈ [(("thing" : Str), 5)], (["one", "word", "whole", "wrong", "pairs", "thing", "sort", "things"] : List Str)[p.2]? = some p.1; decide +kernel), (by show ∀ y ∈ (_ : List (Str × NameKind)), y.2 = NameKind.free → (defScope s__law_refuses_known).names.lookup y.1 = some .cell ∨ (defScope s__law_refuses_known).names.lookup y.1 = some .free; decide +kernel), (by show ∀ y ∈ (_ : List (Str × NameKind)), y.2 = NameKind.local ∨ y.2 = NameKind.cell → y.1 ∈ [(("thing" : Str), 5)].map (·.1) ∨ y.1 ∉ (["one", "word", "whole", "wrong", "pairs", "thing", "sort", "things"] : List Str); decide +kernel)⟩ (fun s H C cl fp => pg_name (i := 5) sc__law_refuses_known.nd rfl (by first | exact .inl rfl | exact .inr rfl)) (fun s H C cl fp => pts_yes) (fun D s H C cl fp => se_call (spF_ex G_is_sort) hr (by omega) m_is_sort k_is_sort b_is_sort (sa_cons (se_var (pv 5)) sa_nil))) sa_nil))))))) (ss_one (ss_ret (se_bl))) (ss_nil)) (ss_cons (ss_set (i := 4) (se_lst (sa_cons (se_tup (sa_cons (se_var (pv 0)) (sa_cons (se_tup (sa_cons (se_int) (sa_cons (se_neg (se_int)) (sa_cons (se_bl) (sa_cons (se_non) (sa_cons (se_str [48] rfl) (sa_cons (se_tup (sa_cons (se_int) sa_nil)) (sa_cons (se_str [] rfl) sa_nil)))))))) sa_nil))) (sa_cons (se_tup (sa_cons (se_var (pv 1)) (sa_cons (se_tup (sa_cons (se_str [] rfl) (sa_cons (se_str [97, 98, 97] rfl) (sa_cons (se_str [99] rfl) (sa_cons (se_non) (sa_cons (se_int) (sa_cons (se_tup (sa_cons (se_str [97] rfl) sa_nil)) sa_nil))))))) sa_nil))) (sa_cons (se_tup (sa_cons (se_var (pv 2)) (sa_cons (se_tup (sa_cons (se_neg (se_int)) (sa_cons (se_int) (sa_cons (se_bl) (sa_cons (se_non) (sa_cons (se_str [49] rfl) sa_nil)))))) sa_nil))) (sa_cons (se_tup (sa_cons (se_tup (sa_cons (se_str [109, 97, 121, 98, 101] rfl) (sa_cons (se_var (pv 0)) sa_nil))) (sa_cons (se_tup (sa_cons (se_int) (sa_cons (se_tup (sa_cons (se_str [115, 111, 109, 101] rfl) sa_nil)) (sa_cons (se_tup (sa_cons (se_str [115, 111, 109, 101] rfl) (sa_cons (se_int) sa_nil))) (sa_cons (se_tup (sa_cons (se_str [97, 110, 121] rfl) (sa_cons (se_int) sa_nil))) (sa_cons (se_lst (sa_cons (se_str [115, 111, 109, 101] rfl) (sa_cons (se_int) sa_nil))) (sa_cons (se_tup (sa_cons (se_str [115, 111, 109, 101] rfl) (sa_cons (se_int) (sa_cons (se_int) sa_nil)))) (sa_cons (se_tup (sa_cons (se_str [115, 111, 109, 101] rfl) (sa_cons (se_non) sa_nil))) (sa_cons (se_tup (sa_nil)) (sa_cons (se_bl) sa_nil)))))))))) sa_nil))) sa_nil))))) sc__law_refuses_known.nd) (ss_cons (ss_set (i := 4) (se_bin (ot_add hK) (se_var (pv 4)) (se_lst (sa_cons (se_tup (sa_cons (se_tup (sa_cons (se_str [114, 111, 119] rfl) (sa_cons (se_tup (sa_cons (se_var (pv 0)) (sa_cons (se_var (pv 1)) sa_nil))) sa_nil))) (sa_cons (se_tup (sa_cons (se_tup (sa_cons (se_int) sa_nil)) (sa_cons (se_tup (sa_cons (se_int) (sa_cons (se_str [97] rfl) (sa_cons (se_int) sa_nil)))) (sa_cons (se_tup (sa_cons (se_int) (sa_cons (se_str [97] rfl) sa_nil))) (sa_cons (se_tup (sa_cons (se_int) (sa_cons (se_str [99] rfl) sa_nil))) (sa_cons (se_lst (sa_cons (se_int) (sa_cons (se_str [97] rfl) sa_nil))) (sa_cons (se_tup (sa_cons (se_str [97] rfl) (sa_cons (se_int) sa_nil))) (sa_cons (se_non) (sa_cons (se_tup (sa_nil)) sa_nil))))))))) sa_nil))) (sa_cons (se_tup (sa_cons (se_tup (sa_cons (se_str [114, 111, 119] rfl) (sa_cons (se_tup (sa_nil)) sa_nil))) (sa_cons (se_tup (sa_cons (se_lst (sa_nil)) (sa_cons (se_non) (sa_cons (se_tup (sa_cons (se_int) sa_nil)) sa_nil)))) sa_nil))) (sa_cons (se_tup (sa_cons (se_tup (sa_cons (se_str [109, 97, 110, 121] rfl) (sa_cons (se_var (pv 0)) (sa_cons (se_int) (sa_cons (se_int) sa_nil))))) (sa_cons (se_tup (sa_cons (se_tup (sa_nil)) (sa_cons (se_tup (sa_cons (se_int) (sa_cons (se_int) (sa_cons (se_int) sa_nil)))) (sa_cons (se_tup (sa_cons (se_int) sa_nil)) (sa_cons (se_lst (sa_cons (se_int) sa_nil)) (sa_cons (se_tup (sa_cons (se_int) (sa_cons (se_non) sa_nil))) (sa_cons (se_int) (sa_cons (se_non) sa_nil)))))))) sa_nil))) sa_nil))))) sc__law_refuses_known.nd) (ss_cons (ss_set (i := 4) (se_bin (ot_add hK) (se_var (pv 4)) (se_lst (sa_cons (se_tup (sa_cons (se_tup (sa_cons (se_str [99, 97, 115, 101] rfl) (sa_cons (se_tup (sa_cons (se_var (pv 0)) (sa_cons (se_var (pv 1)) sa_nil))) sa_nil))) (sa_cons (se_tup (sa_cons (se_tup (sa_cons (se_int) (sa_cons (se_str [97] rfl) sa_nil))) (sa_cons (se_tup (sa_cons (se_int) (sa_cons (se_int) sa_nil))) (sa_cons (se_tup (sa_cons (se_int) (sa_cons (se_int) sa_nil))) (sa_cons (se_tup (sa_cons (se_neg (se_int)) (sa_cons (se_int) sa_nil))) (sa_cons (se_tup (sa_cons (se_bl) (sa_cons (se_str [97] rfl) sa_nil))) (sa_cons (se_tup (sa_cons (se_int) sa_nil)) (sa_cons (se_tup (sa_cons (se_int) (sa_cons (se_int) (sa_cons (se_int) sa_nil)))) (sa_cons (se_lst (sa_cons (se_int) (sa_cons (se_int) sa_nil))) (sa_cons (se_int) (sa_cons (se_non) sa_nil))))))))))) sa_nil))) (sa_cons (se_tup (sa_cons (se_tup (sa_cons (se_str [105, 110, 116] rfl) (sa_cons (se_non) (sa_cons (se_int) sa_nil)))) (sa_cons (se_tup (sa_cons (se_int) (sa_cons (se_non) sa_nil))) sa_nil))) (sa_cons (se_tup (sa_cons (se_tup (sa_cons (se_str [105, 110, 116] rfl) (sa_cons (se_int) (sa_cons (se_non) sa_nil)))) (sa_cons (se_tup (sa_cons (se_int) (sa_cons (se_str [53] rfl) sa_nil))) sa_nil))) (sa_cons (se_tup (sa_cons (se_tup (sa_cons (se_str [119, 111, 114, 100] rfl) (sa_cons (se_str [97, 98] rfl) (sa_cons (se_int) (sa_cons (se_non) sa_nil))))) (sa_cons (se_tup (sa_cons (se_str [99] rfl) (sa_cons (se_int) sa_nil))) sa_nil))) (sa_cons (se_tup (sa_cons (se_tup (sa_cons (se_str [109, 97, 110, 121] rfl) (sa_cons (se_var (pv 1)) (sa_cons (se_int) (sa_cons (se_non) sa_nil))))) (sa_cons (se_tup (sa_cons (se_tup (sa_cons (se_str [] rfl) sa_nil)) (sa_cons (se_lst (sa_cons (se_str [97] rfl) sa_nil)) sa_nil))) sa_nil))) sa_nil))))))) sc__law_refuses_known.nd) (ss_one (ss_ret (se_not (se_callB (ca_any rfl) z_any PyProof.Rows.Boot.«any» (sa_cons (se_lc (own := [(("sort" : Str), 6), (("things" : Str), 7)]) (g_two hK (i := 6) (j := 7) (vs := [6, 7]) (by simp) (by simp)) rfl sc__law_refuses_known.nd (si_seq hK (se_var (pv 4))) ⟨by rfl, by decide +kernel, (by show ∀ p ∈ [(("sort" : Str), 6), (("things" : Str), 7)], (["one", "word", "whole", "wrong", "pairs", "thing", "sort", "things"] : List Str)[p.2]? = some p.1; decide +kernel), (by show ∀ y ∈ (_ : List (Str × NameKind)), y.2 = NameKind.free → (defScope s__law_refuses_known).names.lookup y.1 = some .cell ∨ (defScope s__law_refuses_known).names.lookup y.1 = some .free; decide +kernel), (by show ∀ y ∈ (_ : List (Str × NameKind)), y.2 = NameKind.local ∨ y.2 = NameKind.cell → y.1 ∈ [(("sort" : Str), 6), (("things" : Str), 7)].map (·.1) ∨ y.1 ∉ (["one", "word", "whole", "wrong", "pairs", "thing", "sort", "things"] : List Str); decide +kernel)⟩ (fun s H C cl fp => pg_tup rfl (pgs_cons (pg_name (i := 6) sc__law_refuses_known.nd rfl (by first | exact .inl rfl | exact .inr rfl)) (pgs_cons (pg_name (i := 7) sc__law_refuses_known.nd rfl (by first | exact .inl rfl | exact .inr rfl)) pgs_nil)) rfl rfl) (fun s H C cl fp => pts_yes) (fun D s H C cl fp => se_callB (ca_any rfl) z_any PyProof.Rows.Boot.«any» (sa_cons (se_lc (own := [(("thing" : Str), 5)]) (g_name (i := 5) (vs := [5]) (by simp)) rfl sc__law_refuses_known.nd (si_seq hK (se_var (pv 7))) ⟨by rfl, by decide +kernel, of_decide_eq_true (by kernel_rfl), of_decide_eq_true (by kernel_rfl), of_decide_eq_true (by kernel_rfl)⟩ (fun s H C cl fp => pg_name (i := 5) sc__law_refuses_known.nd rfl (by first | exact .inl rfl | exact .inr rfl)) (fun s H C cl fp => pts_yes) (fun D s H C cl fp => se_call (spF_ex G_is_value) hr (by omega) m_is_value k_is_value b_is_value (sa_cons (se_var (pv 6)) (sa_cons (se_var (pv 5)) sa_nil)))) sa_nil))) sa_nil))))))))))))))
-- law: callee not read
end
end K01
set_option linter.all false
set_option maxRecDepth 100000
set_option maxHeartbeats 2000000
namespace K01
open PySem PySem.Spec PyProof.Rows L2 GxR GA EXO FL HX L2H
abbrev FnHF (P : Program) (w : World) (K : PySem.W.Frag) (mg : Str → Option Value) (base : Heap) (k : Nat) (f : Addr) (fd : FuncData) (ps : List Str) (p : Pm) (φ : Phi) : Prop := FnH P w K mg base L2.CX0 k f fd ps (spF p ps.length φ)
section
variable {P : Program} {w : World} {K : PySem.W.Frag} {mg : Str → Option Value} {base : Heap} {f cA : Addr} {fd : FuncData} {p : Pm}
theorem okH_is_integer (hK : p.K = K) (F : FunC K "is_integer" s_is_integer f fd cA)
    (z_isinstance : mg "isinstance" = none)
    (z_int : mg "int" = none)
    (z_bool : mg "bool" = none) :
    FnHF P w K mg base 1 f fd ["thing"] p φ_is_integer := by
  refine fn_okH F sc_is_integer fun A outer s H E ex q0 hr hC => ?_
  have hu := hr.units
  exact ss_one (ss_ret (se_and (se_isi hK isi_int (se_var (pv 0)) (pe_bltn rfl z_int PyProof.Rows.Boot.«int» rfl) z_isinstance) (se_one (se_not (se_isi hK isi_bool (se_var (pv 0)) (pe_bltn rfl z_bool PyProof.Rows.Boot.«bool» rfl) z_isinstance)))))
theorem okH_is_number (hK : p.K = K) (F : FunC K "is_number" s_is_number f fd cA)
    {f_is_integer : Addr} {fd_is_integer : FuncData} (G_is_integer : FnHF P w K mg base 1 f_is_integer fd_is_integer ["thing"] p φ_is_integer) (m_is_integer : mg "is_integer" = some (.ref f_is_integer)) (k_is_integer : PySem.W.keepIn K (.ref f_is_integer) = true) (b_is_integer : Binds K fd_is_integer ["thing"] []) :
    FnHF P w K mg base 2 f fd ["thing", "least", "most"] p φ_is_number := by
  refine fn_okH F sc_is_number fun A outer s H E ex q0 hr hC => ?_
  have hu := hr.units
  exact ss_one (ss_ret (se_and (se_callH (spF_exH G_is_integer) hr (by omega) hC m_is_integer k_is_integer b_is_integer (sa_cons (se_var (pv 0)) sa_nil)) (se_and (se_cmp ot_ge (se_var (pv 0)) (se_var (pv 1))) (se_one (se_or (se_cmp ot_is (se_var (pv 2)) (se_non)) (se_one (se_cmp ot_le (se_var (pv 0)) (se_var (pv 2)))))))))
theorem okH_are_lengths (hK : p.K = K) (F : FunC K "are_lengths" s_are_lengths f fd cA)
    {f_is_number : Addr} {fd_is_number : FuncData} (G_is_number : FnHF P w K mg base 2 f_is_number fd_is_number ["thing", "least", "most"] p φ_is_number) (m_is_number : mg "is_number" = some (.ref f_is_number)) (k_is_number : PySem.W.keepIn K (.ref f_is_number) = true) (b_is_number : Binds K fd_is_number ["thing", "least", "most"] []) :
    FnHF P w K mg base 3 f fd ["least", "most"] p φ_are_lengths := by
  refine fn_okH F sc_are_lengths fun A outer s H E ex q0 hr hC => ?_
  have hu := hr.units
  exact ss_one (ss_ret (se_and (se_callH (spF_exH G_is_number) hr (by omega) hC m_is_number k_is_number b_is_number (sa_cons (se_var (pv 0)) (sa_cons (se_int) (sa_cons (se_int) sa_nil)))) (se_one (se_or (se_cmp ot_is (se_var (pv 1)) (se_non)) (se_one (se_callH (spF_exH G_is_number) hr (by omega) hC m_is_number k_is_number b_is_number (sa_cons (se_var (pv 1)) (sa_cons (se_var (pv 0)) (sa_cons (se_int) sa_nil)))))))))
theorem okH_is_tuple_of (hK : p.K = K) (F : FunC K "is_tuple_of" s_is_tuple_of f fd cA)
    (z_isinstance : mg "isinstance" = none)
    (z_tuple : mg "tuple" = none)
    (z_len : mg "len" = none) :
    FnHF P w K mg base 1 f fd ["thing", "least", "most"] p φ_is_tuple_of := by
  refine fn_okH F sc_is_tuple_of fun A outer s H E ex q0 hr hC => ?_
  have hu := hr.units
  exact ss_one (ss_ret (se_and (se_isi hK isi_tup (se_var (pv 0)) (pe_bltn rfl z_tuple PyProof.Rows.Boot.«tuple» rfl) z_isinstance) (se_one (se_chain ot_le ot_le (se_var (pv 1)) (se_callB (ca_len hK) z_len PySem.boot_len (sa_cons (se_var (pv 0)) sa_nil)) (se_var (pv 2))))))
theorem okH_is_text (hK : p.K = K) (F : FunC K "is_text" s_is_text f fd cA)
    (z_isinstance : mg "isinstance" = none)
    (z_str : mg "str" = none)
    (z_len : mg "len" = none)
    (z_all : mg "all" = none)
    {v_SIGNS : Value} (m_SIGNS : mg "SIGNS" = some v_SIGNS) (r_SIGNS : RelV (.str (Str.ofString " !\"#$&'()*+,-./0123456789:;<=>?@ABCDEFGHIJKLMNOPQRSTUVWXYZ[\\]^_`abcdefghijklmnopqrstuvwxyz{|}~")) v_SIGNS)
    {Pt_is_text : Addr} (hP : Pt_is_text ∈ p.tabs) (TB : TabB base mg cA Pt_is_text) :
    FnHF P w K mg base 2 f fd ["thing", "least", "most"] p φ_is_text := by
  refine fn_okH F sc_is_text fun A outer s H E ex q0 hr hC => ?_
  have hu := hr.units
  exact ss_cons (ss_if (sb_w (sw_or (sb_not (sb_val (se_isi hK isi_str (se_var (pv 0)) (pe_bltn rfl z_str PyProof.Rows.Boot.«str» rfl) z_isinstance))) (sw_or1 (sb_not (sb_chain ot_le ot_le (se_var (pv 1)) (se_callB (ca_len hK) z_len PySem.boot_len (sa_cons (se_var (pv 0)) sa_nil)) (se_var (pv 2))))))) (ss_one (ss_ret (se_bl))) (ss_nil)) (ss_one (ss_ret (se_allGH (own := [(("sign" : Str), 3)]) (g_name (i := 3) (vs := [3]) (by simp)) hP hC sc_is_text.nd hr z_all TB rfl ⟨⟨by rfl, by decide +kernel, (by show ∀ p ∈ [(("sign" : Str), 3)], (["thing", "least", "most", "sign"] : List Str)[p.2]? = some p.1; decide +kernel), (by show ∀ y ∈ (_ : List (Str × NameKind)), y.2 = NameKind.free → (defScope s_is_text).names.lookup y.1 = some .cell ∨ (defScope s_is_text).names.lookup y.1 = some .free; decide +kernel), (by show ∀ y ∈ (_ : List (Str × NameKind)), y.2 = NameKind.local ∨ y.2 = NameKind.cell → y.1 ∈ [(("sign" : Str), 3)].map (·.1) ∨ y.1 ∉ (["thing", "least", "most", "sign"] : List Str); decide +kernel)⟩, rfl, by decide +kernel, by rfl⟩ (siH_seq hK (se_var (pv 0))) (fun A2 s H C cl code fp pn => pg_name (i := 3) sc_is_text.nd rfl (by first | exact .inl rfl | exact .inr rfl)) (fun A2 s H C cl code fp pn hr2 hC => se_cmp (ot_in hK) (se_var (pv 3)) (se_c (pe_glob rfl m_SIGNS r_SIGNS) (fun _ => ⟨_, rfl, rfl⟩))))))
theorem okH_are_ascending (hK : p.K = K) (F : FunC K "are_ascending" s_are_ascending f fd cA)
    (z_all : mg "all" = none)
    (z_range : mg "range" = none)
    (z_len : mg "len" = none)
    {Pt_are_ascending : Addr} (hP : Pt_are_ascending ∈ p.tabs) (TB : TabB base mg cA Pt_are_ascending) :
    FnHF P w K mg base 2 f fd ["signs"] p φ_are_ascending := by
  refine fn_okH F sc_are_ascending fun A outer s H E ex q0 hr hC => ?_
  have hu := hr.units
  exact ss_one (ss_ret (se_allGH (own := [(("at" : Str), 1)]) (g_name (i := 1) (vs := [1]) (by simp)) hP hC sc_are_ascending.nd hr z_all TB rfl ⟨⟨by rfl, by decide +kernel, (by show ∀ p ∈ [(("at" : Str), 1)], (["signs", "at"] : List Str)[p.2]? = some p.1; decide +kernel), (by show ∀ y ∈ (_ : List (Str × NameKind)), y.2 = NameKind.free → (defScope s_are_ascending).names.lookup y.1 = some .cell ∨ (defScope s_are_ascending).names.lookup y.1 = some .free; decide +kernel), (by show ∀ y ∈ (_ : List (Str × NameKind)), y.2 = NameKind.local ∨ y.2 = NameKind.cell → y.1 ∈ [(("at" : Str), 1)].map (·.1) ∨ y.1 ∉ (["signs", "at"] : List Str); decide +kernel)⟩, rfl, by decide +kernel, by rfl⟩ (siH_rng2 z_range (se_int) (se_callB (ca_len hK) z_len PySem.boot_len (sa_cons (se_var (pv 0)) sa_nil))) (fun A2 s H C cl code fp pn => pg_name (i := 1) sc_are_ascending.nd rfl (by first | exact .inl rfl | exact .inr rfl)) (fun A2 s H C cl code fp pn hr2 hC => se_cmp ot_lt (se_ix hK (se_var (pv 0)) (se_bin ot_sub (se_var (pv 1)) (se_int))) (se_ix hK (se_var (pv 0)) (se_var (pv 1))))))
theorem okH_are_word_signs (hK : p.K = K) (F : FunC K "are_word_signs" s_are_word_signs f fd cA)
    {f_is_text : Addr} {fd_is_text : FuncData} (G_is_text : FnHF P w K mg base 2 f_is_text fd_is_text ["thing", "least", "most"] p φ_is_text) (m_is_text : mg "is_text" = some (.ref f_is_text)) (k_is_text : PySem.W.keepIn K (.ref f_is_text) = true) (b_is_text : Binds K fd_is_text ["thing", "least", "most"] [])
    {f_are_ascending : Addr} {fd_are_ascending : FuncData} (G_are_ascending : FnHF P w K mg base 2 f_are_ascending fd_are_ascending ["signs"] p φ_are_ascending) (m_are_ascending : mg "are_ascending" = some (.ref f_are_ascending)) (k_are_ascending : PySem.W.keepIn K (.ref f_are_ascending) = true) (b_are_ascending : Binds K fd_are_ascending ["signs"] []) :
    FnHF P w K mg base 3 f fd ["thing"] p φ_are_word_signs := by
  refine fn_okH F sc_are_word_signs fun A outer s H E ex q0 hr hC => ?_
  have hu := hr.units
  exact ss_one (ss_ret (se_and (se_callH (spF_exH G_is_text) hr (by omega) hC m_is_text k_is_text b_is_text (sa_cons (se_var (pv 0)) (sa_cons (se_int) (sa_cons (se_int) sa_nil)))) (se_one (se_callH (spF_exH G_are_ascending) hr (by omega) hC m_are_ascending k_are_ascending b_are_ascending (sa_cons (se_var (pv 0)) sa_nil)))))
theorem okH_is_bound (hK : p.K = K) (F : FunC K "is_bound" s_is_bound f fd cA)
    {v_GREATEST_BOUND : Value} (m_GREATEST_BOUND : mg "GREATEST_BOUND" = some v_GREATEST_BOUND) (r_GREATEST_BOUND : RelV (.int 999999999) v_GREATEST_BOUND)
    {f_is_number : Addr} {fd_is_number : FuncData} (G_is_number : FnHF P w K mg base 2 f_is_number fd_is_number ["thing", "least", "most"] p φ_is_number) (m_is_number : mg "is_number" = some (.ref f_is_number)) (k_is_number : PySem.W.keepIn K (.ref f_is_number) = true) (b_is_number : Binds K fd_is_number ["thing", "least", "most"] []) :
    FnHF P w K mg base 3 f fd ["thing"] p φ_is_bound := by
  refine fn_okH F sc_is_bound fun A outer s H E ex q0 hr hC => ?_
  have hu := hr.units
  exact ss_one (ss_ret (se_or (se_cmp ot_is (se_var (pv 0)) (se_non)) (se_one (se_callH (spF_exH G_is_number) hr (by omega) hC m_is_number k_is_number b_is_number (sa_cons (se_var (pv 0)) (sa_cons (se_neg (se_c (pe_glob rfl m_GREATEST_BOUND r_GREATEST_BOUND) (fun _ => rfl))) (sa_cons (se_c (pe_glob rfl m_GREATEST_BOUND r_GREATEST_BOUND) (fun _ => rfl)) sa_nil)))))))
theorem okH_is_plain_sort (hK : p.K = K) (F : FunC K "is_plain_sort" s_is_plain_sort f fd cA)
    (z_len : mg "len" = none)
    {f_is_number : Addr} {fd_is_number : FuncData} (G_is_number : FnHF P w K mg base 2 f_is_number fd_is_number ["thing", "least", "most"] p φ_is_number) (m_is_number : mg "is_number" = some (.ref f_is_number)) (k_is_number : PySem.W.keepIn K (.ref f_is_number) = true) (b_is_number : Binds K fd_is_number ["thing", "least", "most"] [])
    {f_are_word_signs : Addr} {fd_are_word_signs : FuncData} (G_are_word_signs : FnHF P w K mg base 3 f_are_word_signs fd_are_word_signs ["thing"] p φ_are_word_signs) (m_are_word_signs : mg "are_word_signs" = some (.ref f_are_word_signs)) (k_are_word_signs : PySem.W.keepIn K (.ref f_are_word_signs) = true) (b_are_word_signs : Binds K fd_are_word_signs ["thing"] [])
    {f_are_lengths : Addr} {fd_are_lengths : FuncData} (G_are_lengths : FnHF P w K mg base 3 f_are_lengths fd_are_lengths ["least", "most"] p φ_are_lengths) (m_are_lengths : mg "are_lengths" = some (.ref f_are_lengths)) (k_are_lengths : PySem.W.keepIn K (.ref f_are_lengths) = true) (b_are_lengths : Binds K fd_are_lengths ["least", "most"] [])
    {f_is_bound : Addr} {fd_is_bound : FuncData} (G_is_bound : FnHF P w K mg base 3 f_is_bound fd_is_bound ["thing"] p φ_is_bound) (m_is_bound : mg "is_bound" = some (.ref f_is_bound)) (k_is_bound : PySem.W.keepIn K (.ref f_is_bound) = true) (b_is_bound : Binds K fd_is_bound ["thing"] []) :
    FnHF P w K mg base 4 f fd ["thing"] p φ_is_plain_sort := by
  refine fn_okH F sc_is_plain_sort fun A outer s H E ex q0 hr hC => ?_
  have hu := hr.units
  exact ss_cons (ss_if (sb_cmp (ot_eqX hK hu) (se_ix hK (se_var (pv 0)) (se_int)) (se_str [111, 110, 101] rfl)) (ss_one (ss_ret (se_and (se_cmp (ot_eqX hK hu) (se_callB (ca_len hK) z_len PySem.boot_len (sa_cons (se_var (pv 0)) sa_nil)) (se_int)) (se_one (se_callH (spF_exH G_is_number) hr (by omega) hC m_is_number k_is_number b_is_number (sa_cons (se_ix hK (se_var (pv 0)) (se_int)) (sa_cons (se_int) (sa_cons (se_int) sa_nil)))))))) (ss_nil)) (ss_cons (ss_if (sb_cmp (ot_eqX hK hu) (se_ix hK (se_var (pv 0)) (se_int)) (se_str [119, 111, 114, 100] rfl)) (ss_one (ss_ret (se_and (se_cmp (ot_eqX hK hu) (se_callB (ca_len hK) z_len PySem.boot_len (sa_cons (se_var (pv 0)) sa_nil)) (se_int)) (se_and (se_callH (spF_exH G_are_word_signs) hr (by omega) hC m_are_word_signs k_are_word_signs b_are_word_signs (sa_cons (se_ix hK (se_var (pv 0)) (se_int)) sa_nil)) (se_one (se_callH (spF_exH G_are_lengths) hr (by omega) hC m_are_lengths k_are_lengths b_are_lengths (sa_cons (se_ix hK (se_var (pv 0)) (se_int)) (sa_cons (se_ix hK (se_var (pv 0)) (se_int)) sa_nil)))))))) (ss_nil)) (ss_cons (ss_if (sb_w (sw_or (sb_cmp (ot_neX hK hu) (se_callB (ca_len hK) z_len PySem.boot_len (sa_cons (se_var (pv 0)) sa_nil)) (se_int)) (sw_or (sb_not (sb_val (se_callH (spF_exH G_is_bound) hr (by omega) hC m_is_bound k_is_bound b_is_bound (sa_cons (se_ix hK (se_var (pv 0)) (se_int)) sa_nil)))) (sw_or1 (sb_not (sb_val (se_callH (spF_exH G_is_bound) hr (by omega) hC m_is_bound k_is_bound b_is_bound (sa_cons (se_ix hK (se_var (pv 0)) (se_int)) sa_nil)))))))) (ss_one (ss_ret (se_bl))) (ss_nil)) (ss_one (ss_ret (se_or (se_cmp ot_is (se_ix hK (se_var (pv 0)) (se_int)) (se_non)) (se_or (se_cmp ot_is (se_ix hK (se_var (pv 0)) (se_int)) (se_non)) (se_one (se_cmp ot_le (se_ix hK (se_var (pv 0)) (se_int)) (se_ix hK (se_var (pv 0)) (se_int))))))))))
theorem okH_count_sorts (hK : p.K = K) (F : FunC K "count_sorts" s_count_sorts f fd cA)
    (z_isinstance : mg "isinstance" = none)
    (z_str : mg "str" = none)
    (z_len : mg "len" = none)
    {f_is_tuple_of : Addr} {fd_is_tuple_of : FuncData} (G_is_tuple_of : FnHF P w K mg base 1 f_is_tuple_of fd_is_tuple_of ["thing", "least", "most"] p φ_is_tuple_of) (m_is_tuple_of : mg "is_tuple_of" = some (.ref f_is_tuple_of)) (k_is_tuple_of : PySem.W.keepIn K (.ref f_is_tuple_of) = true) (b_is_tuple_of : Binds K fd_is_tuple_of ["thing", "least", "most"] [])
    {f_is_plain_sort : Addr} {fd_is_plain_sort : FuncData} (G_is_plain_sort : FnHF P w K mg base 4 f_is_plain_sort fd_is_plain_sort ["thing"] p φ_is_plain_sort) (m_is_plain_sort : mg "is_plain_sort" = some (.ref f_is_plain_sort)) (k_is_plain_sort : PySem.W.keepIn K (.ref f_is_plain_sort) = true) (b_is_plain_sort : Binds K fd_is_plain_sort ["thing"] [])
    {f_are_lengths : Addr} {fd_are_lengths : FuncData} (G_are_lengths : FnHF P w K mg base 3 f_are_lengths fd_are_lengths ["least", "most"] p φ_are_lengths) (m_are_lengths : mg "are_lengths" = some (.ref f_are_lengths)) (k_are_lengths : PySem.W.keepIn K (.ref f_are_lengths) = true) (b_are_lengths : Binds K fd_are_lengths ["least", "most"] [])
    {kb : Nat} (hkb : 4 ≤ kb)
    {r_count_within : Phi} {f_count_within : Addr} {fd_count_within : FuncData} (G_count_within : FnHF P w K mg base kb f_count_within fd_count_within ["things", "deep"] p r_count_within) (m_count_within : mg "count_within" = some (.ref f_count_within)) (k_count_within : PySem.W.keepIn K (.ref f_count_within) = true) (b_count_within : Binds K fd_count_within ["things", "deep"] []) :
    FnHF P w K mg base (kb + 2) f fd ["thing", "deep"] p (runF 3 2 (u_count_sorts r_count_within)) := by
  refine fn_okH F sc_count_sorts fun A outer s H E ex q0 hr hC => ?_
  have hu := hr.units
  exact ss_cons (ss_if (sb_w (sw_or (sb_cmp (ot_eqX hK hu) (se_var (pv 1)) (se_int)) (sw_or (sb_not (sb_val (se_callH (spF_exH G_is_tuple_of) hr (by omega) hC m_is_tuple_of k_is_tuple_of b_is_tuple_of (sa_cons (se_var (pv 0)) (sa_cons (se_int) (sa_cons (se_int) sa_nil)))))) (sw_or1 (sb_not (sb_val (se_isi hK isi_str (se_ix hK (se_var (pv 0)) (se_int)) (pe_bltn rfl z_str PyProof.Rows.Boot.«str» rfl) z_isinstance))))))) (ss_one (ss_ret (se_int))) (ss_nil)) (ss_cons (ss_set (i := 2) (se_ix hK (se_var (pv 0)) (se_int)) sc_count_sorts.nd) (ss_cons (ss_if (sb_w (sw_or (sb_cmp (ot_eqX hK hu) (se_var (pv 2)) (se_str [105, 110, 116] rfl)) (sw_or (sb_cmp (ot_eqX hK hu) (se_var (pv 2)) (se_str [119, 111, 114, 100] rfl)) (sw_or1 (sb_cmp (ot_eqX hK hu) (se_var (pv 2)) (se_str [111, 110, 101] rfl)))))) (ss_one (ss_ret (se_if (sb_val (se_callH (spF_exH G_is_plain_sort) hr (by omega) hC m_is_plain_sort k_is_plain_sort b_is_plain_sort (sa_cons (se_var (pv 0)) sa_nil))) (se_int) (se_int)))) (ss_nil)) (ss_cons (ss_if (sb_w (sw_and (sb_cmp (ot_eqX hK hu) (se_var (pv 2)) (se_str [109, 97, 121, 98, 101] rfl)) (sw_and1 (sb_cmp (ot_eqX hK hu) (se_callB (ca_len hK) z_len PySem.boot_len (sa_cons (se_var (pv 0)) sa_nil)) (se_int))))) (ss_one (ss_ret (se_callH (spF_exH G_count_within) hr (by omega) hC m_count_within k_count_within b_count_within (sa_cons (se_tup (sa_cons (se_ix hK (se_var (pv 0)) (se_int)) sa_nil)) (sa_cons (se_var (pv 1)) sa_nil))))) (ss_nil)) (ss_cons (ss_if (sb_w (sw_and (sb_cmp (ot_eqX hK hu) (se_var (pv 2)) (se_str [109, 97, 110, 121] rfl)) (sw_and (sb_cmp (ot_eqX hK hu) (se_callB (ca_len hK) z_len PySem.boot_len (sa_cons (se_var (pv 0)) sa_nil)) (se_int)) (sw_and1 (sb_val (se_callH (spF_exH G_are_lengths) hr (by omega) hC m_are_lengths k_are_lengths b_are_lengths (sa_cons (se_ix hK (se_var (pv 0)) (se_int)) (sa_cons (se_ix hK (se_var (pv 0)) (se_int)) sa_nil)))))))) (ss_one (ss_ret (se_callH (spF_exH G_count_within) hr (by omega) hC m_count_within k_count_within b_count_within (sa_cons (se_tup (sa_cons (se_ix hK (se_var (pv 0)) (se_int)) sa_nil)) (sa_cons (se_var (pv 1)) sa_nil))))) (ss_nil)) (ss_cons (ss_if (sb_w (sw_and (sb_cmp (ot_eqX hK hu) (se_var (pv 2)) (se_str [114, 111, 119] rfl)) (sw_and (sb_cmp (ot_eqX hK hu) (se_callB (ca_len hK) z_len PySem.boot_len (sa_cons (se_var (pv 0)) sa_nil)) (se_int)) (sw_and1 (sb_val (se_callH (spF_exH G_is_tuple_of) hr (by omega) hC m_is_tuple_of k_is_tuple_of b_is_tuple_of (sa_cons (se_ix hK (se_var (pv 0)) (se_int)) (sa_cons (se_int) (sa_cons (se_int) sa_nil))))))))) (ss_one (ss_ret (se_callH (spF_exH G_count_within) hr (by omega) hC m_count_within k_count_within b_count_within (sa_cons (se_ix hK (se_var (pv 0)) (se_int)) (sa_cons (se_var (pv 1)) sa_nil))))) (ss_nil)) (ss_cons (ss_if (sb_w (sw_and (sb_cmp (ot_eqX hK hu) (se_var (pv 2)) (se_str [99, 97, 115, 101] rfl)) (sw_and (sb_cmp (ot_eqX hK hu) (se_callB (ca_len hK) z_len PySem.boot_len (sa_cons (se_var (pv 0)) sa_nil)) (se_int)) (sw_and1 (sb_val (se_callH (spF_exH G_is_tuple_of) hr (by omega) hC m_is_tuple_of k_is_tuple_of b_is_tuple_of (sa_cons (se_ix hK (se_var (pv 0)) (se_int)) (sa_cons (se_int) (sa_cons (se_int) sa_nil))))))))) (ss_one (ss_ret (se_callH (spF_exH G_count_within) hr (by omega) hC m_count_within k_count_within b_count_within (sa_cons (se_ix hK (se_var (pv 0)) (se_int)) (sa_cons (se_var (pv 1)) sa_nil))))) (ss_nil)) (ss_one (ss_ret (se_int)))))))))
theorem okH_count_within (hK : p.K = K) (F : FunC K "count_within" s_count_within f fd cA)
    {kb : Nat} (hkb : 4 ≤ kb)
    {r_count_sorts : Phi} {f_count_sorts : Addr} {fd_count_sorts : FuncData} (G_count_sorts : FnHF P w K mg base kb f_count_sorts fd_count_sorts ["thing", "deep"] p r_count_sorts) (m_count_sorts : mg "count_sorts" = some (.ref f_count_sorts)) (k_count_sorts : PySem.W.keepIn K (.ref f_count_sorts) = true) (b_count_sorts : Binds K fd_count_sorts ["thing", "deep"] []) :
    FnHF P w K mg base (kb + 2) f fd ["things", "deep"] p (runF 5 2 (u_count_within r_count_sorts)) := by
  refine fn_okH F sc_count_within fun A outer s H E ex q0 hr hC => ?_
  have hu := hr.units
  exact ss_cons (ss_set (i := 2) (se_int) sc_count_within.nd) (ss_cons (ss_forH (g_name (i := 3) (vs := [3]) (by simp)) PassesOwn.never hC (siH_seq hK (se_var (pv 0))) (pg_name (i := 3) sc_count_within.nd rfl (by first | exact .inl rfl | exact .inr rfl)) (ss_cons (ss_set (i := 4) (se_callH (spF_exH G_count_sorts) hr (by omega) hC m_count_sorts k_count_sorts b_count_sorts (sa_cons (se_var (pv 3)) (sa_cons (se_bin ot_sub (se_var (pv 1)) (se_int)) sa_nil))) sc_count_within.nd) (ss_cons (ss_if (sb_cmp (ot_eqX hK hu) (se_var (pv 4)) (se_int)) (ss_one (ss_ret (se_int))) (ss_nil)) (ss_one (ss_aug (i := 2) ot_iadd (se_var (pv 4)) sc_count_within.nd))))) (ss_one (ss_ret (se_var (pv 2)))))
theorem oknH_count_sorts (hK : p.K = K) {f_count_sorts cA_count_sorts : Addr} {fd_count_sorts : FuncData} {f_count_within cA_count_within : Addr} {fd_count_within : FuncData} 
    (F_count_sorts : FunC K "count_sorts" s_count_sorts f_count_sorts fd_count_sorts cA_count_sorts) (m_count_sorts : mg "count_sorts" = some (.ref f_count_sorts)) (k_count_sorts : PySem.W.keepIn K (.ref f_count_sorts) = true) (b_count_sorts : Binds K fd_count_sorts ["thing", "deep"] []) (F_count_within : FunC K "count_within" s_count_within f_count_within fd_count_within cA_count_within) (m_count_within : mg "count_within" = some (.ref f_count_within)) (k_count_within : PySem.W.keepIn K (.ref f_count_within) = true) (b_count_within : Binds K fd_count_within ["things", "deep"] [])
    (z_isinstance : mg "isinstance" = none)
    (z_str : mg "str" = none)
    (z_len : mg "len" = none)
    {f_is_tuple_of : Addr} {fd_is_tuple_of : FuncData} (G_is_tuple_of : FnHF P w K mg base 1 f_is_tuple_of fd_is_tuple_of ["thing", "least", "most"] p φ_is_tuple_of) (m_is_tuple_of : mg "is_tuple_of" = some (.ref f_is_tuple_of)) (k_is_tuple_of : PySem.W.keepIn K (.ref f_is_tuple_of) = true) (b_is_tuple_of : Binds K fd_is_tuple_of ["thing", "least", "most"] [])
    {f_is_plain_sort : Addr} {fd_is_plain_sort : FuncData} (G_is_plain_sort : FnHF P w K mg base 4 f_is_plain_sort fd_is_plain_sort ["thing"] p φ_is_plain_sort) (m_is_plain_sort : mg "is_plain_sort" = some (.ref f_is_plain_sort)) (k_is_plain_sort : PySem.W.keepIn K (.ref f_is_plain_sort) = true) (b_is_plain_sort : Binds K fd_is_plain_sort ["thing"] [])
    {f_are_lengths : Addr} {fd_are_lengths : FuncData} (G_are_lengths : FnHF P w K mg base 3 f_are_lengths fd_are_lengths ["least", "most"] p φ_are_lengths) (m_are_lengths : mg "are_lengths" = some (.ref f_are_lengths)) (k_are_lengths : PySem.W.keepIn K (.ref f_are_lengths) = true) (b_are_lengths : Binds K fd_are_lengths ["least", "most"] []) :
    ∀ n : Nat, FnHF P w K mg base (4 + 2 * n) f_count_sorts fd_count_sorts ["thing", "deep"] p (φn_count_sorts n) ∧ FnHF P w K mg base (4 + 2 * n) f_count_within fd_count_within ["things", "deep"] p (φn_count_within n) := by
  intro n
  induction n with
  | zero => exact ⟨FnH.none', FnH.none'⟩
  | succ n ih => exact ⟨okH_count_sorts (hK := hK) (F := F_count_sorts) (hkb := Nat.le_add_right _ _) (z_isinstance := z_isinstance) (z_str := z_str) (z_len := z_len) (G_is_tuple_of := G_is_tuple_of) (m_is_tuple_of := m_is_tuple_of) (k_is_tuple_of := k_is_tuple_of) (b_is_tuple_of := b_is_tuple_of) (G_is_plain_sort := G_is_plain_sort) (m_is_plain_sort := m_is_plain_sort) (k_is_plain_sort := k_is_plain_sort) (b_is_plain_sort := b_is_plain_sort) (G_are_lengths := G_are_lengths) (m_are_lengths := m_are_lengths) (k_are_lengths := k_are_lengths) (b_are_lengths := b_are_lengths) (G_count_within := ih.2) (m_count_within := m_count_within) (k_count_within := k_count_within) (b_count_within := b_count_within), okH_count_within (hK := hK) (F := F_count_within) (hkb := Nat.le_add_right _ _) (G_count_sorts := ih.1) (m_count_sorts := m_count_sorts) (k_count_sorts := k_count_sorts) (b_count_sorts := b_count_sorts)⟩
theorem okH_is_sort (hK : p.K = K) (F : FunC K "is_sort" s_is_sort f fd cA)
    {v_DEEPEST_SORT : Value} (m_DEEPEST_SORT : mg "DEEPEST_SORT" = some v_DEEPEST_SORT) (r_DEEPEST_SORT : RelV (.int 4) v_DEEPEST_SORT)
    {v_MOST_SORTS : Value} (m_MOST_SORTS : mg "MOST_SORTS" = some v_MOST_SORTS) (r_MOST_SORTS : RelV (.int 16) v_MOST_SORTS)
    {f_count_sorts : Addr} {fd_count_sorts : FuncData} (G_count_sorts : FnHF P w K mg base 28 f_count_sorts fd_count_sorts ["thing", "deep"] p φ_count_sorts) (m_count_sorts : mg "count_sorts" = some (.ref f_count_sorts)) (k_count_sorts : PySem.W.keepIn K (.ref f_count_sorts) = true) (b_count_sorts : Binds K fd_count_sorts ["thing", "deep"] []) :
    FnHF P w K mg base 29 f fd ["thing"] p φ_is_sort := by
  refine fn_okH F sc_is_sort fun A outer s H E ex q0 hr hC => ?_
  have hu := hr.units
  exact ss_one (ss_ret (se_chain ot_le ot_le (se_int) (se_callH (spF_exH G_count_sorts) hr (by omega) hC m_count_sorts k_count_sorts b_count_sorts (sa_cons (se_var (pv 0)) (sa_cons (se_c (pe_glob rfl m_DEEPEST_SORT r_DEEPEST_SORT) (fun _ => rfl)) sa_nil))) (se_c (pe_glob rfl m_MOST_SORTS r_MOST_SORTS) (fun _ => rfl))))
end
end K01
set_option linter.all false
set_option maxRecDepth 100000
set_option maxHeartbeats 2000000
set_option exponentiation.threshold 1000
/-! The draws' arithmetic: what is drawn lies below the bound. -/
namespace FL
open PySem PySem.Spec PyProof.Rows L2 GxR GA
section
variable {h : T → T → Option T} {f g : EF} {l : AF} {env : Env} {dr dr1 dr2 dr3 : List T} {x y t : T} {ts : List T}
theorem eBin_eq (h1 : f env dr = some (x, dr1)) (h2 : g env dr1 = some (y, dr2)) (h3 : h x y = some t) : eBin h f g env dr = some (t, dr2) := by
  unfold eBin; rw [h1]; dsimp only; rw [h2]; dsimp only; rw [h3]
theorem eIx_eq (h1 : f env dr = some (x, dr1)) (h2 : g env dr1 = some (y, dr2)) (h3 : ixT dr2 x y = some t) : eIx f g env dr = some (t, dr2) := by
  unfold eIx; rw [h1]; dsimp only; rw [h2]; dsimp only; rw [h3]
theorem aCons_eq (h1 : f env dr = some (x, dr1)) (h2 : l env dr1 = some (ts, dr2)) : aCons f l env dr = some (x :: ts, dr2) := by
  unfold aCons; rw [h1]; dsimp only; rw [h2]
theorem eB_eq {k : List T → Option T} (h1 : l env dr = some (ts, dr1)) (h2 : k ts = some t) : eB k l env dr = some (t, dr1) := by
  unfold eB; rw [h1]; dsimp only; rw [h2]
theorem eCall_eq {n : Nat} {φ : Phi} (h1 : l env dr = some (ts, dr1)) (hn : ts.length = n) (h2 : φ ts dr1 = some (t, dr2)) : eCall n φ l env dr = some (t, dr2) := by
  unfold eCall; rw [h1]; dsimp only; rw [if_pos hn]; exact h2
theorem int1 {i : Int} (h1 : f env dr = some (.int i, dr1)) : eB intF (aCons f aNil) env dr = some (.int i, dr1) := eB_eq (aCons_eq h1 rfl) rfl
theorem sSeq_nx {u v : SF} {env1 : Env} (h1 : u env dr = some (.nx env1, dr1)) {r} (h2 : v env1 dr1 = r) : sSeq u v env dr = r := by
  unfold sSeq; rw [h1]; exact h2
theorem sSeq_rt {u v : SF} (h1 : u env dr = some (.rt t, dr1)) : sSeq u v env dr = some (.rt t, dr1) := by
  unfold sSeq; rw [h1]
theorem sSet_eq {i : Nat} (h1 : f env dr = some (t, dr1)) : sSet i f env dr = some (.nx (env.set i (some t)), dr1) := by
  unfold sSet; rw [h1]
theorem sRet_eq (h1 : f env dr = some (t, dr1)) : sRet f env dr = some (.rt t, dr1) := by
  unfold sRet; rw [h1]
theorem tB_eq {b : Bool} (h1 : f env dr = some (.bl b, dr1)) : tB f env dr = some (b, dr1) := by
  unfold tB; rw [h1]
theorem sIf_t {c : TF} {u v : SF} (h1 : c env dr = some (true, dr1)) {r} (h2 : u env dr1 = r) : sIf c u v env dr = r := by
  unfold sIf; rw [h1]; exact h2
theorem sIf_f {c : TF} {u v : SF} (h1 : c env dr = some (false, dr1)) {r} (h2 : v env dr1 = r) : sIf c u v env dr = r := by
  unfold sIf; rw [h1]; exact h2
theorem runF_rt {N n : Nat} {u : SF} (h1 : u (ts.map some ++ List.replicate (N - n) none) dr = some (.rt t, dr1)) : runF N n u ts dr = some (t, dr1) := by
  unfold runF; rw [h1]
end
theorem forGo_nx {b : BF} {u : SF} {t : T} {ts : List T} {env env1 env2 : Env} {dr dr2 : List T} {r} (h1 : b t env = some env1) (h2 : u env1 dr = some (.nx env2, dr2)) (h3 : forGo b u ts env2 dr2 = r) : forGo b u (t :: ts) env dr = r := by
  show (match b t env with | none => none | some env1 => _) = r
  rw [h1]
  dsimp only
  rw [h2]
  exact h3
theorem log_lt {i : Int} {n : Nat} (h : i.natAbs < 2 ^ n) (hn : 0 < n) : i.natAbs.log2 < n := by
  by_cases e : i.natAbs = 0
  · rw [e]; exact hn
  · exact (Nat.log2_lt e).mpr h
theorem mulT_int {i j : Int} (h1 : i.natAbs < 2 ^ 500) (h2 : j.natAbs < 2 ^ 500) : mulT (.int i) (.int j) = some (.int (i * j)) := by
  unfold mulT mulI
  dsimp only
  have a := log_lt h1 (by decide)
  have b := log_lt h2 (by decide)
  rw [if_pos (by omega)]
theorem modT_int {i j : Int} (h : 0 < j) : modT (.int i) (.int j) = some (.int (i % j)) := by
  unfold modT; dsimp only; rw [if_pos h]
theorem divT_int {i j : Int} (h : 0 < j) (h2 : j.natAbs < 2 ^ 500) : divT (.int i) (.int j) = some (.int (i / j)) := by
  unfold divT; dsimp only
  have a := log_lt h2 (by decide)
  rw [if_pos ⟨h, by omega⟩]
theorem small_abs {i : Int} {n : Nat} (h0 : 0 ≤ i) (h : i < 2 ^ n) : i.natAbs < 2 ^ n := by
  have e : (i.natAbs : Int) = i := Int.natAbs_of_nonneg h0
  have : (i.natAbs : Int) < ((2 ^ n : Nat) : Int) := by rw [e]; simpa using h
  exact Int.ofNat_lt.mp this
theorem pow_big {n : Nat} (h : n ≤ 400) {i : Nat} (hi : i < 2 ^ n) : i < 2 ^ 500 := Nat.lt_of_lt_of_le hi (Nat.pow_le_pow_right (by decide) (by omega))
theorem big {i : Int} {n : Nat} (h0 : 0 ≤ i) (h : i < 2 ^ n) (hn : n ≤ 400) : i.natAbs < 2 ^ 500 := pow_big hn (small_abs h0 h)
theorem ixN_in {n : Nat} {i : Int} (h0 : 0 ≤ i) (h : i < n) : ixN n i = some i.toNat := by
  unfold ixN
  rw [if_pos h0, if_pos (by omega)]
end FL
set_option linter.all false
set_option maxRecDepth 100000
set_option maxHeartbeats 2000000
set_option exponentiation.threshold 1000
namespace K01
open PySem PySem.Spec PyProof.Rows L2 GxR GA EXO FL
/-- the primes -/
def prs : List Int := [1000003, 1000033, 1000037, 1000039, 1000081, 1000099, 1000117, 1000121, 1000133, 1000151, 1000159, 1000171, 1000183, 1000187, 1000193, 1000199]
theorem prs_at {j : Int} (h0 : 0 ≤ j) (h : j < 16) : ∃ q, atI (prs.map T.int) j = some (.int q) ∧ 0 < q := by
  have hj : j.toNat < prs.length := by show j.toNat < 16; omega
  refine ⟨prs[j.toNat], ?_, ?_⟩
  · unfold atI
    rw [ixN_in h0 (by show j < 16; exact h)]
    show (prs.map T.int)[j.toNat]? = _
    rw [List.getElem?_map, List.getElem?_eq_getElem hj]
    rfl
  · have : ∀ q ∈ prs, 0 < q := by decide
    exact this _ (List.getElem_mem hj)
theorem draw_ok {c k b : Int} (dr : List T) (hc0 : 0 ≤ c) (hc : c < 2 ^ 100) (hk0 : 0 ≤ k) (hk : k < 1000) (hb : 0 < b) : ∃ r, runF 4 3 u__law_draw [.int c, .int k, .int b] dr = some (.int r, dr) ∧ 0 ≤ r ∧ r < b := by
  obtain ⟨q, hq, hq0⟩ := prs_at (j := k % 16) (by omega) (by omega)
  refine ⟨(c * 48271 + k * 69621) % q % b, ?_, Int.emod_nonneg _ (by omega), Int.emod_lt_of_pos _ hb⟩
  refine runF_rt ?_
  unfold u__law_draw
  refine sSeq_nx (env1 := [some (.int c), some (.int k), some (.int b), some (.tup (prs.map T.int))]) (dr1 := dr) rfl ?_
  refine sRet_eq (eBin_eq (eBin_eq (int1 (eBin_eq (eBin_eq rfl rfl (mulT_int (big hc0 hc (by decide)) (by decide))) (eBin_eq rfl rfl (mulT_int (big hk0 (n := 10) (by omega) (by decide)) (by decide))) rfl)) (eIx_eq rfl (eBin_eq (int1 rfl) rfl (modT_int (by decide))) hq) (modT_int hq0)) rfl (modT_int hb))
theorem cell_ok {is : List Int} {k : Int} (dr : List T) (hk : 0 ≤ k) : ∃ c : Int, runF 2 2 u__law_cell_at [.lst (is.map T.int), .int k] dr = some (.int c, dr) := by
  by_cases h : k < (is.length : Int)
  · have hj : k.toNat < is.length := by omega
    refine ⟨is[k.toNat], runF_rt ?_⟩
    unfold u__law_cell_at
    refine sSeq_rt (sIf_t (tB_eq (eBin_eq rfl rfl ?_)) (sRet_eq (eIx_eq rfl rfl ?_)))
    · show some (T.bl (decide (k < (((is.map T.int).length : Nat) : Int)))) = _
      rw [List.length_map, decide_eq_true h]
    · show atI (is.map T.int) k = _
      unfold atI
      rw [ixN_in hk (by rw [List.length_map]; exact h)]
      show (is.map T.int)[k.toNat]? = _
      rw [List.getElem?_map, List.getElem?_eq_getElem hj]
      rfl
  · refine ⟨0, runF_rt ?_⟩
    unfold u__law_cell_at
    refine sSeq_nx (sIf_f (tB_eq (eBin_eq rfl rfl ?_)) rfl) rfl
    show some (T.bl (decide (k < (((is.map T.int).length : Nat) : Int)))) = _
    rw [List.length_map, decide_eq_false h]
theorem loop_ok {a1 a2 a3 : Option T} {dr : List T} : ∀ (ts : List T) (e : Nat) (pw : Int) (lap : Option T), 0 < pw → pw < 2 ^ e → e + 10 * ts.length ≤ 400 →
    ∃ (pw' : Int) (lap' : Option T), forGo (bN 4) (sSet 3 (eBin mulT (eVar 3) (eC (.int 1009)))) ts [a1, a2, a3, some (.int pw), lap, none, none] dr = some (.nx [a1, a2, a3, some (.int pw'), lap', none, none], dr) ∧ 0 < pw' ∧ pw'.natAbs < 2 ^ 500
  | [], e, pw, lap, h0, h1, h2 => ⟨pw, lap, rfl, h0, big (by omega) h1 (by simpa using h2)⟩
  | t :: ts, e, pw, lap, h0, h1, h2 => by
    have h3 : e + 10 + 10 * ts.length ≤ 400 := by
      have : (t :: ts).length = ts.length + 1 := rfl
      omega
    have h4 : pw * 1009 < 2 ^ (e + 10) := by
      have : (2 : Int) ^ (e + 10) = 2 ^ e * 1024 := by rw [Int.pow_add]; rfl
      rw [this]
      omega
    obtain ⟨pw', lap', h, q⟩ := loop_ok ts (e + 10) (pw * 1009) (some t) (by omega) h4 h3
    refine ⟨pw', lap', ?_, q⟩
    exact forGo_nx rfl (sSet_eq (eBin_eq rfl rfl (mulT_int (big (by omega) h1 (by omega)) (by decide)))) h
theorem num_ok {c k b : Int} (dr : List T) (hk0 : 0 ≤ k) (hk : k < 1000) (hb : 0 < b) : ∃ r, runF 7 3 u__law_number [.int c, .int k, .int b] dr = some (.int r, dr) ∧ 0 ≤ r ∧ r < b := by
  have hj0 : 0 ≤ k % 24 := by omega
  have hj : k % 24 < 24 := by omega
  have hlen : (rngL 0 (k % 24).toNat).length = (k % 24).toNat := by unfold rngL; rw [List.length_map, List.length_range]
  obtain ⟨pw, lap, hl, hp0, hp⟩ := loop_ok (a1 := some (.int c)) (a2 := some (.int k)) (a3 := some (.int b)) (dr := dr) (rngL 0 (k % 24).toNat) 1 1 none (by decide) (by decide) (by rw [hlen]; omega)
  have start : ∀ {v : SF} {r}, v [some (.int c), some (.int k), some (.int b), some (.int pw), lap, none, none] dr = r →
      sSeq (sSet 3 (eC (.int 1))) (sSeq (sFor (FL.iRng1 (eBin modT (eB intF (aCons (eVar 1) aNil)) (eC (.int 24)))) (bN 4) (sSet 3 (eBin mulT (eVar 3) (eC (.int 1009))))) v) ([T.int c, T.int k, T.int b].map some ++ List.replicate (7 - 3) none) dr = r := fun {v r} hv => by
    refine sSeq_nx (env1 := [some (.int c), some (.int k), some (.int b), some (.int 1), none, none, none]) (dr1 := dr) rfl (sSeq_nx (dr1 := dr) ?_ hv)
    unfold sFor
    have hr : FL.iRng1 (eBin modT (eB intF (aCons (eVar 1) aNil)) (eC (.int 24))) [some (.int c), some (.int k), some (.int b), some (.int 1), none, none, none] dr = some (rngL 0 (k % 24).toNat, dr) := by
      unfold FL.iRng1
      rw [eBin_eq (int1 (i := k) rfl) rfl (modT_int (by decide))]
      dsimp only
      rw [if_pos ⟨by omega, by omega⟩]
    rw [hr]
    exact hl
  have hrem : sSet 5 (eBin divT (eBin subT (eVar 0) (eBin powT (eC (.int 10)) (eC (.int 18)))) (eVar 3)) [some (.int c), some (.int k), some (.int b), some (.int pw), lap, none, none] dr =
      some (.nx [some (.int c), some (.int k), some (.int b), some (.int pw), lap, some (.int ((c - 10 ^ 18) / pw)), none], dr) := sSet_eq (eBin_eq (eBin_eq rfl (eBin_eq rfl rfl rfl) rfl) rfl (divT_int hp0 hp))
  by_cases hc : (c - 10 ^ 18) / pw > 0
  · refine ⟨(c - 10 ^ 18) / pw % 1009 % b, runF_rt ?_, Int.emod_nonneg _ (by omega), Int.emod_lt_of_pos _ hb⟩
    refine start (sSeq_nx hrem (sSeq_rt (sIf_t (dr1 := dr) (tB_eq (eBin_eq rfl rfl ?_)) (sRet_eq (eBin_eq (eBin_eq (int1 rfl) rfl (modT_int (by decide))) rfl (modT_int hb))))))
    show some (T.bl (decide (0 < (c - 10 ^ 18) / pw))) = _
    rw [decide_eq_true hc]
  · have hs0 : 0 ≤ c % 1000003 := Int.emod_nonneg _ (by decide)
    have hs : c % 1000003 < 1000003 := Int.emod_lt_of_pos _ (by decide)
    have ha : (c % 1000003 + 977 * k) < 2 ^ 21 := by omega
    have hb2 : (c % 1000003 + 31 * k + 5) < 2 ^ 21 := by omega
    have hm0 : 0 ≤ (c % 1000003 + 977 * k) * (c % 1000003 + 31 * k + 5) := Int.mul_nonneg (by omega) (by omega)
    have hm : (c % 1000003 + 977 * k) * (c % 1000003 + 31 * k + 5) < 2 ^ 100 := by
      have h1 : (c % 1000003 + 977 * k) * (c % 1000003 + 31 * k + 5) ≤ 2 ^ 21 * 2 ^ 21 := Int.mul_le_mul (by omega) (by omega) (by omega) (by decide)
      exact Int.lt_of_le_of_lt h1 (by decide)
    obtain ⟨r, hr, r0, r1⟩ := draw_ok (k := k % 9 + 1) (b := 999983) dr hm0 hm (by omega) (by omega) (by decide)
    refine ⟨r % b, runF_rt ?_, Int.emod_nonneg _ (by omega), Int.emod_lt_of_pos _ hb⟩
    refine start (sSeq_nx hrem (sSeq_nx (sIf_f (dr1 := dr) (tB_eq (eBin_eq rfl rfl ?_)) rfl) ?_))
    · show some (T.bl (decide (0 < (c - 10 ^ 18) / pw))) = _
      rw [decide_eq_false hc]
    · refine sSeq_nx (dr1 := dr) (sSet_eq (eBin_eq (int1 rfl) rfl (modT_int (by decide)))) ?_
      refine sRet_eq (eBin_eq (eCall_eq (aCons_eq (eBin_eq (eBin_eq rfl (eBin_eq rfl rfl (mulT_int (by decide) (big hk0 (n := 10) (by omega) (by decide)))) rfl) (eBin_eq (eBin_eq rfl (eBin_eq rfl rfl (mulT_int (by decide) (big hk0 (n := 10) (by omega) (by decide)))) rfl) rfl rfl)
        (mulT_int (big (n := 21) (by omega) ha (by decide)) (big (n := 21) (by omega) hb2 (by decide)))) (aCons_eq (eBin_eq (eBin_eq (int1 rfl) rfl (modT_int (by decide))) rfl rfl) rfl)) rfl hr) rfl (modT_int hb))
/-- what the draws keep: the script, a base, a count -/
def Dr (is : List Int) (n : Int) : List T := [.lst (is.map T.int), .int 0, .int n]
theorem next_ok {is : List Int} {n b : Int} (hn : 0 ≤ n) (hn2 : n < 2 ^ 100) (hb : 0 < b) : ∃ r, runF 4 2 u__law_next [.ref, .int b] (Dr is n) = some (.int r, Dr is (n + 1)) ∧ 0 ≤ r ∧ r < b := by
  have hat : 0 ≤ (n + 1) / 12 := by omega
  obtain ⟨c, hc⟩ := cell_ok (is := is) (k := 0 + (n + 1) / 12) (Dr is (n + 1)) (by omega)
  obtain ⟨r, hr, r0, r1⟩ := num_ok (c := c + 31 * ((n + 1) / 12)) (k := (n + 1) % 12 + 1) (b := b) (Dr is (n + 1)) (by omega) (by omega) hb
  refine ⟨r, runF_rt ?_, r0, r1⟩
  unfold u__law_next
  refine sSeq_nx (env1 := [some .ref, some (.int b), none, none]) (dr1 := Dr is (n + 1)) rfl ?_
  refine sSeq_nx (env1 := [some .ref, some (.int b), some (.int ((n + 1) / 12)), none]) (dr1 := Dr is (n + 1)) rfl ?_
  refine sSeq_nx (sSet_eq (eBin_eq (eCall_eq (aCons_eq rfl (aCons_eq (eBin_eq rfl rfl rfl) rfl)) rfl hc) (eBin_eq rfl rfl (mulT_int (by decide) (big hat (n := 101) (by omega) (by decide)))) rfl)) ?_
  exact sRet_eq (eCall_eq (aCons_eq rfl (aCons_eq (eBin_eq (eBin_eq (int1 rfl) rfl (modT_int (by decide))) rfl rfl) (aCons_eq rfl rfl))) rfl hr)
theorem pick_ok {is : List Int} {n : Int} {ts : List T} (hn : 0 ≤ n) (hn2 : n < 2 ^ 100) (hts : 0 < ts.length) : ∃ (j : Nat) (t : T), ts[j]? = some t ∧ runF 2 2 u__law_pick [.ref, .lst ts] (Dr is n) = some (t, Dr is (n + 1)) := by
  obtain ⟨r, hr, r0, r1⟩ := next_ok (is := is) (b := (ts.length : Int)) hn hn2 (by omega)
  have hj : r.toNat < ts.length := by omega
  refine ⟨r.toNat, ts[r.toNat], List.getElem?_eq_getElem hj, runF_rt ?_⟩
  unfold u__law_pick
  refine sRet_eq (eIx_eq rfl (eCall_eq (aCons_eq rfl (aCons_eq rfl rfl)) rfl hr) ?_)
  show atI ts r = _
  unfold atI
  rw [ixN_in r0 r1]
  exact List.getElem?_eq_getElem hj
end K01
set_option linter.all false
set_option maxRecDepth 100000
set_option maxHeartbeats 2000000
/-! The drawn sorts; how many sorts lie in one. -/
namespace K01
open FL
abbrev kInt : T := .str [105, 110, 116]
abbrev kWord : T := .str [119, 111, 114, 100]
abbrev kOne : T := .str [111, 110, 101]
abbrev kMaybe : T := .str [109, 97, 121, 98, 101]
abbrev kRow : T := .str [114, 111, 119]
abbrev kMany : T := .str [109, 97, 110, 121]
abbrev kCase : T := .str [99, 97, 115, 101]
def ints8 : List (T × T) := [(.int 0, .non), (.non, .non), (.int 0, .int 3), (.int (-2), .int 5), (.int 5, .int 12), (.int 0, .int 1), (.non, .int 2), (.int (-4), .int (-1))]
def words5 : List (List Nat) := [[97, 98], [48, 97], [45, 101], [98], [32, 44]]
def lm6 : List (T × T) := [(.int 0, .non), (.int 0, .int 2), (.int 0, .int 0), (.int 1, .non), (.int 1, .int 2), (.int 1, .int 1)]
def base : List T := ints8.map (fun q => .tup [kInt, q.1, q.2]) ++ (words5.map fun w => lm6.map fun q => .tup [kWord, .str w, q.1, q.2]).flatten ++ [.tup [kOne, .int 1], .tup [kOne, .int 2], .tup [kOne, .int 3]]
inductive D : Nat → T → Prop
  | base {n : Nat} {t : T} : t ∈ base → D n t
  | maybe {n : Nat} {t : T} : D n t → D (n + 1) (.tup [kMaybe, t])
  | row0 {n : Nat} : D (n + 1) (.tup [kRow, .tup []])
  | row1 {n : Nat} {a : T} : D n a → D (n + 1) (.tup [kRow, .tup [a]])
  | row2 {n : Nat} {a b : T} : D n a → D n b → D (n + 1) (.tup [kRow, .tup [a, b]])
  | many {n : Nat} {t x y : T} : D n t → (x, y) ∈ lm6 → D (n + 1) (.tup [kMany, t, x, y])
  | case1 {n : Nat} {a : T} : D n a → D (n + 1) (.tup [kCase, .tup [a]])
  | case2 {n : Nat} {a b : T} : D n a → D n b → D (n + 1) (.tup [kCase, .tup [a, b]])

/-! ### count_sorts -/
/-- c sorts lie in t, asked d deep at level n -/
def CS (n : Nat) (d : Int) (t : T) (c : Int) : Prop := ∀ dr, φn_count_sorts n [t, .int d] dr = some (.int c, dr)
section
variable {r : Phi} {a b x y : T} {dr : List T} {d c e : Int}
theorem cw0 (hd : d ≠ 0) : runF 5 2 (u_count_within r) [.tup [], .int d] dr = some (.int 1, dr) := by
  simp [runF, sSeq, sIf, sRet, sSet, sNil, sAug, sTup, sPar, sFor, forGo, bN, bN2, iSeq, eVar, eC, eTup, eLst, aNil, aCons, eBin, tB, eChain, eAnd, eOr, eNot, bAnd, bOr, bNot, eIf, eCall, eB, eIx, ixT, L2.atI, L2.ixN, cEqX, cNeX, cEq, cNe, eqT, cLe, cGe, cGt, cLt, cLtI, cLtS, cIs, cIsNot, isNon, cIn, cNin, cInS, cNinS, cInQ, flatT, eqF, lenT, lenQ, lenS, seqT, isiF, isiInt, isiBool, isiStr, isiTup, intF, subT, addT, addI, setNs, uYes, lim, u_count_within]
theorem cw1 (ha : ∀ dr, r [a, .int (d - 1)] dr = some (.int c, dr)) (hc : c ≠ 0) : runF 5 2 (u_count_within r) [.tup [a], .int d] dr = some (.int (1 + c), dr) := by
  simp [runF, sSeq, sIf, sRet, sSet, sNil, sAug, sTup, sPar, sFor, forGo, bN, bN2, iSeq, eVar, eC, eTup, eLst, aNil, aCons, eBin, tB, eChain, eAnd, eOr, eNot, bAnd, bOr, bNot, eIf, eCall, eB, eIx, ixT, L2.atI, L2.ixN, cEqX, cNeX, cEq, cNe, eqT, cLe, cGe, cGt, cLt, cLtI, cLtS, cIs, cIsNot, isNon, cIn, cNin, cInS, cNinS, cInQ, flatT, eqF, lenT, lenQ, lenS, seqT, isiF, isiInt, isiBool, isiStr, isiTup, intF, subT, addT, addI, setNs, uYes, lim, u_count_within, ha, hc]
theorem cw2 (ha : ∀ dr, r [a, .int (d - 1)] dr = some (.int c, dr)) (hc : c ≠ 0) (hb : ∀ dr, r [b, .int (d - 1)] dr = some (.int e, dr)) (he : e ≠ 0) : runF 5 2 (u_count_within r) [.tup [a, b], .int d] dr = some (.int (1 + c + e), dr) := by
  simp [runF, sSeq, sIf, sRet, sSet, sNil, sAug, sTup, sPar, sFor, forGo, bN, bN2, iSeq, eVar, eC, eTup, eLst, aNil, aCons, eBin, tB, eChain, eAnd, eOr, eNot, bAnd, bOr, bNot, eIf, eCall, eB, eIx, ixT, L2.atI, L2.ixN, cEqX, cNeX, cEq, cNe, eqT, cLe, cGe, cGt, cLt, cLtI, cLtS, cIs, cIsNot, isNon, cIn, cNin, cInS, cNinS, cInQ, flatT, eqF, lenT, lenQ, lenS, seqT, isiF, isiInt, isiBool, isiStr, isiTup, intF, subT, addT, addI, setNs, uYes, lim, u_count_within, ha, hc, hb, he]
theorem cs_maybe (hd : d ≠ 0) (h : ∀ dr, r [.tup [a], .int d] dr = some (x, dr)) : runF 3 2 (u_count_sorts r) [.tup [kMaybe, a], .int d] dr = some (x, dr) := by
  simp [runF, sSeq, sIf, sRet, sSet, sNil, sAug, sTup, sPar, sFor, forGo, bN, bN2, iSeq, eVar, eC, eTup, eLst, aNil, aCons, eBin, tB, eChain, eAnd, eOr, eNot, bAnd, bOr, bNot, eIf, eCall, eB, eIx, ixT, L2.atI, L2.ixN, cEqX, cNeX, cEq, cNe, eqT, cLe, cGe, cGt, cLt, cLtI, cLtS, cIs, cIsNot, isNon, cIn, cNin, cInS, cNinS, cInQ, flatT, eqF, lenT, lenQ, lenS, seqT, isiF, isiInt, isiBool, isiStr, isiTup, intF, subT, addT, addI, setNs, uYes, lim, u_count_sorts, φ_is_tuple_of, u_is_tuple_of, hd, h]
theorem cs_row {ts : List T} (hl : ts.length ≤ 6) (hd : d ≠ 0) (h : ∀ dr, r [.tup ts, .int d] dr = some (x, dr)) : runF 3 2 (u_count_sorts r) [.tup [kRow, .tup ts], .int d] dr = some (x, dr) := by
  have h6 : (ts.length : Int) ≤ 6 := by omega
  have h0 : (0 : Int) ≤ ts.length := by omega
  simp [runF, sSeq, sIf, sRet, sSet, sNil, sAug, sTup, sPar, sFor, forGo, bN, bN2, iSeq, eVar, eC, eTup, eLst, aNil, aCons, eBin, tB, eChain, eAnd, eOr, eNot, bAnd, bOr, bNot, eIf, eCall, eB, eIx, ixT, L2.atI, L2.ixN, cEqX, cNeX, cEq, cNe, eqT, cLe, cGe, cGt, cLt, cLtI, cLtS, cIs, cIsNot, isNon, cIn, cNin, cInS, cNinS, cInQ, flatT, eqF, lenT, lenQ, lenS, seqT, isiF, isiInt, isiBool, isiStr, isiTup, intF, subT, addT, addI, setNs, uYes, lim, u_count_sorts, φ_is_tuple_of, u_is_tuple_of, hd, h, h6, h0]
theorem cs_case {ts : List T} (hl : ts.length ≤ 6) (h1 : 1 ≤ ts.length) (hd : d ≠ 0) (h : ∀ dr, r [.tup ts, .int d] dr = some (x, dr)) : runF 3 2 (u_count_sorts r) [.tup [kCase, .tup ts], .int d] dr = some (x, dr) := by
  have h6 : (ts.length : Int) ≤ 6 := by omega
  have h0 : (1 : Int) ≤ ts.length := by omega
  simp [runF, sSeq, sIf, sRet, sSet, sNil, sAug, sTup, sPar, sFor, forGo, bN, bN2, iSeq, eVar, eC, eTup, eLst, aNil, aCons, eBin, tB, eChain, eAnd, eOr, eNot, bAnd, bOr, bNot, eIf, eCall, eB, eIx, ixT, L2.atI, L2.ixN, cEqX, cNeX, cEq, cNe, eqT, cLe, cGe, cGt, cLt, cLtI, cLtS, cIs, cIsNot, isNon, cIn, cNin, cInS, cNinS, cInQ, flatT, eqF, lenT, lenQ, lenS, seqT, isiF, isiInt, isiBool, isiStr, isiTup, intF, subT, addT, addI, setNs, uYes, lim, u_count_sorts, φ_is_tuple_of, u_is_tuple_of, hd, h, h6, h0]
theorem cs_many {l m : T} (hq : (l, m) ∈ lm6) (hd : d ≠ 0) (h : ∀ dr, r [.tup [a], .int d] dr = some (x, dr)) : runF 3 2 (u_count_sorts r) [.tup [kMany, a, l, m], .int d] dr = some (x, dr) := by
  simp only [lm6, List.mem_cons, Prod.mk.injEq, List.not_mem_nil, or_false] at hq
  rcases hq with ⟨rfl, rfl⟩ | ⟨rfl, rfl⟩ | ⟨rfl, rfl⟩ | ⟨rfl, rfl⟩ | ⟨rfl, rfl⟩ | ⟨rfl, rfl⟩ <;>
  simp [runF, sSeq, sIf, sRet, sSet, sNil, sAug, sTup, sPar, sFor, forGo, bN, bN2, iSeq, eVar, eC, eTup, eLst, aNil, aCons, eBin, tB, eChain, eAnd, eOr, eNot, bAnd, bOr, bNot, eIf, eCall, eB, eIx, ixT, L2.atI, L2.ixN, cEqX, cNeX, cEq, cNe, eqT, cLe, cGe, cGt, cLt, cLtI, cLtS, cIs, cIsNot, isNon, cIn, cNin, cInS, cNinS, cInQ, flatT, eqF, lenT, lenQ, lenS, seqT, isiF, isiInt, isiBool, isiStr, isiTup, intF, subT, addT, addI, setNs, uYes, lim, u_count_sorts, φ_is_tuple_of, u_is_tuple_of, φ_are_lengths, u_are_lengths, φ_is_number, u_is_number, φ_is_integer, u_is_integer, hd, h]
end
theorem of_map {α β : Type} {f g : α → β} : ∀ {l : List α}, l.map f = l.map g → ∀ t ∈ l, f t = g t
  | [], _, t, h => (nomatch h)
  | a :: l, e, t, h => by
    have e1 : f a :: l.map f = g a :: l.map g := e
    injection e1 with h1 h2
    rcases List.mem_cons.mp h with rfl | h
    · exact h1
    · exact of_map h2 t h
def ds : Int → Prop := fun d => d = 4 ∨ d = 3 ∨ d = 2
theorem cs_base {n : Nat} {d : Int} (hd : d = 4 ∨ d = 3 ∨ d = 2) : ∀ t ∈ base, CS (n + 1) d t 1 := by
  intro t ht dr
  rcases hd with rfl | rfl | rfl
  · exact of_map (f := fun t => φn_count_sorts (n + 1) [t, .int 4] dr) (g := fun _ => some (.int 1, dr)) (by kernel_rfl) t ht
  · exact of_map (f := fun t => φn_count_sorts (n + 1) [t, .int 3] dr) (g := fun _ => some (.int 1, dr)) (by kernel_rfl) t ht
  · exact of_map (f := fun t => φn_count_sorts (n + 1) [t, .int 2] dr) (g := fun _ => some (.int 1, dr)) (by kernel_rfl) t ht
theorem cs_step {k n : Nat} {d B : Int} (hd : d = 4 ∨ d = 3) (hB : 1 ≤ B) (ih : ∀ t, D k t → ∃ c, 1 ≤ c ∧ c ≤ B ∧ CS n (d - 1) t c) : ∀ t, D (k + 1) t → ∃ c, 1 ≤ c ∧ c ≤ 1 + 2 * B ∧ CS (n + 2) d t c := by
  intro t ht
  have h0 : d ≠ 0 := by omega
  cases ht with
  | base h => exact ⟨1, by omega, by omega, cs_base (n := n + 1) (by omega) t h⟩
  | maybe h =>
    obtain ⟨c, c1, c2, h⟩ := ih _ h
    exact ⟨1 + c, by omega, by omega, fun dr => cs_maybe h0 fun dr => cw1 h (by omega)⟩
  | row0 => exact ⟨1, by omega, by omega, fun dr => cs_row (by simp) h0 fun dr => cw0 (r := φn_count_sorts n) h0⟩
  | row1 h =>
    obtain ⟨c, c1, c2, h⟩ := ih _ h
    exact ⟨1 + c, by omega, by omega, fun dr => cs_row (by simp) h0 fun dr => cw1 h (by omega)⟩
  | row2 h g =>
    obtain ⟨c, c1, c2, h⟩ := ih _ h
    obtain ⟨e, e1, e2, g⟩ := ih _ g
    exact ⟨1 + c + e, by omega, by omega, fun dr => cs_row (by simp) h0 fun dr => cw2 h (by omega) g (by omega)⟩
  | many h q =>
    obtain ⟨c, c1, c2, h⟩ := ih _ h
    exact ⟨1 + c, by omega, by omega, fun dr => cs_many q h0 fun dr => cw1 h (by omega)⟩
  | case1 h =>
    obtain ⟨c, c1, c2, h⟩ := ih _ h
    exact ⟨1 + c, by omega, by omega, fun dr => cs_case (by simp) (by simp) h0 fun dr => cw1 h (by omega)⟩
  | case2 h g =>
    obtain ⟨c, c1, c2, h⟩ := ih _ h
    obtain ⟨e, e1, e2, g⟩ := ih _ g
    exact ⟨1 + c + e, by omega, by omega, fun dr => cs_case (by simp) (by simp) h0 fun dr => cw2 h (by omega) g (by omega)⟩
theorem D.zero {t : T} (h : D 0 t) : t ∈ K01.base := by
  cases h with
  | base h => exact h
theorem is_sort_ok {t : T} (h : D 2 t) (dr : List T) : φ_is_sort [t] dr = some (.bl true, dr) := by
  obtain ⟨c, c1, c2, hc⟩ := cs_step (k := 1) (n := 10) (d := 4) (B := 3) (.inl rfl) (by decide) (fun t ht => by
    obtain ⟨c, c1, c2, hc⟩ := cs_step (k := 0) (n := 8) (d := 3) (B := 1) (.inr rfl) (by decide) (fun t ht => ⟨1, by decide, by decide, cs_base (n := 7) (.inr (.inr rfl)) t ht.zero⟩) t ht
    exact ⟨c, c1, by omega, hc⟩) t h
  have h1 : (1 : Int) ≤ c := c1
  have h2 : c ≤ 16 := by omega
  unfold φ_is_sort
  have hc' := hc dr
  show runF 1 1 (sRet (eChain cLe cLe (eC (T.int 1)) (eCall 2 (φn_count_sorts 12) (aCons (eVar 0) (aCons (eC (T.int 4)) aNil))) (eC (T.int 16)))) [t] dr = _
  simp [runF, sSeq, sIf, sRet, sSet, sNil, sAug, sTup, sPar, sFor, forGo, bN, bN2, iSeq, eVar, eC, eTup, eLst, aNil, aCons, eBin, tB, eChain, eAnd, eOr, eNot, bAnd, bOr, bNot, eIf, eCall, eB, eIx, ixT, L2.atI, L2.ixN, cEqX, cNeX, cEq, cNe, eqT, cLe, cGe, cGt, cLt, cLtI, cLtS, cIs, cIsNot, isNon, cIn, cNin, cInS, cNinS, cInQ, flatT, eqF, lenT, lenQ, lenS, seqT, isiF, isiInt, isiBool, isiStr, isiTup, intF, subT, addT, addI, setNs, uYes, lim, hc', h1, h2]
end K01
set_option linter.all false
set_option maxRecDepth 100000
set_option maxHeartbeats 4000000
/-! How many values a drawn sort has. -/
namespace K01
open FL
def Cn (B : Int) (x : T) : Prop := x = .non ∨ ∃ m : Int, x = .int m ∧ 1 ≤ m ∧ m ≤ B
theorem Cn.mono {B C : Int} {x : T} (h : Cn B x) (l : B ≤ C) : Cn C x := h.elim .inl fun ⟨m, e, a, b⟩ => .inr ⟨m, e, a, by omega⟩
def HM (n : Nat) (t x : T) : Prop := (∀ dr, φn_how_many_values n [t] dr = some (x, dr)) ∧ ∀ dr, φn__law_many n [t] dr = some (x, dr)
theorem rg1 : rngL 0 1 = [.int 0] := rfl
theorem rg2 : rngL 0 2 = [.int 0, .int 1] := rfl
theorem rg3 : rngL 0 3 = [.int 0, .int 1, .int 2] := rfl
theorem rg0 : rngL 0 0 = [] := rfl
theorem rh1 : rngL 1 1 = [.int 1] := rfl
theorem rh2 : rngL 1 2 = [.int 1, .int 2] := rfl
theorem mulOk {i j : Int} (h1 : i.natAbs < 2 ^ 200) (h2 : j.natAbs < 2 ^ 200) : mulT (.int i) (.int j) = some (.int (i * j)) := by
  unfold mulT mulI
  dsimp only
  have lg : ∀ {k : Int}, k.natAbs < 2 ^ 200 → k.natAbs.log2 < 200 := fun {k} h => by
    by_cases e : k.natAbs = 0
    · rw [e]; decide
    · exact (Nat.log2_lt e).mpr h
  have a := lg h1
  have b := lg h2
  rw [if_pos (by omega)]
section
variable {r q : Phi} {a b x y : T} {dr : List T} {B : Int}
theorem mul_one {m : Int} (h : 1 ≤ m) (h2 : m ≤ 10000) : mulT (.int 1) (.int m) = some (.int m) := by
  rw [mulOk (by decide) (by omega), Int.one_mul]
theorem mul_two {m k : Int} (h : 1 ≤ m) (h2 : m ≤ 10000) (g : 1 ≤ k) (g2 : k ≤ 10000) : mulT (.int m) (.int k) = some (.int (m * k)) := mulOk (by omega) (by omega)
theorem mul_le {m k : Int} (h : 1 ≤ m) (h2 : m ≤ B) (g : 1 ≤ k) (g2 : k ≤ B) : 1 ≤ m * k ∧ m * k ≤ B * B :=
  ⟨by have := Int.mul_le_mul h g (by omega) (by omega); omega, Int.mul_le_mul h2 g2 (by omega) (by omega)⟩
theorem mul_three {m : Int} (h : 1 ≤ m) (h2 : m ≤ 10000) : mulT (.int (m * m)) (.int m) = some (.int (m * m * m)) := by
  have := mul_le (B := 10000) h h2 h h2
  exact mulOk (by omega) (by omega)
abbrev hmF (r : Phi) : Phi := runF 4 1 (u_how_many_values r)
abbrev lmF (r : Phi) : Phi := runF 6 1 (u__law_many r)
theorem hm_maybe (h : ∀ dr, r [a] dr = some (x, dr)) (g : ∀ dr, q [a] dr = some (x, dr)) (hx : Cn B x) : ∃ y, (∀ dr, hmF r [.tup [kMaybe, a]] dr = some (y, dr)) ∧ (∀ dr, lmF q [.tup [kMaybe, a]] dr = some (y, dr)) ∧ Cn (B + 1) y := by
  rcases hx with rfl | ⟨m, rfl, h1, h2⟩
  · refine ⟨.non, fun dr => ?_, fun dr => ?_, .inl rfl⟩
    · simp [runF, sSeq, sIf, sRet, sSet, sNil, sAug, sTup, sPar, sFor, forGo, bN, bN2, iSeq, eVar, eC, eTup, eLst, aNil, aCons, eBin, tB, eChain, eAnd, eOr, eNot, bAnd, bOr, bNot, eIf, eCall, eB, eIx, ixT, L2.atI, L2.ixN, cEqX, cNeX, cEq, cNe, eqT, cLe, cGe, cGt, cLt, cLtI, cLtS, cIs, cIsNot, isNon, cIn, cNin, cInS, cNinS, cInQ, flatT, eqF, lenT, lenQ, lenS, seqT, isiF, isiInt, isiBool, isiStr, isiTup, intF, subT, addT, addI, setNs, uYes, lim, lcF, lcGo, wipeE, FL.iRng1, FL.iRng2, rngOk, sumF, intsT, u_how_many_values, h, φ_add_counts, u_add_counts]
    · simp [runF, sSeq, sIf, sRet, sSet, sNil, sAug, sTup, sPar, sFor, forGo, bN, bN2, iSeq, eVar, eC, eTup, eLst, aNil, aCons, eBin, tB, eChain, eAnd, eOr, eNot, bAnd, bOr, bNot, eIf, eCall, eB, eIx, ixT, L2.atI, L2.ixN, cEqX, cNeX, cEq, cNe, eqT, cLe, cGe, cGt, cLt, cLtI, cLtS, cIs, cIsNot, isNon, cIn, cNin, cInS, cNinS, cInQ, flatT, eqF, lenT, lenQ, lenS, seqT, isiF, isiInt, isiBool, isiStr, isiTup, intF, subT, addT, addI, setNs, uYes, lim, lcF, lcGo, wipeE, FL.iRng1, FL.iRng2, rngOk, sumF, intsT, u__law_many, g]
  · refine ⟨.int (m + 1), fun dr => ?_, fun dr => ?_, .inr ⟨_, rfl, by omega, by omega⟩⟩
    · simp [runF, sSeq, sIf, sRet, sSet, sNil, sAug, sTup, sPar, sFor, forGo, bN, bN2, iSeq, eVar, eC, eTup, eLst, aNil, aCons, eBin, tB, eChain, eAnd, eOr, eNot, bAnd, bOr, bNot, eIf, eCall, eB, eIx, ixT, L2.atI, L2.ixN, cEqX, cNeX, cEq, cNe, eqT, cLe, cGe, cGt, cLt, cLtI, cLtS, cIs, cIsNot, isNon, cIn, cNin, cInS, cNinS, cInQ, flatT, eqF, lenT, lenQ, lenS, seqT, isiF, isiInt, isiBool, isiStr, isiTup, intF, subT, addT, addI, setNs, uYes, lim, lcF, lcGo, wipeE, FL.iRng1, FL.iRng2, rngOk, sumF, intsT, u_how_many_values, h, φ_add_counts, u_add_counts]
      omega
    · simp [runF, sSeq, sIf, sRet, sSet, sNil, sAug, sTup, sPar, sFor, forGo, bN, bN2, iSeq, eVar, eC, eTup, eLst, aNil, aCons, eBin, tB, eChain, eAnd, eOr, eNot, bAnd, bOr, bNot, eIf, eCall, eB, eIx, ixT, L2.atI, L2.ixN, cEqX, cNeX, cEq, cNe, eqT, cLe, cGe, cGt, cLt, cLtI, cLtS, cIs, cIsNot, isNon, cIn, cNin, cInS, cNinS, cInQ, flatT, eqF, lenT, lenQ, lenS, seqT, isiF, isiInt, isiBool, isiStr, isiTup, intF, subT, addT, addI, setNs, uYes, lim, lcF, lcGo, wipeE, FL.iRng1, FL.iRng2, rngOk, sumF, intsT, u__law_many, g]
theorem hm_row0 : (∀ dr, hmF r [.tup [kRow, .tup []]] dr = some (.int 1, dr)) ∧ (∀ dr, lmF q [.tup [kRow, .tup []]] dr = some (.int 1, dr)) := by
  refine ⟨fun dr => ?_, fun dr => ?_⟩
  · simp [runF, sSeq, sIf, sRet, sSet, sNil, sAug, sTup, sPar, sFor, forGo, bN, bN2, iSeq, eVar, eC, eTup, eLst, aNil, aCons, eBin, tB, eChain, eAnd, eOr, eNot, bAnd, bOr, bNot, eIf, eCall, eB, eIx, ixT, L2.atI, L2.ixN, cEqX, cNeX, cEq, cNe, eqT, cLe, cGe, cGt, cLt, cLtI, cLtS, cIs, cIsNot, isNon, cIn, cNin, cInS, cNinS, cInQ, flatT, eqF, lenT, lenQ, lenS, seqT, isiF, isiInt, isiBool, isiStr, isiTup, intF, subT, addT, addI, setNs, uYes, lim, lcF, lcGo, wipeE, FL.iRng1, FL.iRng2, rngOk, sumF, intsT, u_how_many_values, φ_multiply_counts, u_multiply_counts]
  · simp [runF, sSeq, sIf, sRet, sSet, sNil, sAug, sTup, sPar, sFor, forGo, bN, bN2, iSeq, eVar, eC, eTup, eLst, aNil, aCons, eBin, tB, eChain, eAnd, eOr, eNot, bAnd, bOr, bNot, eIf, eCall, eB, eIx, ixT, L2.atI, L2.ixN, cEqX, cNeX, cEq, cNe, eqT, cLe, cGe, cGt, cLt, cLtI, cLtS, cIs, cIsNot, isNon, cIn, cNin, cInS, cNinS, cInQ, flatT, eqF, lenT, lenQ, lenS, seqT, isiF, isiInt, isiBool, isiStr, isiTup, intF, subT, addT, addI, setNs, uYes, lim, lcF, lcGo, wipeE, FL.iRng1, FL.iRng2, rngOk, sumF, intsT, u__law_many]
theorem hm_row1 (h : ∀ dr, r [a] dr = some (x, dr)) (g : ∀ dr, q [a] dr = some (x, dr)) (hx : Cn B x) (hB : B ≤ 10000) : ∃ y, (∀ dr, hmF r [.tup [kRow, .tup [a]]] dr = some (y, dr)) ∧ (∀ dr, lmF q [.tup [kRow, .tup [a]]] dr = some (y, dr)) ∧ Cn B y := by
  rcases hx with rfl | ⟨m, rfl, h1, h2⟩
  · refine ⟨.non, fun dr => ?_, fun dr => ?_, .inl rfl⟩
    · simp [runF, sSeq, sIf, sRet, sSet, sNil, sAug, sTup, sPar, sFor, forGo, bN, bN2, iSeq, eVar, eC, eTup, eLst, aNil, aCons, eBin, tB, eChain, eAnd, eOr, eNot, bAnd, bOr, bNot, eIf, eCall, eB, eIx, ixT, L2.atI, L2.ixN, cEqX, cNeX, cEq, cNe, eqT, cLe, cGe, cGt, cLt, cLtI, cLtS, cIs, cIsNot, isNon, cIn, cNin, cInS, cNinS, cInQ, flatT, eqF, lenT, lenQ, lenS, seqT, isiF, isiInt, isiBool, isiStr, isiTup, intF, subT, addT, addI, setNs, uYes, lim, lcF, lcGo, wipeE, FL.iRng1, FL.iRng2, rngOk, sumF, intsT, u_how_many_values, h, φ_multiply_counts, u_multiply_counts]
    · simp [runF, sSeq, sIf, sRet, sSet, sNil, sAug, sTup, sPar, sFor, forGo, bN, bN2, iSeq, eVar, eC, eTup, eLst, aNil, aCons, eBin, tB, eChain, eAnd, eOr, eNot, bAnd, bOr, bNot, eIf, eCall, eB, eIx, ixT, L2.atI, L2.ixN, cEqX, cNeX, cEq, cNe, eqT, cLe, cGe, cGt, cLt, cLtI, cLtS, cIs, cIsNot, isNon, cIn, cNin, cInS, cNinS, cInQ, flatT, eqF, lenT, lenQ, lenS, seqT, isiF, isiInt, isiBool, isiStr, isiTup, intF, subT, addT, addI, setNs, uYes, lim, lcF, lcGo, wipeE, FL.iRng1, FL.iRng2, rngOk, sumF, intsT, u__law_many, g]
  · have m1 := mul_one h1 (by omega)
    refine ⟨.int m, fun dr => ?_, fun dr => ?_, .inr ⟨_, rfl, by omega, by omega⟩⟩
    · simp [runF, sSeq, sIf, sRet, sSet, sNil, sAug, sTup, sPar, sFor, forGo, bN, bN2, iSeq, eVar, eC, eTup, eLst, aNil, aCons, eBin, tB, eChain, eAnd, eOr, eNot, bAnd, bOr, bNot, eIf, eCall, eB, eIx, ixT, L2.atI, L2.ixN, cEqX, cNeX, cEq, cNe, eqT, cLe, cGe, cGt, cLt, cLtI, cLtS, cIs, cIsNot, isNon, cIn, cNin, cInS, cNinS, cInQ, flatT, eqF, lenT, lenQ, lenS, seqT, isiF, isiInt, isiBool, isiStr, isiTup, intF, subT, addT, addI, setNs, uYes, lim, lcF, lcGo, wipeE, FL.iRng1, FL.iRng2, rngOk, sumF, intsT, u_how_many_values, h, φ_multiply_counts, u_multiply_counts, m1]
    · simp [runF, sSeq, sIf, sRet, sSet, sNil, sAug, sTup, sPar, sFor, forGo, bN, bN2, iSeq, eVar, eC, eTup, eLst, aNil, aCons, eBin, tB, eChain, eAnd, eOr, eNot, bAnd, bOr, bNot, eIf, eCall, eB, eIx, ixT, L2.atI, L2.ixN, cEqX, cNeX, cEq, cNe, eqT, cLe, cGe, cGt, cLt, cLtI, cLtS, cIs, cIsNot, isNon, cIn, cNin, cInS, cNinS, cInQ, flatT, eqF, lenT, lenQ, lenS, seqT, isiF, isiInt, isiBool, isiStr, isiTup, intF, subT, addT, addI, setNs, uYes, lim, lcF, lcGo, wipeE, FL.iRng1, FL.iRng2, rngOk, sumF, intsT, u__law_many, g, m1]
theorem hm_row2 (h : ∀ dr, r [a] dr = some (x, dr)) (g : ∀ dr, q [a] dr = some (x, dr)) (hx : Cn B x) (h' : ∀ dr, r [b] dr = some (y, dr)) (g' : ∀ dr, q [b] dr = some (y, dr)) (hy : Cn B y) (hB : B ≤ 10000) :
    ∃ z, (∀ dr, hmF r [.tup [kRow, .tup [a, b]]] dr = some (z, dr)) ∧ (∀ dr, lmF q [.tup [kRow, .tup [a, b]]] dr = some (z, dr)) ∧ Cn (B * B) z := by
  rcases hx with rfl | ⟨m, rfl, h1, h2⟩ <;> rcases hy with rfl | ⟨k, rfl, k1, k2⟩
  · refine ⟨.non, fun dr => ?_, fun dr => ?_, .inl rfl⟩
    · simp [runF, sSeq, sIf, sRet, sSet, sNil, sAug, sTup, sPar, sFor, forGo, bN, bN2, iSeq, eVar, eC, eTup, eLst, aNil, aCons, eBin, tB, eChain, eAnd, eOr, eNot, bAnd, bOr, bNot, eIf, eCall, eB, eIx, ixT, L2.atI, L2.ixN, cEqX, cNeX, cEq, cNe, eqT, cLe, cGe, cGt, cLt, cLtI, cLtS, cIs, cIsNot, isNon, cIn, cNin, cInS, cNinS, cInQ, flatT, eqF, lenT, lenQ, lenS, seqT, isiF, isiInt, isiBool, isiStr, isiTup, intF, subT, addT, addI, setNs, uYes, lim, lcF, lcGo, wipeE, FL.iRng1, FL.iRng2, rngOk, sumF, intsT, u_how_many_values, h, h', φ_multiply_counts, u_multiply_counts]
    · simp [runF, sSeq, sIf, sRet, sSet, sNil, sAug, sTup, sPar, sFor, forGo, bN, bN2, iSeq, eVar, eC, eTup, eLst, aNil, aCons, eBin, tB, eChain, eAnd, eOr, eNot, bAnd, bOr, bNot, eIf, eCall, eB, eIx, ixT, L2.atI, L2.ixN, cEqX, cNeX, cEq, cNe, eqT, cLe, cGe, cGt, cLt, cLtI, cLtS, cIs, cIsNot, isNon, cIn, cNin, cInS, cNinS, cInQ, flatT, eqF, lenT, lenQ, lenS, seqT, isiF, isiInt, isiBool, isiStr, isiTup, intF, subT, addT, addI, setNs, uYes, lim, lcF, lcGo, wipeE, FL.iRng1, FL.iRng2, rngOk, sumF, intsT, u__law_many, g, g']
  · refine ⟨.non, fun dr => ?_, fun dr => ?_, .inl rfl⟩
    · simp [runF, sSeq, sIf, sRet, sSet, sNil, sAug, sTup, sPar, sFor, forGo, bN, bN2, iSeq, eVar, eC, eTup, eLst, aNil, aCons, eBin, tB, eChain, eAnd, eOr, eNot, bAnd, bOr, bNot, eIf, eCall, eB, eIx, ixT, L2.atI, L2.ixN, cEqX, cNeX, cEq, cNe, eqT, cLe, cGe, cGt, cLt, cLtI, cLtS, cIs, cIsNot, isNon, cIn, cNin, cInS, cNinS, cInQ, flatT, eqF, lenT, lenQ, lenS, seqT, isiF, isiInt, isiBool, isiStr, isiTup, intF, subT, addT, addI, setNs, uYes, lim, lcF, lcGo, wipeE, FL.iRng1, FL.iRng2, rngOk, sumF, intsT, u_how_many_values, h, h', φ_multiply_counts, u_multiply_counts]
    · simp [runF, sSeq, sIf, sRet, sSet, sNil, sAug, sTup, sPar, sFor, forGo, bN, bN2, iSeq, eVar, eC, eTup, eLst, aNil, aCons, eBin, tB, eChain, eAnd, eOr, eNot, bAnd, bOr, bNot, eIf, eCall, eB, eIx, ixT, L2.atI, L2.ixN, cEqX, cNeX, cEq, cNe, eqT, cLe, cGe, cGt, cLt, cLtI, cLtS, cIs, cIsNot, isNon, cIn, cNin, cInS, cNinS, cInQ, flatT, eqF, lenT, lenQ, lenS, seqT, isiF, isiInt, isiBool, isiStr, isiTup, intF, subT, addT, addI, setNs, uYes, lim, lcF, lcGo, wipeE, FL.iRng1, FL.iRng2, rngOk, sumF, intsT, u__law_many, g, g']
  · refine ⟨.non, fun dr => ?_, fun dr => ?_, .inl rfl⟩
    · simp [runF, sSeq, sIf, sRet, sSet, sNil, sAug, sTup, sPar, sFor, forGo, bN, bN2, iSeq, eVar, eC, eTup, eLst, aNil, aCons, eBin, tB, eChain, eAnd, eOr, eNot, bAnd, bOr, bNot, eIf, eCall, eB, eIx, ixT, L2.atI, L2.ixN, cEqX, cNeX, cEq, cNe, eqT, cLe, cGe, cGt, cLt, cLtI, cLtS, cIs, cIsNot, isNon, cIn, cNin, cInS, cNinS, cInQ, flatT, eqF, lenT, lenQ, lenS, seqT, isiF, isiInt, isiBool, isiStr, isiTup, intF, subT, addT, addI, setNs, uYes, lim, lcF, lcGo, wipeE, FL.iRng1, FL.iRng2, rngOk, sumF, intsT, u_how_many_values, h, h', φ_multiply_counts, u_multiply_counts]
    · simp [runF, sSeq, sIf, sRet, sSet, sNil, sAug, sTup, sPar, sFor, forGo, bN, bN2, iSeq, eVar, eC, eTup, eLst, aNil, aCons, eBin, tB, eChain, eAnd, eOr, eNot, bAnd, bOr, bNot, eIf, eCall, eB, eIx, ixT, L2.atI, L2.ixN, cEqX, cNeX, cEq, cNe, eqT, cLe, cGe, cGt, cLt, cLtI, cLtS, cIs, cIsNot, isNon, cIn, cNin, cInS, cNinS, cInQ, flatT, eqF, lenT, lenQ, lenS, seqT, isiF, isiInt, isiBool, isiStr, isiTup, intF, subT, addT, addI, setNs, uYes, lim, lcF, lcGo, wipeE, FL.iRng1, FL.iRng2, rngOk, sumF, intsT, u__law_many, g, g']
  · have m1 := mul_one h1 (by omega)
    have m2 := mul_two h1 (by omega) k1 (by omega)
    have m3 := mul_le h1 h2 k1 k2
    refine ⟨.int (m * k), fun dr => ?_, fun dr => ?_, .inr ⟨_, rfl, m3.1, m3.2⟩⟩
    · simp [runF, sSeq, sIf, sRet, sSet, sNil, sAug, sTup, sPar, sFor, forGo, bN, bN2, iSeq, eVar, eC, eTup, eLst, aNil, aCons, eBin, tB, eChain, eAnd, eOr, eNot, bAnd, bOr, bNot, eIf, eCall, eB, eIx, ixT, L2.atI, L2.ixN, cEqX, cNeX, cEq, cNe, eqT, cLe, cGe, cGt, cLt, cLtI, cLtS, cIs, cIsNot, isNon, cIn, cNin, cInS, cNinS, cInQ, flatT, eqF, lenT, lenQ, lenS, seqT, isiF, isiInt, isiBool, isiStr, isiTup, intF, subT, addT, addI, setNs, uYes, lim, lcF, lcGo, wipeE, FL.iRng1, FL.iRng2, rngOk, sumF, intsT, u_how_many_values, h, h', φ_multiply_counts, u_multiply_counts, m1, m2]
    · simp [runF, sSeq, sIf, sRet, sSet, sNil, sAug, sTup, sPar, sFor, forGo, bN, bN2, iSeq, eVar, eC, eTup, eLst, aNil, aCons, eBin, tB, eChain, eAnd, eOr, eNot, bAnd, bOr, bNot, eIf, eCall, eB, eIx, ixT, L2.atI, L2.ixN, cEqX, cNeX, cEq, cNe, eqT, cLe, cGe, cGt, cLt, cLtI, cLtS, cIs, cIsNot, isNon, cIn, cNin, cInS, cNinS, cInQ, flatT, eqF, lenT, lenQ, lenS, seqT, isiF, isiInt, isiBool, isiStr, isiTup, intF, subT, addT, addI, setNs, uYes, lim, lcF, lcGo, wipeE, FL.iRng1, FL.iRng2, rngOk, sumF, intsT, u__law_many, g, g', m1, m2]
theorem hm_case1 (h : ∀ dr, r [a] dr = some (x, dr)) (g : ∀ dr, q [a] dr = some (x, dr)) (hx : Cn B x) (hB : B ≤ 10000) : ∃ y, (∀ dr, hmF r [.tup [kCase, .tup [a]]] dr = some (y, dr)) ∧ (∀ dr, lmF q [.tup [kCase, .tup [a]]] dr = some (y, dr)) ∧ Cn B y := by
  rcases hx with rfl | ⟨m, rfl, h1, h2⟩
  · refine ⟨.non, fun dr => ?_, fun dr => ?_, .inl rfl⟩
    · simp [runF, sSeq, sIf, sRet, sSet, sNil, sAug, sTup, sPar, sFor, forGo, bN, bN2, iSeq, eVar, eC, eTup, eLst, aNil, aCons, eBin, tB, eChain, eAnd, eOr, eNot, bAnd, bOr, bNot, eIf, eCall, eB, eIx, ixT, L2.atI, L2.ixN, cEqX, cNeX, cEq, cNe, eqT, cLe, cGe, cGt, cLt, cLtI, cLtS, cIs, cIsNot, isNon, cIn, cNin, cInS, cNinS, cInQ, flatT, eqF, lenT, lenQ, lenS, seqT, isiF, isiInt, isiBool, isiStr, isiTup, intF, subT, addT, addI, setNs, uYes, lim, lcF, lcGo, wipeE, FL.iRng1, FL.iRng2, rngOk, sumF, intsT, u_how_many_values, h, φ_add_counts, u_add_counts]
    · simp [runF, sSeq, sIf, sRet, sSet, sNil, sAug, sTup, sPar, sFor, forGo, bN, bN2, iSeq, eVar, eC, eTup, eLst, aNil, aCons, eBin, tB, eChain, eAnd, eOr, eNot, bAnd, bOr, bNot, eIf, eCall, eB, eIx, ixT, L2.atI, L2.ixN, cEqX, cNeX, cEq, cNe, eqT, cLe, cGe, cGt, cLt, cLtI, cLtS, cIs, cIsNot, isNon, cIn, cNin, cInS, cNinS, cInQ, flatT, eqF, lenT, lenQ, lenS, seqT, isiF, isiInt, isiBool, isiStr, isiTup, intF, subT, addT, addI, setNs, uYes, lim, lcF, lcGo, wipeE, FL.iRng1, FL.iRng2, rngOk, sumF, intsT, u__law_many, g]
  · have m1 := mul_one h1 (by omega)
    refine ⟨.int m, fun dr => ?_, fun dr => ?_, .inr ⟨_, rfl, by omega, by omega⟩⟩
    · simp [runF, sSeq, sIf, sRet, sSet, sNil, sAug, sTup, sPar, sFor, forGo, bN, bN2, iSeq, eVar, eC, eTup, eLst, aNil, aCons, eBin, tB, eChain, eAnd, eOr, eNot, bAnd, bOr, bNot, eIf, eCall, eB, eIx, ixT, L2.atI, L2.ixN, cEqX, cNeX, cEq, cNe, eqT, cLe, cGe, cGt, cLt, cLtI, cLtS, cIs, cIsNot, isNon, cIn, cNin, cInS, cNinS, cInQ, flatT, eqF, lenT, lenQ, lenS, seqT, isiF, isiInt, isiBool, isiStr, isiTup, intF, subT, addT, addI, setNs, uYes, lim, lcF, lcGo, wipeE, FL.iRng1, FL.iRng2, rngOk, sumF, intsT, u_how_many_values, h, φ_add_counts, u_add_counts, m1]
    · simp [runF, sSeq, sIf, sRet, sSet, sNil, sAug, sTup, sPar, sFor, forGo, bN, bN2, iSeq, eVar, eC, eTup, eLst, aNil, aCons, eBin, tB, eChain, eAnd, eOr, eNot, bAnd, bOr, bNot, eIf, eCall, eB, eIx, ixT, L2.atI, L2.ixN, cEqX, cNeX, cEq, cNe, eqT, cLe, cGe, cGt, cLt, cLtI, cLtS, cIs, cIsNot, isNon, cIn, cNin, cInS, cNinS, cInQ, flatT, eqF, lenT, lenQ, lenS, seqT, isiF, isiInt, isiBool, isiStr, isiTup, intF, subT, addT, addI, setNs, uYes, lim, lcF, lcGo, wipeE, FL.iRng1, FL.iRng2, rngOk, sumF, intsT, u__law_many, g, m1]
theorem hm_case2 (h : ∀ dr, r [a] dr = some (x, dr)) (g : ∀ dr, q [a] dr = some (x, dr)) (hx : Cn B x) (h' : ∀ dr, r [b] dr = some (y, dr)) (g' : ∀ dr, q [b] dr = some (y, dr)) (hy : Cn B y) (hB : B ≤ 10000) :
    ∃ z, (∀ dr, hmF r [.tup [kCase, .tup [a, b]]] dr = some (z, dr)) ∧ (∀ dr, lmF q [.tup [kCase, .tup [a, b]]] dr = some (z, dr)) ∧ Cn (B + B) z := by
  rcases hx with rfl | ⟨m, rfl, h1, h2⟩ <;> rcases hy with rfl | ⟨k, rfl, k1, k2⟩
  · refine ⟨.non, fun dr => ?_, fun dr => ?_, .inl rfl⟩
    · simp [runF, sSeq, sIf, sRet, sSet, sNil, sAug, sTup, sPar, sFor, forGo, bN, bN2, iSeq, eVar, eC, eTup, eLst, aNil, aCons, eBin, tB, eChain, eAnd, eOr, eNot, bAnd, bOr, bNot, eIf, eCall, eB, eIx, ixT, L2.atI, L2.ixN, cEqX, cNeX, cEq, cNe, eqT, cLe, cGe, cGt, cLt, cLtI, cLtS, cIs, cIsNot, isNon, cIn, cNin, cInS, cNinS, cInQ, flatT, eqF, lenT, lenQ, lenS, seqT, isiF, isiInt, isiBool, isiStr, isiTup, intF, subT, addT, addI, setNs, uYes, lim, lcF, lcGo, wipeE, FL.iRng1, FL.iRng2, rngOk, sumF, intsT, u_how_many_values, h, h', φ_add_counts, u_add_counts]
    · simp [runF, sSeq, sIf, sRet, sSet, sNil, sAug, sTup, sPar, sFor, forGo, bN, bN2, iSeq, eVar, eC, eTup, eLst, aNil, aCons, eBin, tB, eChain, eAnd, eOr, eNot, bAnd, bOr, bNot, eIf, eCall, eB, eIx, ixT, L2.atI, L2.ixN, cEqX, cNeX, cEq, cNe, eqT, cLe, cGe, cGt, cLt, cLtI, cLtS, cIs, cIsNot, isNon, cIn, cNin, cInS, cNinS, cInQ, flatT, eqF, lenT, lenQ, lenS, seqT, isiF, isiInt, isiBool, isiStr, isiTup, intF, subT, addT, addI, setNs, uYes, lim, lcF, lcGo, wipeE, FL.iRng1, FL.iRng2, rngOk, sumF, intsT, u__law_many, g, g']
  · refine ⟨.non, fun dr => ?_, fun dr => ?_, .inl rfl⟩
    · simp [runF, sSeq, sIf, sRet, sSet, sNil, sAug, sTup, sPar, sFor, forGo, bN, bN2, iSeq, eVar, eC, eTup, eLst, aNil, aCons, eBin, tB, eChain, eAnd, eOr, eNot, bAnd, bOr, bNot, eIf, eCall, eB, eIx, ixT, L2.atI, L2.ixN, cEqX, cNeX, cEq, cNe, eqT, cLe, cGe, cGt, cLt, cLtI, cLtS, cIs, cIsNot, isNon, cIn, cNin, cInS, cNinS, cInQ, flatT, eqF, lenT, lenQ, lenS, seqT, isiF, isiInt, isiBool, isiStr, isiTup, intF, subT, addT, addI, setNs, uYes, lim, lcF, lcGo, wipeE, FL.iRng1, FL.iRng2, rngOk, sumF, intsT, u_how_many_values, h, h', φ_add_counts, u_add_counts]
    · simp [runF, sSeq, sIf, sRet, sSet, sNil, sAug, sTup, sPar, sFor, forGo, bN, bN2, iSeq, eVar, eC, eTup, eLst, aNil, aCons, eBin, tB, eChain, eAnd, eOr, eNot, bAnd, bOr, bNot, eIf, eCall, eB, eIx, ixT, L2.atI, L2.ixN, cEqX, cNeX, cEq, cNe, eqT, cLe, cGe, cGt, cLt, cLtI, cLtS, cIs, cIsNot, isNon, cIn, cNin, cInS, cNinS, cInQ, flatT, eqF, lenT, lenQ, lenS, seqT, isiF, isiInt, isiBool, isiStr, isiTup, intF, subT, addT, addI, setNs, uYes, lim, lcF, lcGo, wipeE, FL.iRng1, FL.iRng2, rngOk, sumF, intsT, u__law_many, g, g']
  · refine ⟨.non, fun dr => ?_, fun dr => ?_, .inl rfl⟩
    · simp [runF, sSeq, sIf, sRet, sSet, sNil, sAug, sTup, sPar, sFor, forGo, bN, bN2, iSeq, eVar, eC, eTup, eLst, aNil, aCons, eBin, tB, eChain, eAnd, eOr, eNot, bAnd, bOr, bNot, eIf, eCall, eB, eIx, ixT, L2.atI, L2.ixN, cEqX, cNeX, cEq, cNe, eqT, cLe, cGe, cGt, cLt, cLtI, cLtS, cIs, cIsNot, isNon, cIn, cNin, cInS, cNinS, cInQ, flatT, eqF, lenT, lenQ, lenS, seqT, isiF, isiInt, isiBool, isiStr, isiTup, intF, subT, addT, addI, setNs, uYes, lim, lcF, lcGo, wipeE, FL.iRng1, FL.iRng2, rngOk, sumF, intsT, u_how_many_values, h, h', φ_add_counts, u_add_counts]
    · simp [runF, sSeq, sIf, sRet, sSet, sNil, sAug, sTup, sPar, sFor, forGo, bN, bN2, iSeq, eVar, eC, eTup, eLst, aNil, aCons, eBin, tB, eChain, eAnd, eOr, eNot, bAnd, bOr, bNot, eIf, eCall, eB, eIx, ixT, L2.atI, L2.ixN, cEqX, cNeX, cEq, cNe, eqT, cLe, cGe, cGt, cLt, cLtI, cLtS, cIs, cIsNot, isNon, cIn, cNin, cInS, cNinS, cInQ, flatT, eqF, lenT, lenQ, lenS, seqT, isiF, isiInt, isiBool, isiStr, isiTup, intF, subT, addT, addI, setNs, uYes, lim, lcF, lcGo, wipeE, FL.iRng1, FL.iRng2, rngOk, sumF, intsT, u__law_many, g, g']
  · have m1 := mul_one h1 (by omega)
    have m2 := mul_two h1 (by omega) k1 (by omega)
    refine ⟨.int (m + k), fun dr => ?_, fun dr => ?_, .inr ⟨_, rfl, by omega, by omega⟩⟩
    · simp [runF, sSeq, sIf, sRet, sSet, sNil, sAug, sTup, sPar, sFor, forGo, bN, bN2, iSeq, eVar, eC, eTup, eLst, aNil, aCons, eBin, tB, eChain, eAnd, eOr, eNot, bAnd, bOr, bNot, eIf, eCall, eB, eIx, ixT, L2.atI, L2.ixN, cEqX, cNeX, cEq, cNe, eqT, cLe, cGe, cGt, cLt, cLtI, cLtS, cIs, cIsNot, isNon, cIn, cNin, cInS, cNinS, cInQ, flatT, eqF, lenT, lenQ, lenS, seqT, isiF, isiInt, isiBool, isiStr, isiTup, intF, subT, addT, addI, setNs, uYes, lim, lcF, lcGo, wipeE, FL.iRng1, FL.iRng2, rngOk, sumF, intsT, u_how_many_values, h, h', φ_add_counts, u_add_counts, m1, m2]
    · simp [runF, sSeq, sIf, sRet, sSet, sNil, sAug, sTup, sPar, sFor, forGo, bN, bN2, iSeq, eVar, eC, eTup, eLst, aNil, aCons, eBin, tB, eChain, eAnd, eOr, eNot, bAnd, bOr, bNot, eIf, eCall, eB, eIx, ixT, L2.atI, L2.ixN, cEqX, cNeX, cEq, cNe, eqT, cLe, cGe, cGt, cLt, cLtI, cLtS, cIs, cIsNot, isNon, cIn, cNin, cInS, cNinS, cInQ, flatT, eqF, lenT, lenQ, lenS, seqT, isiF, isiInt, isiBool, isiStr, isiTup, intF, subT, addT, addI, setNs, uYes, lim, lcF, lcGo, wipeE, FL.iRng1, FL.iRng2, rngOk, sumF, intsT, u__law_many, g, g', m1, m2]
theorem hm_many {l m : T} (hq : (l, m) ∈ lm6) (h : ∀ dr, r [a] dr = some (x, dr)) (g : ∀ dr, q [a] dr = some (x, dr)) (hx : Cn B x) (hB : B ≤ 10000) (hB1 : 1 ≤ B) :
    ∃ z, (∀ dr, hmF r [.tup [kMany, a, l, m]] dr = some (z, dr)) ∧ (∀ dr, lmF q [.tup [kMany, a, l, m]] dr = some (z, dr)) ∧ Cn (1 + B + B * B) z := by
  simp only [lm6, List.mem_cons, Prod.mk.injEq, List.not_mem_nil, or_false] at hq
  rcases hx with rfl | ⟨k, rfl, h1, h2⟩
  · rcases hq with ⟨rfl, rfl⟩ | ⟨rfl, rfl⟩ | ⟨rfl, rfl⟩ | ⟨rfl, rfl⟩ | ⟨rfl, rfl⟩ | ⟨rfl, rfl⟩
    · refine ⟨.non, fun dr => ?_, fun dr => ?_, .inl rfl⟩
      · simp [runF, sSeq, sIf, sRet, sSet, sNil, sAug, sTup, sPar, sFor, forGo, bN, bN2, iSeq, eVar, eC, eTup, eLst, aNil, aCons, eBin, tB, eChain, eAnd, eOr, eNot, bAnd, bOr, bNot, eIf, eCall, eB, eIx, ixT, L2.atI, L2.ixN, cEqX, cNeX, cEq, cNe, eqT, cLe, cGe, cGt, cLt, cLtI, cLtS, cIs, cIsNot, isNon, cIn, cNin, cInS, cNinS, cInQ, flatT, eqF, lenT, lenQ, lenS, seqT, isiF, isiInt, isiBool, isiStr, isiTup, intF, subT, addT, addI, setNs, uYes, lim, lcF, lcGo, wipeE, FL.iRng1, FL.iRng2, rngOk, sumF, intsT, u_how_many_values, h, φ_count_rows, u_count_rows, rg0, rg1, rg2, rg3, rh1, rh2]
      · simp [runF, sSeq, sIf, sRet, sSet, sNil, sAug, sTup, sPar, sFor, forGo, bN, bN2, iSeq, eVar, eC, eTup, eLst, aNil, aCons, eBin, tB, eChain, eAnd, eOr, eNot, bAnd, bOr, bNot, eIf, eCall, eB, eIx, ixT, L2.atI, L2.ixN, cEqX, cNeX, cEq, cNe, eqT, cLe, cGe, cGt, cLt, cLtI, cLtS, cIs, cIsNot, isNon, cIn, cNin, cInS, cNinS, cInQ, flatT, eqF, lenT, lenQ, lenS, seqT, isiF, isiInt, isiBool, isiStr, isiTup, intF, subT, addT, addI, setNs, uYes, lim, lcF, lcGo, wipeE, FL.iRng1, FL.iRng2, rngOk, sumF, intsT, u__law_many, g, φ__law_power, u__law_power, rg0, rg1, rg2, rg3, rh1, rh2]
    · refine ⟨.non, fun dr => ?_, fun dr => ?_, .inl rfl⟩
      · simp [runF, sSeq, sIf, sRet, sSet, sNil, sAug, sTup, sPar, sFor, forGo, bN, bN2, iSeq, eVar, eC, eTup, eLst, aNil, aCons, eBin, tB, eChain, eAnd, eOr, eNot, bAnd, bOr, bNot, eIf, eCall, eB, eIx, ixT, L2.atI, L2.ixN, cEqX, cNeX, cEq, cNe, eqT, cLe, cGe, cGt, cLt, cLtI, cLtS, cIs, cIsNot, isNon, cIn, cNin, cInS, cNinS, cInQ, flatT, eqF, lenT, lenQ, lenS, seqT, isiF, isiInt, isiBool, isiStr, isiTup, intF, subT, addT, addI, setNs, uYes, lim, lcF, lcGo, wipeE, FL.iRng1, FL.iRng2, rngOk, sumF, intsT, u_how_many_values, h, φ_count_rows, u_count_rows, rg0, rg1, rg2, rg3, rh1, rh2]
      · simp [runF, sSeq, sIf, sRet, sSet, sNil, sAug, sTup, sPar, sFor, forGo, bN, bN2, iSeq, eVar, eC, eTup, eLst, aNil, aCons, eBin, tB, eChain, eAnd, eOr, eNot, bAnd, bOr, bNot, eIf, eCall, eB, eIx, ixT, L2.atI, L2.ixN, cEqX, cNeX, cEq, cNe, eqT, cLe, cGe, cGt, cLt, cLtI, cLtS, cIs, cIsNot, isNon, cIn, cNin, cInS, cNinS, cInQ, flatT, eqF, lenT, lenQ, lenS, seqT, isiF, isiInt, isiBool, isiStr, isiTup, intF, subT, addT, addI, setNs, uYes, lim, lcF, lcGo, wipeE, FL.iRng1, FL.iRng2, rngOk, sumF, intsT, u__law_many, g, φ__law_power, u__law_power, rg0, rg1, rg2, rg3, rh1, rh2]
    · refine ⟨.int 1, fun dr => ?_, fun dr => ?_, .inr ⟨1, rfl, by omega, by have : 0 ≤ B * B := Int.mul_nonneg (by omega) (by omega); omega⟩⟩
      · simp [runF, sSeq, sIf, sRet, sSet, sNil, sAug, sTup, sPar, sFor, forGo, bN, bN2, iSeq, eVar, eC, eTup, eLst, aNil, aCons, eBin, tB, eChain, eAnd, eOr, eNot, bAnd, bOr, bNot, eIf, eCall, eB, eIx, ixT, L2.atI, L2.ixN, cEqX, cNeX, cEq, cNe, eqT, cLe, cGe, cGt, cLt, cLtI, cLtS, cIs, cIsNot, isNon, cIn, cNin, cInS, cNinS, cInQ, flatT, eqF, lenT, lenQ, lenS, seqT, isiF, isiInt, isiBool, isiStr, isiTup, intF, subT, addT, addI, setNs, uYes, lim, lcF, lcGo, wipeE, FL.iRng1, FL.iRng2, rngOk, sumF, intsT, u_how_many_values, h, φ_count_rows, u_count_rows, rg0, rg1, rg2, rg3, rh1, rh2]
      · simp [runF, sSeq, sIf, sRet, sSet, sNil, sAug, sTup, sPar, sFor, forGo, bN, bN2, iSeq, eVar, eC, eTup, eLst, aNil, aCons, eBin, tB, eChain, eAnd, eOr, eNot, bAnd, bOr, bNot, eIf, eCall, eB, eIx, ixT, L2.atI, L2.ixN, cEqX, cNeX, cEq, cNe, eqT, cLe, cGe, cGt, cLt, cLtI, cLtS, cIs, cIsNot, isNon, cIn, cNin, cInS, cNinS, cInQ, flatT, eqF, lenT, lenQ, lenS, seqT, isiF, isiInt, isiBool, isiStr, isiTup, intF, subT, addT, addI, setNs, uYes, lim, lcF, lcGo, wipeE, FL.iRng1, FL.iRng2, rngOk, sumF, intsT, u__law_many, g, φ__law_power, u__law_power, rg0, rg1, rg2, rg3, rh1, rh2]
    · refine ⟨.non, fun dr => ?_, fun dr => ?_, .inl rfl⟩
      · simp [runF, sSeq, sIf, sRet, sSet, sNil, sAug, sTup, sPar, sFor, forGo, bN, bN2, iSeq, eVar, eC, eTup, eLst, aNil, aCons, eBin, tB, eChain, eAnd, eOr, eNot, bAnd, bOr, bNot, eIf, eCall, eB, eIx, ixT, L2.atI, L2.ixN, cEqX, cNeX, cEq, cNe, eqT, cLe, cGe, cGt, cLt, cLtI, cLtS, cIs, cIsNot, isNon, cIn, cNin, cInS, cNinS, cInQ, flatT, eqF, lenT, lenQ, lenS, seqT, isiF, isiInt, isiBool, isiStr, isiTup, intF, subT, addT, addI, setNs, uYes, lim, lcF, lcGo, wipeE, FL.iRng1, FL.iRng2, rngOk, sumF, intsT, u_how_many_values, h, φ_count_rows, u_count_rows, rg0, rg1, rg2, rg3, rh1, rh2]
      · simp [runF, sSeq, sIf, sRet, sSet, sNil, sAug, sTup, sPar, sFor, forGo, bN, bN2, iSeq, eVar, eC, eTup, eLst, aNil, aCons, eBin, tB, eChain, eAnd, eOr, eNot, bAnd, bOr, bNot, eIf, eCall, eB, eIx, ixT, L2.atI, L2.ixN, cEqX, cNeX, cEq, cNe, eqT, cLe, cGe, cGt, cLt, cLtI, cLtS, cIs, cIsNot, isNon, cIn, cNin, cInS, cNinS, cInQ, flatT, eqF, lenT, lenQ, lenS, seqT, isiF, isiInt, isiBool, isiStr, isiTup, intF, subT, addT, addI, setNs, uYes, lim, lcF, lcGo, wipeE, FL.iRng1, FL.iRng2, rngOk, sumF, intsT, u__law_many, g, φ__law_power, u__law_power, rg0, rg1, rg2, rg3, rh1, rh2]
    · refine ⟨.non, fun dr => ?_, fun dr => ?_, .inl rfl⟩
      · simp [runF, sSeq, sIf, sRet, sSet, sNil, sAug, sTup, sPar, sFor, forGo, bN, bN2, iSeq, eVar, eC, eTup, eLst, aNil, aCons, eBin, tB, eChain, eAnd, eOr, eNot, bAnd, bOr, bNot, eIf, eCall, eB, eIx, ixT, L2.atI, L2.ixN, cEqX, cNeX, cEq, cNe, eqT, cLe, cGe, cGt, cLt, cLtI, cLtS, cIs, cIsNot, isNon, cIn, cNin, cInS, cNinS, cInQ, flatT, eqF, lenT, lenQ, lenS, seqT, isiF, isiInt, isiBool, isiStr, isiTup, intF, subT, addT, addI, setNs, uYes, lim, lcF, lcGo, wipeE, FL.iRng1, FL.iRng2, rngOk, sumF, intsT, u_how_many_values, h, φ_count_rows, u_count_rows, rg0, rg1, rg2, rg3, rh1, rh2]
      · simp [runF, sSeq, sIf, sRet, sSet, sNil, sAug, sTup, sPar, sFor, forGo, bN, bN2, iSeq, eVar, eC, eTup, eLst, aNil, aCons, eBin, tB, eChain, eAnd, eOr, eNot, bAnd, bOr, bNot, eIf, eCall, eB, eIx, ixT, L2.atI, L2.ixN, cEqX, cNeX, cEq, cNe, eqT, cLe, cGe, cGt, cLt, cLtI, cLtS, cIs, cIsNot, isNon, cIn, cNin, cInS, cNinS, cInQ, flatT, eqF, lenT, lenQ, lenS, seqT, isiF, isiInt, isiBool, isiStr, isiTup, intF, subT, addT, addI, setNs, uYes, lim, lcF, lcGo, wipeE, FL.iRng1, FL.iRng2, rngOk, sumF, intsT, u__law_many, g, φ__law_power, u__law_power, rg0, rg1, rg2, rg3, rh1, rh2]
    · refine ⟨.non, fun dr => ?_, fun dr => ?_, .inl rfl⟩
      · simp [runF, sSeq, sIf, sRet, sSet, sNil, sAug, sTup, sPar, sFor, forGo, bN, bN2, iSeq, eVar, eC, eTup, eLst, aNil, aCons, eBin, tB, eChain, eAnd, eOr, eNot, bAnd, bOr, bNot, eIf, eCall, eB, eIx, ixT, L2.atI, L2.ixN, cEqX, cNeX, cEq, cNe, eqT, cLe, cGe, cGt, cLt, cLtI, cLtS, cIs, cIsNot, isNon, cIn, cNin, cInS, cNinS, cInQ, flatT, eqF, lenT, lenQ, lenS, seqT, isiF, isiInt, isiBool, isiStr, isiTup, intF, subT, addT, addI, setNs, uYes, lim, lcF, lcGo, wipeE, FL.iRng1, FL.iRng2, rngOk, sumF, intsT, u_how_many_values, h, φ_count_rows, u_count_rows, rg0, rg1, rg2, rg3, rh1, rh2]
      · simp [runF, sSeq, sIf, sRet, sSet, sNil, sAug, sTup, sPar, sFor, forGo, bN, bN2, iSeq, eVar, eC, eTup, eLst, aNil, aCons, eBin, tB, eChain, eAnd, eOr, eNot, bAnd, bOr, bNot, eIf, eCall, eB, eIx, ixT, L2.atI, L2.ixN, cEqX, cNeX, cEq, cNe, eqT, cLe, cGe, cGt, cLt, cLtI, cLtS, cIs, cIsNot, isNon, cIn, cNin, cInS, cNinS, cInQ, flatT, eqF, lenT, lenQ, lenS, seqT, isiF, isiInt, isiBool, isiStr, isiTup, intF, subT, addT, addI, setNs, uYes, lim, lcF, lcGo, wipeE, FL.iRng1, FL.iRng2, rngOk, sumF, intsT, u__law_many, g, φ__law_power, u__law_power, rg0, rg1, rg2, rg3, rh1, rh2]
  · have m1 := mul_one h1 (by omega)
    have m2 := mul_two h1 (by omega) h1 (by omega)
    have m3 := mul_le h1 h2 h1 h2
    have m4 := mul_three h1 (by omega)
    have kp : (0 : Int) < k := by omega
    rcases hq with ⟨rfl, rfl⟩ | ⟨rfl, rfl⟩ | ⟨rfl, rfl⟩ | ⟨rfl, rfl⟩ | ⟨rfl, rfl⟩ | ⟨rfl, rfl⟩
    · refine ⟨.non, fun dr => ?_, fun dr => ?_, .inl rfl⟩
      · simp [runF, sSeq, sIf, sRet, sSet, sNil, sAug, sTup, sPar, sFor, forGo, bN, bN2, iSeq, eVar, eC, eTup, eLst, aNil, aCons, eBin, tB, eChain, eAnd, eOr, eNot, bAnd, bOr, bNot, eIf, eCall, eB, eIx, ixT, L2.atI, L2.ixN, cEqX, cNeX, cEq, cNe, eqT, cLe, cGe, cGt, cLt, cLtI, cLtS, cIs, cIsNot, isNon, cIn, cNin, cInS, cNinS, cInQ, flatT, eqF, lenT, lenQ, lenS, seqT, isiF, isiInt, isiBool, isiStr, isiTup, intF, subT, addT, addI, setNs, uYes, lim, lcF, lcGo, wipeE, FL.iRng1, FL.iRng2, rngOk, sumF, intsT, u_how_many_values, h, φ_count_rows, u_count_rows, rg0, rg1, rg2, rg3, rh1, rh2, m1, m2, m4, kp]
      · simp [runF, sSeq, sIf, sRet, sSet, sNil, sAug, sTup, sPar, sFor, forGo, bN, bN2, iSeq, eVar, eC, eTup, eLst, aNil, aCons, eBin, tB, eChain, eAnd, eOr, eNot, bAnd, bOr, bNot, eIf, eCall, eB, eIx, ixT, L2.atI, L2.ixN, cEqX, cNeX, cEq, cNe, eqT, cLe, cGe, cGt, cLt, cLtI, cLtS, cIs, cIsNot, isNon, cIn, cNin, cInS, cNinS, cInQ, flatT, eqF, lenT, lenQ, lenS, seqT, isiF, isiInt, isiBool, isiStr, isiTup, intF, subT, addT, addI, setNs, uYes, lim, lcF, lcGo, wipeE, FL.iRng1, FL.iRng2, rngOk, sumF, intsT, u__law_many, g, φ__law_power, u__law_power, rg0, rg1, rg2, rg3, rh1, rh2, m1, m2, m4, kp]
    · refine ⟨.int (1 + k + k * k), fun dr => ?_, fun dr => ?_, .inr ⟨_, rfl, by omega, by omega⟩⟩
      · simp [runF, sSeq, sIf, sRet, sSet, sNil, sAug, sTup, sPar, sFor, forGo, bN, bN2, iSeq, eVar, eC, eTup, eLst, aNil, aCons, eBin, tB, eChain, eAnd, eOr, eNot, bAnd, bOr, bNot, eIf, eCall, eB, eIx, ixT, L2.atI, L2.ixN, cEqX, cNeX, cEq, cNe, eqT, cLe, cGe, cGt, cLt, cLtI, cLtS, cIs, cIsNot, isNon, cIn, cNin, cInS, cNinS, cInQ, flatT, eqF, lenT, lenQ, lenS, seqT, isiF, isiInt, isiBool, isiStr, isiTup, intF, subT, addT, addI, setNs, uYes, lim, lcF, lcGo, wipeE, FL.iRng1, FL.iRng2, rngOk, sumF, intsT, u_how_many_values, h, φ_count_rows, u_count_rows, rg0, rg1, rg2, rg3, rh1, rh2, m1, m2, m4, kp]
        try omega
      · simp [runF, sSeq, sIf, sRet, sSet, sNil, sAug, sTup, sPar, sFor, forGo, bN, bN2, iSeq, eVar, eC, eTup, eLst, aNil, aCons, eBin, tB, eChain, eAnd, eOr, eNot, bAnd, bOr, bNot, eIf, eCall, eB, eIx, ixT, L2.atI, L2.ixN, cEqX, cNeX, cEq, cNe, eqT, cLe, cGe, cGt, cLt, cLtI, cLtS, cIs, cIsNot, isNon, cIn, cNin, cInS, cNinS, cInQ, flatT, eqF, lenT, lenQ, lenS, seqT, isiF, isiInt, isiBool, isiStr, isiTup, intF, subT, addT, addI, setNs, uYes, lim, lcF, lcGo, wipeE, FL.iRng1, FL.iRng2, rngOk, sumF, intsT, u__law_many, g, φ__law_power, u__law_power, rg0, rg1, rg2, rg3, rh1, rh2, m1, m2, m4, kp]
        try omega
    · refine ⟨.int 1, fun dr => ?_, fun dr => ?_, .inr ⟨1, rfl, by omega, by omega⟩⟩
      · simp [runF, sSeq, sIf, sRet, sSet, sNil, sAug, sTup, sPar, sFor, forGo, bN, bN2, iSeq, eVar, eC, eTup, eLst, aNil, aCons, eBin, tB, eChain, eAnd, eOr, eNot, bAnd, bOr, bNot, eIf, eCall, eB, eIx, ixT, L2.atI, L2.ixN, cEqX, cNeX, cEq, cNe, eqT, cLe, cGe, cGt, cLt, cLtI, cLtS, cIs, cIsNot, isNon, cIn, cNin, cInS, cNinS, cInQ, flatT, eqF, lenT, lenQ, lenS, seqT, isiF, isiInt, isiBool, isiStr, isiTup, intF, subT, addT, addI, setNs, uYes, lim, lcF, lcGo, wipeE, FL.iRng1, FL.iRng2, rngOk, sumF, intsT, u_how_many_values, h, φ_count_rows, u_count_rows, rg0, rg1, rg2, rg3, rh1, rh2, m1, m2, m4, kp]
      · simp [runF, sSeq, sIf, sRet, sSet, sNil, sAug, sTup, sPar, sFor, forGo, bN, bN2, iSeq, eVar, eC, eTup, eLst, aNil, aCons, eBin, tB, eChain, eAnd, eOr, eNot, bAnd, bOr, bNot, eIf, eCall, eB, eIx, ixT, L2.atI, L2.ixN, cEqX, cNeX, cEq, cNe, eqT, cLe, cGe, cGt, cLt, cLtI, cLtS, cIs, cIsNot, isNon, cIn, cNin, cInS, cNinS, cInQ, flatT, eqF, lenT, lenQ, lenS, seqT, isiF, isiInt, isiBool, isiStr, isiTup, intF, subT, addT, addI, setNs, uYes, lim, lcF, lcGo, wipeE, FL.iRng1, FL.iRng2, rngOk, sumF, intsT, u__law_many, g, φ__law_power, u__law_power, rg0, rg1, rg2, rg3, rh1, rh2, m1, m2, m4, kp]
    · refine ⟨.non, fun dr => ?_, fun dr => ?_, .inl rfl⟩
      · simp [runF, sSeq, sIf, sRet, sSet, sNil, sAug, sTup, sPar, sFor, forGo, bN, bN2, iSeq, eVar, eC, eTup, eLst, aNil, aCons, eBin, tB, eChain, eAnd, eOr, eNot, bAnd, bOr, bNot, eIf, eCall, eB, eIx, ixT, L2.atI, L2.ixN, cEqX, cNeX, cEq, cNe, eqT, cLe, cGe, cGt, cLt, cLtI, cLtS, cIs, cIsNot, isNon, cIn, cNin, cInS, cNinS, cInQ, flatT, eqF, lenT, lenQ, lenS, seqT, isiF, isiInt, isiBool, isiStr, isiTup, intF, subT, addT, addI, setNs, uYes, lim, lcF, lcGo, wipeE, FL.iRng1, FL.iRng2, rngOk, sumF, intsT, u_how_many_values, h, φ_count_rows, u_count_rows, rg0, rg1, rg2, rg3, rh1, rh2, m1, m2, m4, kp]
      · simp [runF, sSeq, sIf, sRet, sSet, sNil, sAug, sTup, sPar, sFor, forGo, bN, bN2, iSeq, eVar, eC, eTup, eLst, aNil, aCons, eBin, tB, eChain, eAnd, eOr, eNot, bAnd, bOr, bNot, eIf, eCall, eB, eIx, ixT, L2.atI, L2.ixN, cEqX, cNeX, cEq, cNe, eqT, cLe, cGe, cGt, cLt, cLtI, cLtS, cIs, cIsNot, isNon, cIn, cNin, cInS, cNinS, cInQ, flatT, eqF, lenT, lenQ, lenS, seqT, isiF, isiInt, isiBool, isiStr, isiTup, intF, subT, addT, addI, setNs, uYes, lim, lcF, lcGo, wipeE, FL.iRng1, FL.iRng2, rngOk, sumF, intsT, u__law_many, g, φ__law_power, u__law_power, rg0, rg1, rg2, rg3, rh1, rh2, m1, m2, m4, kp]
    · refine ⟨.int (k + k * k), fun dr => ?_, fun dr => ?_, .inr ⟨_, rfl, by omega, by omega⟩⟩
      · simp [runF, sSeq, sIf, sRet, sSet, sNil, sAug, sTup, sPar, sFor, forGo, bN, bN2, iSeq, eVar, eC, eTup, eLst, aNil, aCons, eBin, tB, eChain, eAnd, eOr, eNot, bAnd, bOr, bNot, eIf, eCall, eB, eIx, ixT, L2.atI, L2.ixN, cEqX, cNeX, cEq, cNe, eqT, cLe, cGe, cGt, cLt, cLtI, cLtS, cIs, cIsNot, isNon, cIn, cNin, cInS, cNinS, cInQ, flatT, eqF, lenT, lenQ, lenS, seqT, isiF, isiInt, isiBool, isiStr, isiTup, intF, subT, addT, addI, setNs, uYes, lim, lcF, lcGo, wipeE, FL.iRng1, FL.iRng2, rngOk, sumF, intsT, u_how_many_values, h, φ_count_rows, u_count_rows, rg0, rg1, rg2, rg3, rh1, rh2, m1, m2, m4, kp]
        try omega
      · simp [runF, sSeq, sIf, sRet, sSet, sNil, sAug, sTup, sPar, sFor, forGo, bN, bN2, iSeq, eVar, eC, eTup, eLst, aNil, aCons, eBin, tB, eChain, eAnd, eOr, eNot, bAnd, bOr, bNot, eIf, eCall, eB, eIx, ixT, L2.atI, L2.ixN, cEqX, cNeX, cEq, cNe, eqT, cLe, cGe, cGt, cLt, cLtI, cLtS, cIs, cIsNot, isNon, cIn, cNin, cInS, cNinS, cInQ, flatT, eqF, lenT, lenQ, lenS, seqT, isiF, isiInt, isiBool, isiStr, isiTup, intF, subT, addT, addI, setNs, uYes, lim, lcF, lcGo, wipeE, FL.iRng1, FL.iRng2, rngOk, sumF, intsT, u__law_many, g, φ__law_power, u__law_power, rg0, rg1, rg2, rg3, rh1, rh2, m1, m2, m4, kp]
        try omega
    · refine ⟨.int k, fun dr => ?_, fun dr => ?_, .inr ⟨_, rfl, by omega, by omega⟩⟩
      · simp [runF, sSeq, sIf, sRet, sSet, sNil, sAug, sTup, sPar, sFor, forGo, bN, bN2, iSeq, eVar, eC, eTup, eLst, aNil, aCons, eBin, tB, eChain, eAnd, eOr, eNot, bAnd, bOr, bNot, eIf, eCall, eB, eIx, ixT, L2.atI, L2.ixN, cEqX, cNeX, cEq, cNe, eqT, cLe, cGe, cGt, cLt, cLtI, cLtS, cIs, cIsNot, isNon, cIn, cNin, cInS, cNinS, cInQ, flatT, eqF, lenT, lenQ, lenS, seqT, isiF, isiInt, isiBool, isiStr, isiTup, intF, subT, addT, addI, setNs, uYes, lim, lcF, lcGo, wipeE, FL.iRng1, FL.iRng2, rngOk, sumF, intsT, u_how_many_values, h, φ_count_rows, u_count_rows, rg0, rg1, rg2, rg3, rh1, rh2, m1, m2, m4, kp]
        try omega
      · simp [runF, sSeq, sIf, sRet, sSet, sNil, sAug, sTup, sPar, sFor, forGo, bN, bN2, iSeq, eVar, eC, eTup, eLst, aNil, aCons, eBin, tB, eChain, eAnd, eOr, eNot, bAnd, bOr, bNot, eIf, eCall, eB, eIx, ixT, L2.atI, L2.ixN, cEqX, cNeX, cEq, cNe, eqT, cLe, cGe, cGt, cLt, cLtI, cLtS, cIs, cIsNot, isNon, cIn, cNin, cInS, cNinS, cInQ, flatT, eqF, lenT, lenQ, lenS, seqT, isiF, isiInt, isiBool, isiStr, isiTup, intF, subT, addT, addI, setNs, uYes, lim, lcF, lcGo, wipeE, FL.iRng1, FL.iRng2, rngOk, sumF, intsT, u__law_many, g, φ__law_power, u__law_power, rg0, rg1, rg2, rg3, rh1, rh2, m1, m2, m4, kp]
        try omega
end
def hmB (t : T) : T := match φn_how_many_values 1 [t] [] with | some (x, _) => x | none => .bl true
def okC : T → Bool
  | .non => true
  | .int m => 1 ≤ m && m ≤ 8
  | _ => false
theorem okC_cn {x : T} (h : okC x = true) : Cn 8 x := by
  cases x <;> first | (cases h; done) | skip
  · exact .inl rfl
  · rename_i m
    simp [okC] at h
    exact .inr ⟨m, rfl, h.1, h.2⟩
theorem hm_base {n : Nat} : ∀ t ∈ K01.base, HM (n + 1) t (hmB t) ∧ Cn 8 (hmB t) := by
  intro t ht
  refine ⟨⟨fun dr => ?_, fun dr => ?_⟩, okC_cn ?_⟩
  · exact of_map (f := fun t => φn_how_many_values (n + 1) [t] dr) (g := fun t => some (hmB t, dr)) (by kernel_rfl) t ht
  · exact of_map (f := fun t => φn__law_many (n + 1) [t] dr) (g := fun t => some (hmB t, dr)) (by kernel_rfl) t ht
  · exact of_map (f := fun t => okC (hmB t)) (g := fun t => true) (by kernel_rfl) t ht
theorem hm_step {k n : Nat} {B : Int} (hB1 : 8 ≤ B) (hB : B ≤ 10000) (ih : ∀ t, D k t → ∃ x, HM n t x ∧ Cn B x) : ∀ t, D (k + 1) t → ∃ x, HM (n + 1) t x ∧ Cn (1 + B + B * B) x := by
  intro t ht
  have b0 : 0 ≤ B * B := Int.mul_nonneg (by omega) (by omega)
  cases ht with
  | base h => exact ⟨_, (hm_base t h).1, (hm_base (n := n) t h).2.mono (by omega)⟩
  | maybe h =>
    obtain ⟨x, ⟨h1, h2⟩, hx⟩ := ih _ h
    obtain ⟨y, g1, g2, hy⟩ := hm_maybe h1 h2 hx
    exact ⟨y, ⟨g1, g2⟩, hy.mono (by omega)⟩
  | row0 => exact ⟨_, hm_row0, .inr ⟨1, rfl, by omega, by omega⟩⟩
  | row1 h =>
    obtain ⟨x, ⟨h1, h2⟩, hx⟩ := ih _ h
    obtain ⟨y, g1, g2, hy⟩ := hm_row1 h1 h2 hx hB
    exact ⟨y, ⟨g1, g2⟩, hy.mono (by omega)⟩
  | row2 h g =>
    obtain ⟨x, ⟨h1, h2⟩, hx⟩ := ih _ h
    obtain ⟨x', ⟨h1', h2'⟩, hx'⟩ := ih _ g
    obtain ⟨y, g1, g2, hy⟩ := hm_row2 h1 h2 hx h1' h2' hx' hB
    exact ⟨y, ⟨g1, g2⟩, hy.mono (by omega)⟩
  | many h q =>
    obtain ⟨x, ⟨h1, h2⟩, hx⟩ := ih _ h
    obtain ⟨y, g1, g2, hy⟩ := hm_many q h1 h2 hx hB (by omega)
    exact ⟨y, ⟨g1, g2⟩, hy⟩
  | case1 h =>
    obtain ⟨x, ⟨h1, h2⟩, hx⟩ := ih _ h
    obtain ⟨y, g1, g2, hy⟩ := hm_case1 h1 h2 hx hB
    exact ⟨y, ⟨g1, g2⟩, hy.mono (by omega)⟩
  | case2 h g =>
    obtain ⟨x, ⟨h1, h2⟩, hx⟩ := ih _ h
    obtain ⟨x', ⟨h1', h2'⟩, hx'⟩ := ih _ g
    obtain ⟨y, g1, g2, hy⟩ := hm_case2 h1 h2 hx h1' h2' hx' hB
    have : B * 1 ≤ B * B := Int.mul_le_mul_of_nonneg_left (by omega) (by omega)
    exact ⟨y, ⟨g1, g2⟩, hy.mono (by omega)⟩
theorem hm_ok {t : T} (h : D 2 t) : ∃ x, (∀ dr, φ_how_many_values [t] dr = some (x, dr)) ∧ (∀ dr, φ__law_many [t] dr = some (x, dr)) ∧ Cn 10000 x := by
  obtain ⟨x, ⟨h1, h2⟩, hx⟩ := hm_step (k := 1) (n := 11) (B := 73) (by decide) (by decide) (fun t ht => by
    exact hm_step (k := 0) (n := 10) (B := 8) (by decide) (by decide) (fun t ht => ⟨_, hm_base (n := 9) t ht.zero⟩) t ht) t h
  exact ⟨x, h1, h2, hx.mono (by decide)⟩
end K01
set_option linter.all false
set_option maxRecDepth 100000
set_option maxHeartbeats 4000000
/-! Lots: rows of things. -/
namespace K01
open FL
theorem lcGo_map {b : BF} {f : EF} {envw : FL.Env} {g : T → T} : ∀ (vs : List T), (∀ v ∈ vs, ∃ env1, b v envw = some env1 ∧ ∀ dr, f env1 dr = some (g v, dr)) → ∀ dr, lcGo b uYes f envw vs dr = some (vs.map g, dr)
  | [], _, dr => rfl
  | v :: vs, h, dr => by
    obtain ⟨env1, h1, h2⟩ := h v List.mem_cons_self
    have ih := lcGo_map vs (fun v hv => h v (List.mem_cons_of_mem _ hv)) dr
    unfold lcGo
    rw [h1]
    dsimp only [uYes]
    rw [h2 dr]
    dsimp only
    rw [ih]
    rfl
theorem lcF_map {fi : AF} {b : BF} {f : EF} {own : List Nat} {env : FL.Env} {g : T → T} {vs : List T} {dr : List T} (hi : fi env dr = some (vs, dr)) (h : ∀ v ∈ vs, ∃ env1, b v (wipeE env own) = some env1 ∧ ∀ dr, f env1 dr = some (g v, dr)) (hl : vs.length ≤ lim) :
    lcF fi b uYes f own env dr = some (.lst (vs.map g), dr) := by
  unfold lcF
  rw [hi]
  dsimp only
  rw [lcGo_map vs h dr]
  dsimp only
  rw [if_pos (by rw [List.length_map]; exact hl)]
theorem cutL_take {α : Type} (xs : List α) (k : Nat) : cutL xs none (some (k : Int)) = xs.take k := by
  unfold cutL
  have h1 : HT.sIx xs.length 0 none = 0 := rfl
  have h2 : HT.sIx xs.length xs.length (some (k : Int)) = min k xs.length := by
    exact HT.sIx_nat _ _ _
  rw [h1, h2, List.drop_zero, Nat.sub_zero, List.take_eq_take_iff]
  omega
theorem lsts_map {α : Type} (g : α → List T) : ∀ l : List α, lstsT (l.map fun a => T.lst (g a)) = some (l.map g)
  | [] => rfl
  | a :: l => by
    show (lstsT (l.map fun a => T.lst (g a))).map (g a :: ·) = _
    rw [lsts_map g l]
    rfl
theorem sumL_map {α : Type} (g : α → List T) (l : List α) (h : (l.map g).flatten.length ≤ lim) : sumLF [.lst (l.map fun a => T.lst (g a)), .lst []] = some (.lst (l.map g).flatten) := by
  unfold sumLF
  dsimp only
  rw [lsts_map]
  dsimp only
  rw [if_pos (by simpa using h)]
  rfl
def ext1 (vs : List T) (row : List T) : List (List T) := vs.map fun x => row ++ [x]
def stp (vs : List T) (cap : Nat) (layer : List (List T)) : List (List T) := ((layer.map (ext1 vs)).flatten).take cap
theorem flat_le {α β : Type} (g : α → List β) (k : Nat) : ∀ l : List α, (∀ a ∈ l, (g a).length ≤ k) → (l.map g).flatten.length ≤ l.length * k
  | [], _ => by simp
  | a :: l, h => by
    have h1 := h a List.mem_cons_self
    have h2 := flat_le g k l fun a ha => h a (List.mem_cons_of_mem _ ha)
    simp only [List.map_cons, List.flatten_cons, List.length_append, List.length_cons, Nat.succ_mul]
    omega
theorem flat_tup (vs : List T) : ∀ layer : List (List T), (layer.map fun row => (ext1 vs row).map T.tup).flatten = ((layer.map (ext1 vs)).flatten).map T.tup
  | [] => rfl
  | a :: l => by simp only [List.map_cons, List.flatten_cons, List.map_append, flat_tup vs l]
/-- the next layer -/
abbrev eLayer (L V C a b : Nat) : EF := eSlHi (eB sumLF (aCons (lcF (iSeq (eVar L)) (bN a) uYes (lcF (iSeq (eVar V)) (bN b) uYes (eBin addT (eVar a) (eTup (aCons (eVar b) aNil))) [b]) [a]) (aCons (eLst aNil) aNil))) (eVar C)
theorem addT_tup {x y : List T} (h : x.length + y.length ≤ lim) : addT (.tup x) (.tup y) = some (.tup (x ++ y)) := by
  unfold addT
  dsimp only
  rw [if_pos h]
theorem layer_ok {vs : List T} {cap : Nat} {layer : List (List T)} {L V C a b : Nat} {env : FL.Env} (dr : List T) (hL : env[L]? = some (some (.lst (layer.map T.tup)))) (hV : env[V]? = some (some (.lst vs))) (hC : env[C]? = some (some (.int (cap : Int))))
    (ha : a < env.length) (hb : b < env.length) (hab : a ≠ b) (hVa : V ≠ a) (hVb : V ≠ b) (hLa : L ≠ a) (hcap : cap ≤ 100) (hv : vs.length ≤ 100) (hl : layer.length ≤ 100) (hr : ∀ row ∈ layer, row.length ≤ 100) :
    eLayer L V C a b env dr = some (.lst ((stp vs cap layer).map T.tup), dr) := by
  have inner : ∀ row ∈ layer, ∀ dr, lcF (iSeq (eVar V)) (bN b) uYes (eBin addT (eVar a) (eTup (aCons (eVar b) aNil))) [b] ((wipeE env [a]).set a (some (.tup row))) dr = some (.lst ((ext1 vs row).map T.tup), dr) := by
    intro row hrow dr
    have h1 : iSeq (eVar V) ((wipeE env [a]).set a (some (.tup row))) dr = some (vs, dr) := by
      unfold iSeq eVar wipeE wipeE
      rw [List.getElem?_set_ne (Ne.symm hVa), List.getElem?_set_ne (Ne.symm hVa), hV]
    rw [lcF_map (b := bN b) (f := eBin addT (eVar a) (eTup (aCons (eVar b) aNil))) (own := [b]) (g := fun x => .tup (row ++ [x])) h1 (fun v hv' => ⟨_, rfl, fun dr => ?_⟩) (Nat.le_trans hv (by decide))]
    · unfold ext1; rw [List.map_map]; rfl
    · have e1 : eVar a ((wipeE ((wipeE env [a]).set a (some (.tup row))) [b]).set b (some v)) dr = some (.tup row, dr) := by
        unfold eVar wipeE wipeE wipeE wipeE
        rw [List.getElem?_set_ne (Ne.symm hab), List.getElem?_set_ne (Ne.symm hab), List.getElem?_set_self (by rw [List.length_set]; exact ha)]
      have e2 : eVar b ((wipeE ((wipeE env [a]).set a (some (.tup row))) [b]).set b (some v)) dr = some (v, dr) := by
        unfold eVar wipeE wipeE wipeE wipeE
        rw [List.getElem?_set_self (by simp only [List.length_set]; exact hb)]
      unfold eBin
      rw [e1]
      dsimp only
      have e3 : eTup (aCons (eVar b) aNil) ((wipeE ((wipeE env [a]).set a (some (.tup row))) [b]).set b (some v)) dr = some (.tup [v], dr) := by
        unfold eTup aCons aNil
        rw [e2]
        dsimp only
        rw [if_pos (show [v].length ≤ lim from Nat.le_of_ble_eq_true rfl)]
      rw [e3]
      dsimp only
      rw [addT_tup (by have := hr row hrow; show row.length + 1 ≤ 1000000; omega)]
  have h1 : iSeq (eVar L) env dr = some (layer.map T.tup, dr) := by
    unfold iSeq eVar
    rw [hL]
  have outer : lcF (iSeq (eVar L)) (bN a) uYes (lcF (iSeq (eVar V)) (bN b) uYes (eBin addT (eVar a) (eTup (aCons (eVar b) aNil))) [b]) [a] env dr = some (.lst (layer.map fun row => T.lst ((ext1 vs row).map T.tup)), dr) := by
    rw [lcF_map (b := bN a) (own := [a]) (g := fun t => match t with | .tup row => .lst ((ext1 vs row).map T.tup) | _ => .non) h1 (fun v hv' => ?_) (by rw [List.length_map]; exact Nat.le_trans hl (by decide))]
    · rw [List.map_map]; rfl
    · obtain ⟨row, hrow, rfl⟩ := List.mem_map.mp hv'
      exact ⟨_, rfl, inner row hrow⟩
  have hlen : (layer.map fun row => (ext1 vs row).map T.tup).flatten.length ≤ lim := by
    have := flat_le (fun row => (ext1 vs row).map T.tup) 100 layer fun row _ => by rw [List.length_map]; unfold ext1; rw [List.length_map]; exact hv
    have h2 : layer.length * 100 ≤ 100 * 100 := Nat.mul_le_mul_right _ hl
    exact Nat.le_trans this (Nat.le_trans h2 (by decide))
  show eSlHi _ (eVar C) env dr = _
  unfold eSlHi eB
  have hA : aCons (lcF (iSeq (eVar L)) (bN a) uYes (lcF (iSeq (eVar V)) (bN b) uYes (eBin addT (eVar a) (eTup (aCons (eVar b) aNil))) [b]) [a]) (aCons (eLst aNil) aNil) env dr = some ([.lst (layer.map fun row => T.lst ((ext1 vs row).map T.tup)), .lst []], dr) := by
    exact aCons_eq outer rfl
  rw [hA]
  dsimp only
  rw [sumL_map _ _ hlen]
  dsimp only
  have hCe : eVar C env dr = some (.int (cap : Int), dr) := by unfold eVar; rw [hC]
  rw [hCe]
  dsimp only
  show (match slT (.lst _) none (some (cap : Int)) with | none => none | some t => some (t, dr)) = _
  unfold slT
  dsimp only
  rw [cutL_take, flat_tup, ← List.map_take]
  rfl
end K01
set_option linter.all false
set_option maxRecDepth 100000
set_option maxHeartbeats 4000000
namespace K01
open FL
/-! ### _law_lots -/
abbrev lotsBody : SF := sSeq (sIf (tB (eBin cGe (eVar 6) (eVar 1))) (sSet 4 (eBin addT (eVar 4) (eVar 5))) sNil) (sSet 5 (eLayer 5 0 3 7 8))
abbrev lE (vs : List T) (a : Int) (m : T) (cap : Nat) (fs layer : List (List T)) (s6 : Option T) : FL.Env := [some (.lst vs), some (.int a), some m, some (.int (cap : Int)), some (.lst (fs.map T.tup)), some (.lst (layer.map T.tup)), s6, none, none]
theorem stp_len {vs : List T} {cap : Nat} {layer : List (List T)} : (stp vs cap layer).length ≤ cap := by
  unfold stp
  rw [List.length_take]
  omega
theorem stp_mem {vs : List T} {cap : Nat} {layer : List (List T)} {row : List T} (h : row ∈ stp vs cap layer) : ∃ r0 ∈ layer, ∃ x ∈ vs, row = r0 ++ [x] := by
  have h1 := List.mem_of_mem_take h
  obtain ⟨l, hl, hr⟩ := List.mem_flatten.mp h1
  obtain ⟨r0, h0, rfl⟩ := List.mem_map.mp hl
  obtain ⟨x, hx, rfl⟩ := List.mem_map.mp hr
  exact ⟨r0, h0, x, hx, rfl⟩
theorem addT_lst {x y : List T} (h : x.length + y.length ≤ lim) : addT (.lst x) (.lst y) = some (.lst (x ++ y)) := by
  unfold addT
  dsimp only
  rw [if_pos h]
theorem lots_step {vs : List T} {a i : Int} {m : T} {cap : Nat} {fs layer : List (List T)} (dr : List T) (hcap : cap ≤ 100) (hv : vs.length ≤ 100) (hl : layer.length ≤ 100) (hr : ∀ row ∈ layer, row.length ≤ 100) (hf : fs.length ≤ 1000) :
    lotsBody (lE vs a m cap fs layer (some (.int i))) dr = some (.nx (lE vs a m cap (if a ≤ i then fs ++ layer else fs) (stp vs cap layer) (some (.int i))), dr) := by
  have hlay : ∀ fs', eLayer 5 0 3 7 8 (lE vs a m cap fs' layer (some (.int i))) dr = some (.lst ((stp vs cap layer).map T.tup), dr) := fun fs' =>
    layer_ok (L := 5) (V := 0) (C := 3) (a := 7) (b := 8) dr rfl rfl rfl (by simp) (by simp) (by decide) (by decide) (by decide) (by decide) hcap hv hl hr
  by_cases h : a ≤ i
  · rw [if_pos h]
    refine sSeq_nx (env1 := lE vs a m cap (fs ++ layer) layer (some (.int i))) (dr1 := dr) (sIf_t (dr1 := dr) (tB_eq (eBin_eq rfl rfl ?_)) (sSet_eq (t := .lst ((fs ++ layer).map T.tup)) (eBin_eq rfl rfl ?_))) (sSet_eq (hlay _))
    · show some (T.bl (decide (a ≤ i))) = _
      rw [decide_eq_true h]
    · rw [addT_lst (by rw [List.length_map, List.length_map]; show _ ≤ 1000000; omega), List.map_append]
  · rw [if_neg h]
    refine sSeq_nx (env1 := lE vs a m cap fs layer (some (.int i))) (dr1 := dr) (sIf_f (dr1 := dr) (tB_eq (eBin_eq rfl rfl ?_)) rfl) (sSet_eq (hlay _))
    show some (T.bl (decide (a ≤ i))) = _
    rw [decide_eq_false h]
theorem rngL_succ (lo : Int) (n : Nat) : rngL lo (n + 1) = .int lo :: rngL (lo + 1) n := by
  unfold rngL
  rw [List.range_succ_eq_map, List.map_cons, List.map_map]
  have e1 : T.int (lo + ((0 : Nat) : Int)) = T.int lo := by simp
  have e2 : (List.range n).map ((fun (i : Nat) => T.int (lo + (i : Int))) ∘ Nat.succ) = (List.range n).map fun (i : Nat) => T.int (lo + 1 + (i : Int)) := List.map_congr_left fun j _ => by
    show T.int (lo + ((j + 1 : Nat) : Int)) = T.int (lo + 1 + (j : Int))
    congr 1
    omega
  rw [e1, e2]
theorem lots_go {vs : List T} {a : Int} {m : T} {cap : Nat} (hcap : cap ≤ 100) (hv : vs.length ≤ 100) : ∀ (n i : Nat) (fs layer : List (List T)) (s6 : Option T), i + n ≤ 4 → (∀ row ∈ layer, row.length = i ∧ ∀ x ∈ row, x ∈ vs) → layer.length ≤ 100 →
    (∀ row ∈ fs, a ≤ row.length ∧ row.length < i ∧ ∀ x ∈ row, x ∈ vs) → fs.length ≤ 100 * i → ∃ fs' layer' s6', (∀ dr, forGo (bN 6) lotsBody (rngL i n) (lE vs a m cap fs layer s6) dr = some (.nx (lE vs a m cap fs' layer' s6'), dr)) ∧ ∀ row ∈ fs', a ≤ row.length ∧ row.length < i + n ∧ ∀ x ∈ row, x ∈ vs
  | 0, i, fs, layer, s6, _, _, _, h, _ => ⟨fs, layer, s6, fun dr => rfl, h⟩
  | n + 1, i, fs, layer, s6, hi, h1, h2, h3, h4 => by
    have step := fun dr => lots_step (vs := vs) (a := a) (i := (i : Int)) (m := m) (cap := cap) (fs := fs) (layer := layer) dr hcap hv h2 (fun row hrow => by have := (h1 row hrow).1; omega) (by omega)
    obtain ⟨fs', layer', s6', g1, g2⟩ := lots_go hcap hv n (i + 1) (if a ≤ (i : Int) then fs ++ layer else fs) (stp vs cap layer) (some (.int (i : Int))) (by omega) (fun row hrow => by
        obtain ⟨r0, h0, x, hx, rfl⟩ := stp_mem hrow
        obtain ⟨e1, e2⟩ := h1 r0 h0
        refine ⟨by rw [List.length_append, e1]; rfl, fun y hy => ?_⟩
        rcases List.mem_append.mp hy with hy | hy
        · exact e2 y hy
        · rw [List.mem_singleton.mp hy]; exact hx) (Nat.le_trans stp_len hcap) (fun row hrow => by
        by_cases hai : a ≤ (i : Int)
        · rw [if_pos hai] at hrow
          rcases List.mem_append.mp hrow with hrow | hrow
          · obtain ⟨e1, e2, e3⟩ := h3 row hrow
            exact ⟨e1, by omega, e3⟩
          · obtain ⟨e1, e2⟩ := h1 row hrow
            exact ⟨by rw [e1]; exact hai, by omega, e2⟩
        · rw [if_neg hai] at hrow
          obtain ⟨e1, e2, e3⟩ := h3 row hrow
          exact ⟨e1, by omega, e3⟩) (by
        split
        · rw [List.length_append]; omega
        · omega)
    refine ⟨fs', layer', s6', fun dr => ?_, fun row hrow => ?_⟩
    · rw [rngL_succ]
      exact forGo_nx rfl (step dr) (by have := g1 dr; simpa using this)
    · obtain ⟨e1, e2, e3⟩ := g2 row hrow
      exact ⟨e1, by omega, e3⟩
/-- so many are allowed -/
def lenOk (l m : T) (n : Nat) : Prop := (∀ i, l = .int i → i ≤ (n : Int)) ∧ (∀ j, m = .int j → (n : Int) ≤ j) ∧ n ≤ 3
theorem lots_ok {vs : List T} {l m : T} (hq : (l, m) ∈ lm6) {cap : Nat} (hcap : cap ≤ 100) (hv : vs.length ≤ 100) :
    ∃ rows : List (List T), (∀ dr, φ__law_lots [.lst vs, l, m, .int (cap : Int)] dr = some (.lst (rows.map T.tup), dr)) ∧ (∀ row ∈ rows, lenOk l m row.length ∧ ∀ x ∈ row, x ∈ vs) ∧ rows.length ≤ cap := by
  have key : ∀ (a : Int) (n : Nat), n ≤ 4 → (∀ dr, FL.iRng1 (eBin addT (eB minF (aCons (eLst (aCons (eC (T.int 3)) (aCons (eIf (tB (eBin cIs (eVar 2) (eC T.non))) (eC (T.int 3)) (eVar 2)) aNil))) aNil)) (eC (T.int 1))) (lE vs a m cap [] [[]] none) dr = some (rngL 0 n, dr)) →
      ∃ rows : List (List T), (∀ dr, φ__law_lots [.lst vs, .int a, m, .int (cap : Int)] dr = some (.lst (rows.map T.tup), dr)) ∧ (∀ row ∈ rows, a ≤ row.length ∧ row.length < n ∧ ∀ x ∈ row, x ∈ vs) ∧ rows.length ≤ cap := by
    intro a n hn hi
    obtain ⟨fs', layer', s6', g1, g2⟩ := lots_go (vs := vs) (a := a) (m := m) (cap := cap) hcap hv n 0 [] [[]] none (by omega) (fun row hrow => by rw [List.mem_singleton.mp hrow]; exact ⟨rfl, fun x hx => (nomatch hx)⟩) (by decide) (fun row hrow => (nomatch hrow)) (by decide)
    refine ⟨fs'.take cap, fun dr => ?_, fun row hrow => ?_, by rw [List.length_take]; omega⟩
    · refine runF_rt ?_
      unfold u__law_lots
      refine sSeq_nx (env1 := lE vs a m cap [] [[]] none) (dr1 := dr) rfl ?_
      refine sSeq_nx (env1 := lE vs a m cap fs' layer' s6') (dr1 := dr) ?_ (sRet_eq ?_)
      · show (match FL.iRng1 _ _ dr with | none => none | some (ts, dr1) => forGo (bN 6) lotsBody ts _ dr1) = _
        rw [hi dr]
        exact g1 dr
      · show (match slT (.lst (fs'.map T.tup)) none (some (cap : Int)) with | none => none | some t => some (t, dr)) = _
        unfold slT
        dsimp only
        rw [cutL_take, ← List.map_take]
    · obtain ⟨e1, e2, e3⟩ := g2 row (List.mem_of_mem_take hrow)
      exact ⟨e1, by omega, e3⟩
  simp only [lm6, List.mem_cons, Prod.mk.injEq, List.not_mem_nil, or_false] at hq
  have fin : ∀ (a : Int) (n : Nat) (m' : T), m = m' → n ≤ 4 → (∀ j, m' = .int j → ((n : Int) ≤ j + 1)) → (∃ rows : List (List T), (∀ dr, φ__law_lots [.lst vs, .int a, m, .int (cap : Int)] dr = some (.lst (rows.map T.tup), dr)) ∧ (∀ row ∈ rows, a ≤ row.length ∧ row.length < n ∧ ∀ x ∈ row, x ∈ vs) ∧ rows.length ≤ cap) →
      ∃ rows : List (List T), (∀ dr, φ__law_lots [.lst vs, .int a, m, .int (cap : Int)] dr = some (.lst (rows.map T.tup), dr)) ∧ (∀ row ∈ rows, lenOk (.int a) m row.length ∧ ∀ x ∈ row, x ∈ vs) ∧ rows.length ≤ cap := by
    rintro a n m' rfl hn hj ⟨rows, h1, h2, h3⟩
    refine ⟨rows, h1, fun row hrow => ?_, h3⟩
    obtain ⟨e1, e2, e3⟩ := h2 row hrow
    exact ⟨⟨fun i hi => by cases hi; exact e1, fun j hj' => by have := hj j hj'; omega, by omega⟩, e3⟩
  rcases hq with ⟨rfl, rfl⟩ | ⟨rfl, rfl⟩ | ⟨rfl, rfl⟩ | ⟨rfl, rfl⟩ | ⟨rfl, rfl⟩ | ⟨rfl, rfl⟩
  · exact fin 0 4 _ rfl (by decide) (fun j hj => by cases hj) (key 0 4 (by decide) fun dr => rfl)
  · exact fin 0 3 _ rfl (by decide) (fun j hj => by cases hj; decide) (key 0 3 (by decide) fun dr => rfl)
  · exact fin 0 1 _ rfl (by decide) (fun j hj => by cases hj; decide) (key 0 1 (by decide) fun dr => rfl)
  · exact fin 1 4 _ rfl (by decide) (fun j hj => by cases hj) (key 1 4 (by decide) fun dr => rfl)
  · exact fin 1 3 _ rfl (by decide) (fun j hj => by cases hj; decide) (key 1 3 (by decide) fun dr => rfl)
  · exact fin 1 2 _ rfl (by decide) (fun j hj => by cases hj; decide) (key 1 2 (by decide) fun dr => rfl)
end K01
set_option linter.all false
set_option maxRecDepth 100000
set_option maxHeartbeats 4000000
namespace K01
open FL
abbrev kSome : T := .str [115, 111, 109, 101]
abbrev ivF (r : Phi) : Phi := runF 5 2 (u_is_value r)
section
variable {r : Phi} {a b l m v w : T} {dr : List T}
theorem iv_none : ivF r [.tup [kMaybe, a], .non] dr = some (.bl true, dr) := by
  simp [runF, sSeq, sIf, sRet, sSet, sNil, sAug, sTup, sPar, sFor, forGo, bN, bN2, iSeq, eVar, eC, eTup, eLst, aNil, aCons, eBin, tB, eChain, eAnd, eOr, eNot, bAnd, bOr, bNot, eIf, eCall, eB, eIx, ixT, L2.atI, L2.ixN, cEqX, cNeX, cEq, cNe, eqT, cLe, cGe, cGt, cLt, cLtI, cLtS, cIs, cIsNot, isNon, cIn, cNin, cInS, cNinS, cInQ, flatT, eqF, lenT, lenQ, lenS, seqT, isiF, isiInt, isiBool, isiStr, isiTup, intF, subT, addT, addI, setNs, uYes, lim, allG, allGo, lcF, lcGo, wipeE, FL.iRng1, FL.iRng2, rngOk, sumF, intsT, u_is_value]
theorem iv_some (h : ∀ dr, r [a, v] dr = some (.bl true, dr)) : ivF r [.tup [kMaybe, a], .tup [kSome, v]] dr = some (.bl true, dr) := by
  simp [runF, sSeq, sIf, sRet, sSet, sNil, sAug, sTup, sPar, sFor, forGo, bN, bN2, iSeq, eVar, eC, eTup, eLst, aNil, aCons, eBin, tB, eChain, eAnd, eOr, eNot, bAnd, bOr, bNot, eIf, eCall, eB, eIx, ixT, L2.atI, L2.ixN, cEqX, cNeX, cEq, cNe, eqT, cLe, cGe, cGt, cLt, cLtI, cLtS, cIs, cIsNot, isNon, cIn, cNin, cInS, cNinS, cInQ, flatT, eqF, lenT, lenQ, lenS, seqT, isiF, isiInt, isiBool, isiStr, isiTup, intF, subT, addT, addI, setNs, uYes, lim, allG, allGo, lcF, lcGo, wipeE, FL.iRng1, FL.iRng2, rngOk, sumF, intsT, u_is_value, φ_is_some, u_is_some, φ_is_pair, u_is_pair, φ_is_tuple_of, u_is_tuple_of, h]
theorem iv_row0 : ivF r [.tup [kRow, .tup []], .tup []] dr = some (.bl true, dr) := by
  simp [runF, sSeq, sIf, sRet, sSet, sNil, sAug, sTup, sPar, sFor, forGo, bN, bN2, iSeq, eVar, eC, eTup, eLst, aNil, aCons, eBin, tB, eChain, eAnd, eOr, eNot, bAnd, bOr, bNot, eIf, eCall, eB, eIx, ixT, L2.atI, L2.ixN, cEqX, cNeX, cEq, cNe, eqT, cLe, cGe, cGt, cLt, cLtI, cLtS, cIs, cIsNot, isNon, cIn, cNin, cInS, cNinS, cInQ, flatT, eqF, lenT, lenQ, lenS, seqT, isiF, isiInt, isiBool, isiStr, isiTup, intF, subT, addT, addI, setNs, uYes, lim, allG, allGo, lcF, lcGo, wipeE, FL.iRng1, FL.iRng2, rngOk, sumF, intsT, u_is_value, rg0]
theorem iv_row1 (h : ∀ dr, r [a, v] dr = some (.bl true, dr)) : ivF r [.tup [kRow, .tup [a]], .tup [v]] dr = some (.bl true, dr) := by
  simp [runF, sSeq, sIf, sRet, sSet, sNil, sAug, sTup, sPar, sFor, forGo, bN, bN2, iSeq, eVar, eC, eTup, eLst, aNil, aCons, eBin, tB, eChain, eAnd, eOr, eNot, bAnd, bOr, bNot, eIf, eCall, eB, eIx, ixT, L2.atI, L2.ixN, cEqX, cNeX, cEq, cNe, eqT, cLe, cGe, cGt, cLt, cLtI, cLtS, cIs, cIsNot, isNon, cIn, cNin, cInS, cNinS, cInQ, flatT, eqF, lenT, lenQ, lenS, seqT, isiF, isiInt, isiBool, isiStr, isiTup, intF, subT, addT, addI, setNs, uYes, lim, allG, allGo, lcF, lcGo, wipeE, FL.iRng1, FL.iRng2, rngOk, sumF, intsT, u_is_value, rg1, h]
theorem iv_row2 (h : ∀ dr, r [a, v] dr = some (.bl true, dr)) (g : ∀ dr, r [b, w] dr = some (.bl true, dr)) : ivF r [.tup [kRow, .tup [a, b]], .tup [v, w]] dr = some (.bl true, dr) := by
  simp [runF, sSeq, sIf, sRet, sSet, sNil, sAug, sTup, sPar, sFor, forGo, bN, bN2, iSeq, eVar, eC, eTup, eLst, aNil, aCons, eBin, tB, eChain, eAnd, eOr, eNot, bAnd, bOr, bNot, eIf, eCall, eB, eIx, ixT, L2.atI, L2.ixN, cEqX, cNeX, cEq, cNe, eqT, cLe, cGe, cGt, cLt, cLtI, cLtS, cIs, cIsNot, isNon, cIn, cNin, cInS, cNinS, cInQ, flatT, eqF, lenT, lenQ, lenS, seqT, isiF, isiInt, isiBool, isiStr, isiTup, intF, subT, addT, addI, setNs, uYes, lim, allG, allGo, lcF, lcGo, wipeE, FL.iRng1, FL.iRng2, rngOk, sumF, intsT, u_is_value, rg2, h, g]
theorem iv_case1 (h : ∀ dr, r [a, v] dr = some (.bl true, dr)) : ivF r [.tup [kCase, .tup [a]], .tup [.int 0, v]] dr = some (.bl true, dr) := by
  simp [runF, sSeq, sIf, sRet, sSet, sNil, sAug, sTup, sPar, sFor, forGo, bN, bN2, iSeq, eVar, eC, eTup, eLst, aNil, aCons, eBin, tB, eChain, eAnd, eOr, eNot, bAnd, bOr, bNot, eIf, eCall, eB, eIx, ixT, L2.atI, L2.ixN, cEqX, cNeX, cEq, cNe, eqT, cLe, cGe, cGt, cLt, cLtI, cLtS, cIs, cIsNot, isNon, cIn, cNin, cInS, cNinS, cInQ, flatT, eqF, lenT, lenQ, lenS, seqT, isiF, isiInt, isiBool, isiStr, isiTup, intF, subT, addT, addI, setNs, uYes, lim, allG, allGo, lcF, lcGo, wipeE, FL.iRng1, FL.iRng2, rngOk, sumF, intsT, u_is_value, φ_is_pair, u_is_pair, φ_is_tuple_of, u_is_tuple_of, φ_is_number, u_is_number, φ_is_integer, u_is_integer, h]
theorem iv_case20 (h : ∀ dr, r [a, v] dr = some (.bl true, dr)) : ivF r [.tup [kCase, .tup [a, b]], .tup [.int 0, v]] dr = some (.bl true, dr) := by
  simp [runF, sSeq, sIf, sRet, sSet, sNil, sAug, sTup, sPar, sFor, forGo, bN, bN2, iSeq, eVar, eC, eTup, eLst, aNil, aCons, eBin, tB, eChain, eAnd, eOr, eNot, bAnd, bOr, bNot, eIf, eCall, eB, eIx, ixT, L2.atI, L2.ixN, cEqX, cNeX, cEq, cNe, eqT, cLe, cGe, cGt, cLt, cLtI, cLtS, cIs, cIsNot, isNon, cIn, cNin, cInS, cNinS, cInQ, flatT, eqF, lenT, lenQ, lenS, seqT, isiF, isiInt, isiBool, isiStr, isiTup, intF, subT, addT, addI, setNs, uYes, lim, allG, allGo, lcF, lcGo, wipeE, FL.iRng1, FL.iRng2, rngOk, sumF, intsT, u_is_value, φ_is_pair, u_is_pair, φ_is_tuple_of, u_is_tuple_of, φ_is_number, u_is_number, φ_is_integer, u_is_integer, h]
theorem iv_case21 (h : ∀ dr, r [b, v] dr = some (.bl true, dr)) : ivF r [.tup [kCase, .tup [a, b]], .tup [.int 1, v]] dr = some (.bl true, dr) := by
  simp [runF, sSeq, sIf, sRet, sSet, sNil, sAug, sTup, sPar, sFor, forGo, bN, bN2, iSeq, eVar, eC, eTup, eLst, aNil, aCons, eBin, tB, eChain, eAnd, eOr, eNot, bAnd, bOr, bNot, eIf, eCall, eB, eIx, ixT, L2.atI, L2.ixN, cEqX, cNeX, cEq, cNe, eqT, cLe, cGe, cGt, cLt, cLtI, cLtS, cIs, cIsNot, isNon, cIn, cNin, cInS, cNinS, cInQ, flatT, eqF, lenT, lenQ, lenS, seqT, isiF, isiInt, isiBool, isiStr, isiTup, intF, subT, addT, addI, setNs, uYes, lim, allG, allGo, lcF, lcGo, wipeE, FL.iRng1, FL.iRng2, rngOk, sumF, intsT, u_is_value, φ_is_pair, u_is_pair, φ_is_tuple_of, u_is_tuple_of, φ_is_number, u_is_number, φ_is_integer, u_is_integer, h]
theorem allGo_t {b : BF} {f : EF} {envw : FL.Env} : ∀ vs : List T, (∀ v ∈ vs, ∃ env1, b v envw = some env1 ∧ ∀ dr, f env1 dr = some (.bl true, dr)) → ∀ dr, allGo b f envw vs dr = some (.bl true, dr)
  | [], _, dr => rfl
  | v :: vs, h, dr => by
    obtain ⟨env1, h1, h2⟩ := h v List.mem_cons_self
    unfold allGo
    rw [h1]
    dsimp only
    rw [h2 dr]
    exact allGo_t vs (fun v hv => h v (List.mem_cons_of_mem _ hv)) dr
theorem between_ok {n : Nat} (hq : (l, m) ∈ lm6) (hl : lenOk l m n) : φ_is_between [.int (n : Int), l, m] dr = some (.bl true, dr) := by
  simp only [lm6, List.mem_cons, Prod.mk.injEq, List.not_mem_nil, or_false] at hq
  obtain ⟨h1, h2, h3⟩ := hl
  have hn : n = 0 ∨ n = 1 ∨ n = 2 ∨ n = 3 := by omega
  rcases hq with ⟨rfl, rfl⟩ | ⟨rfl, rfl⟩ | ⟨rfl, rfl⟩ | ⟨rfl, rfl⟩ | ⟨rfl, rfl⟩ | ⟨rfl, rfl⟩ <;> have e1 := h1 _ rfl <;> (try have e2 := h2 _ rfl) <;>
  rcases hn with rfl | rfl | rfl | rfl <;> first
    | (exfalso; omega)
    | simp [runF, sSeq, sIf, sRet, sSet, sNil, sAug, sTup, sPar, sFor, forGo, bN, bN2, iSeq, eVar, eC, eTup, eLst, aNil, aCons, eBin, tB, eChain, eAnd, eOr, eNot, bAnd, bOr, bNot, eIf, eCall, eB, eIx, ixT, L2.atI, L2.ixN, cEqX, cNeX, cEq, cNe, eqT, cLe, cGe, cGt, cLt, cLtI, cLtS, cIs, cIsNot, isNon, cIn, cNin, cInS, cNinS, cInQ, flatT, eqF, lenT, lenQ, lenS, seqT, isiF, isiInt, isiBool, isiStr, isiTup, intF, subT, addT, addI, setNs, uYes, lim, allG, allGo, lcF, lcGo, wipeE, FL.iRng1, FL.iRng2, rngOk, sumF, intsT, φ_is_between, u_is_between]
theorem iv_many {vs : List T} (hq : (l, m) ∈ lm6) (hl : lenOk l m vs.length) (h : ∀ v ∈ vs, ∀ dr, r [a, v] dr = some (.bl true, dr)) : ivF r [.tup [kMany, a, l, m], .tup vs] dr = some (.bl true, dr) := by
  have hb : ∀ dr, φ_is_between [.int (vs.length : Int), l, m] dr = some (.bl true, dr) := fun dr => between_ok hq hl
  have hg : ∀ s2 dr, allG (iSeq (eVar 1)) (bN 4) (eCall 2 r (aCons (eIx (eVar 0) (eC (T.int 1))) (aCons (eVar 4) aNil))) [4] [some (.tup [kMany, a, l, m]), some (.tup vs), s2, none, none] dr = some (.bl true, dr) := fun s2 dr => by
    unfold allG
    show (match some (vs, dr) with | none => none | some (ts, dr1) => allGo _ _ _ ts dr1) = _
    refine allGo_t (b := bN 4) (f := eCall 2 r (aCons (eIx (eVar 0) (eC (T.int 1))) (aCons (eVar 4) aNil))) vs (fun v hv => ⟨_, rfl, fun dr => ?_⟩) dr
    exact eCall_eq (ts := [a, v]) rfl rfl (h v hv dr)
  unfold ivF runF u_is_value
  generalize hF : allG (iSeq (eVar 1)) (bN 4) (eCall 2 r (aCons (eIx (eVar 0) (eC (T.int 1))) (aCons (eVar 4) aNil))) [4] = F at hg ⊢
  simp [runF, sSeq, sIf, sRet, sSet, sNil, sAug, sTup, sPar, bN, bN2, eVar, eC, eTup, eLst, aNil, aCons, eBin, tB, eChain, eAnd, eOr, eNot, bAnd, bOr, bNot, eIf, eCall, eB, eIx, ixT, L2.atI, L2.ixN, cEqX, cNeX, cEq, cNe, eqT, cLe, cGe, cGt, cLt, cLtI, cLtS, cIs, cIsNot, isNon, cIn, cNin, cInS, cNinS, cInQ, flatT, eqF, lenT, lenQ, lenS, seqT, isiF, isiInt, isiBool, isiStr, isiTup, intF, subT, addT, addI, setNs, uYes, lim, FL.iRng1, FL.iRng2, rngOk, sumF, intsT, hb, hg]
end
/-! ### values -/
def Vn (n : Nat) (t v : T) : Prop := ∀ dr, φn_is_value n [t, v] dr = some (.bl true, dr)
def GV (n : Nat) (cap : Nat) (t : T) : Prop := ∃ vs, (∀ dr, φn__law_values n [t, .int (cap : Int)] dr = some (.lst vs, dr)) ∧ vs.length ≤ cap ∧ ∀ v ∈ vs, Vn n t v
abbrev lvF (r : Phi) : Phi := runF 8 2 (u__law_values r)
section
variable {r : Phi} {a b l m : T} {dr : List T} {va vb : List T} {cap : Nat}
theorem lv_maybe (h : ∀ dr, r [a, .int ((cap : Int) - 1)] dr = some (.lst va, dr)) (hl : va.length ≤ 100) : lvF r [.tup [kMaybe, a], .int (cap : Int)] dr = some (.lst (.non :: va.map fun v => .tup [kSome, v]), dr) := by
  have hg : ∀ dr, lcF (iSeq (eCall 2 r (aCons (eIx (eVar 0) (eC (T.int 1))) (aCons (eBin subT (eVar 1) (eC (T.int 1))) aNil)))) (bN 6) uYes (eTup (aCons (eC (T.str [115, 111, 109, 101])) (aCons (eVar 6) aNil))) [6]
      [some (.tup [kMaybe, a]), some (.int (cap : Int)), none, none, none, none, none, none] dr = some (.lst (va.map fun v => .tup [kSome, v]), dr) := fun dr => by
    refine lcF_map ?_ (fun v hv => ⟨_, rfl, fun dr => rfl⟩) (Nat.le_trans hl (by decide))
    have e := eCall_eq (n := 2) (φ := r) (env := [some (.tup [kMaybe, a]), some (.int (cap : Int)), none, none, none, none, none, none]) (l := aCons (eIx (eVar 0) (eC (T.int 1))) (aCons (eBin subT (eVar 1) (eC (T.int 1))) aNil)) (dr := dr) (ts := [a, .int ((cap : Int) - 1)]) rfl rfl (h dr)
    unfold iSeq
    rw [e]
  unfold lvF runF u__law_values
  generalize hF : lcF (iSeq (eCall 2 r (aCons (eIx (eVar 0) (eC (T.int 1))) (aCons (eBin subT (eVar 1) (eC (T.int 1))) aNil)))) (bN 6) uYes (eTup (aCons (eC (T.str [115, 111, 109, 101])) (aCons (eVar 6) aNil))) [6] = F at hg ⊢
  have h5 : 1 + va.length ≤ 1000000 := by omega
  simp [runF, sSeq, sIf, sRet, sSet, sNil, sAug, sTup, sPar, bN, bN2, eVar, eC, eTup, eLst, aNil, aCons, eBin, tB, eChain, eAnd, eOr, eNot, bAnd, bOr, bNot, eIf, eCall, eB, eIx, ixT, L2.atI, L2.ixN, cEqX, cNeX, cEq, cNe, eqT, cLe, cGe, cGt, cLt, cLtI, cLtS, cIs, cIsNot, isNon, cIn, cNin, cInS, cNinS, cInQ, flatT, eqF, lenT, lenQ, lenS, seqT, isiF, isiInt, isiBool, isiStr, isiTup, intF, subT, addT, addI, setNs, uYes, lim, FL.iRng1, FL.iRng2, rngOk, sumF, intsT, hg, h5]
theorem lv_many {rows : List (List T)} (h : ∀ dr, r [a, .int (cap : Int)] dr = some (.lst va, dr)) (g : ∀ dr, φ__law_lots [.lst va, l, m, .int (cap : Int)] dr = some (.lst (rows.map T.tup), dr)) : lvF r [.tup [kMany, a, l, m], .int (cap : Int)] dr = some (.lst (rows.map T.tup), dr) := by
  unfold lvF runF u__law_values
  simp [runF, sSeq, sIf, sRet, sSet, sNil, sAug, sTup, sPar, bN, bN2, eVar, eC, eTup, eLst, aNil, aCons, eBin, tB, eChain, eAnd, eOr, eNot, bAnd, bOr, bNot, eIf, eCall, eB, eIx, ixT, L2.atI, L2.ixN, cEqX, cNeX, cEq, cNe, eqT, cLe, cGe, cGt, cLt, cLtI, cLtS, cIs, cIsNot, isNon, cIn, cNin, cInS, cNinS, cInQ, flatT, eqF, lenT, lenQ, lenS, seqT, isiF, isiInt, isiBool, isiStr, isiTup, intF, subT, addT, addI, setNs, uYes, lim, FL.iRng1, FL.iRng2, rngOk, sumF, intsT, h, g]
end
end K01
set_option linter.all false
set_option maxRecDepth 100000
set_option maxHeartbeats 4000000
namespace K01
open FL
section
variable {r : Phi} {a b l m : T} {dr : List T} {va vb : List T} {cap : Nat}
abbrev eIn (r : Phi) : EF := lcF (iSeq (eCall 2 r (aCons (eVar 3) (aCons (eVar 1) aNil)))) (bN 6) uYes (eTup (aCons (eVar 7) (aCons (eVar 6) aNil))) [6]
theorem in_ok {ts : T} {i : Int} {c2 c4 c5 : Option T} (h : ∀ dr, r [a, .int (cap : Int)] dr = some (.lst va, dr)) (hl : va.length ≤ 100) : eIn r [some ts, some (.int (cap : Int)), c2, some a, c4, c5, none, some (.int i)] dr = some (.lst (va.map fun v => .tup [.int i, v]), dr) := by
  refine lcF_map ?_ (fun v hv => ⟨_, rfl, fun dr => rfl⟩) (Nat.le_trans hl (by decide))
  have e := eCall_eq (n := 2) (φ := r) (env := [some ts, some (.int (cap : Int)), c2, some a, c4, c5, none, some (.int i)]) (l := aCons (eVar 3) (aCons (eVar 1) aNil)) (dr := dr) (ts := [a, .int (cap : Int)]) rfl rfl (h dr)
  unfold iSeq
  rw [e]
abbrev eOut (r : Phi) : EF := eSlHi (eB sumLF (aCons (lcF (iEnumF (eIx (eVar 0) (eC (T.int 1)))) (bN2 7 3) uYes (eIn r) [7, 3]) (aCons (eLst aNil) aNil))) (eVar 1)
theorem sl_ok {e : EF} {env : FL.Env} {xs : List T} (h : e env dr = some (.lst xs, dr)) {c : EF} (hc : c env dr = some (.int (cap : Int), dr)) : eSlHi e c env dr = some (.lst (xs.take cap), dr) := by
  unfold eSlHi
  rw [h]
  dsimp only
  rw [hc]
  dsimp only
  unfold slT
  dsimp only
  rw [cutL_take]
theorem out1_ok {c2 : Option T} (h : ∀ dr, r [a, .int (cap : Int)] dr = some (.lst va, dr)) (hl : va.length ≤ 100) : eOut r [some (.tup [kCase, .tup [a]]), some (.int (cap : Int)), c2, none, none, none, none, none] dr = some (.lst ((va.map fun v => T.tup [.int 0, v]).take cap), dr) := by
  refine sl_ok (eB_eq (ts := [.lst [.lst (va.map fun v => T.tup [.int 0, v])], .lst []]) (aCons_eq ?_ rfl) ?_) rfl
  · unfold lcF
    show (match lcGo (bN2 7 3) uYes (eIn r) _ [.tup [.int 0, a]] dr with | none => none | some (ys, dr2) => _) = _
    have e := in_ok (ts := .tup [kCase, .tup [a]]) (i := 0) (c2 := c2) (c4 := none) (c5 := none) (dr := dr) h hl
    unfold lcGo lcGo
    dsimp only [bN2, uYes, wipeE, List.set]
    rw [e]
    rfl
  · unfold sumLF lstsT lstsT
    have h5 : va.length ≤ 1000000 := by omega
    simp [lim, h5]
theorem out2_ok {c2 : Option T} (h : ∀ dr, r [a, .int (cap : Int)] dr = some (.lst va, dr)) (hl : va.length ≤ 100) (g : ∀ dr, r [b, .int (cap : Int)] dr = some (.lst vb, dr)) (hl2 : vb.length ≤ 100) :
    eOut r [some (.tup [kCase, .tup [a, b]]), some (.int (cap : Int)), c2, none, none, none, none, none] dr = some (.lst (((va.map fun v => T.tup [.int 0, v]) ++ (vb.map fun v => T.tup [.int 1, v])).take cap), dr) := by
  refine sl_ok (eB_eq (ts := [.lst [.lst (va.map fun v => T.tup [.int 0, v]), .lst (vb.map fun v => T.tup [.int 1, v])], .lst []]) (aCons_eq ?_ rfl) ?_) rfl
  · unfold lcF
    show (match lcGo (bN2 7 3) uYes (eIn r) _ [.tup [.int 0, a], .tup [.int 1, b]] dr with | none => none | some (ys, dr2) => _) = _
    have e := in_ok (ts := .tup [kCase, .tup [a, b]]) (i := 0) (c2 := c2) (c4 := none) (c5 := none) (dr := dr) h hl
    have e2 := in_ok (ts := .tup [kCase, .tup [a, b]]) (i := 1) (c2 := c2) (c4 := none) (c5 := none) (dr := dr) g hl2
    unfold lcGo lcGo lcGo
    dsimp only [bN2, uYes, wipeE, List.set]
    rw [e]
    dsimp only
    rw [e2]
    rfl
  · unfold sumLF lstsT lstsT lstsT
    have h5 : va.length + vb.length ≤ 1000000 := by omega
    simp [lim, h5]
abbrev rowBody (r : Phi) : SF := sSeq (sSet 4 (eCall 2 r (aCons (eVar 3) (aCons (eVar 1) aNil)))) (sSet 2 (eLayer 2 4 1 5 6))
theorem rowBody_ok {ts : T} {c4 : Option T} {layer : List (List T)} (h : ∀ dr, r [a, .int (cap : Int)] dr = some (.lst va, dr)) (hcap : cap ≤ 100) (hl : va.length ≤ 100) (hy : layer.length ≤ 100) (hr : ∀ row ∈ layer, row.length ≤ 100) :
    rowBody r [some ts, some (.int (cap : Int)), some (.lst (layer.map T.tup)), some a, c4, none, none, none] dr = some (.nx [some ts, some (.int (cap : Int)), some (.lst ((stp va cap layer).map T.tup)), some a, some (.lst va), none, none, none], dr) := by
  refine sSeq_nx (env1 := [some ts, some (.int (cap : Int)), some (.lst (layer.map T.tup)), some a, some (.lst va), none, none, none]) (dr1 := dr) (sSet_eq (eCall_eq (ts := [a, .int (cap : Int)]) rfl rfl (h dr))) ?_
  exact sSet_eq (layer_ok (L := 2) (V := 4) (C := 1) (a := 5) (b := 6) dr rfl rfl rfl (by simp) (by simp) (by decide) (by decide) (by decide) (by decide) hcap hl hy hr)
theorem lv_pre {ts : List T} {rest : SF} {res : Option (Out × List T)} (hr : rest [some (.tup [kRow, .tup ts]), some (.int (cap : Int)), some (.lst [.tup []]), none, none, none, none, none] dr = res) : True := trivial
theorem lv_case1 (h : ∀ dr, r [a, .int (cap : Int)] dr = some (.lst va, dr)) (hl : va.length ≤ 100) : lvF r [.tup [kCase, .tup [a]], .int (cap : Int)] dr = some (.lst ((va.map fun v => T.tup [.int 0, v]).take cap), dr) := by
  have hg : ∀ c2 dr, eOut r [some (.tup [kCase, .tup [a]]), some (.int (cap : Int)), c2, none, none, none, none, none] dr = some (.lst ((va.map fun v => T.tup [.int 0, v]).take cap), dr) := fun c2 dr => out1_ok h hl
  unfold lvF runF u__law_values
  delta eOut eIn at hg
  generalize hF : eSlHi (eB sumLF (aCons (lcF (iEnumF (eIx (eVar 0) (eC (T.int 1)))) (bN2 7 3) uYes (lcF (iSeq (eCall 2 r (aCons (eVar 3) (aCons (eVar 1) aNil)))) (bN 6) uYes (eTup (aCons (eVar 7) (aCons (eVar 6) aNil))) [6]) [7, 3]) (aCons (eLst aNil) aNil))) (eVar 1) = F at hg ⊢
  simp [runF, sSeq, sIf, sRet, sSet, sNil, sAug, sTup, sPar, bN, bN2, eVar, eC, eTup, eLst, aNil, aCons, eBin, tB, eChain, eAnd, eOr, eNot, bAnd, bOr, bNot, eIf, eCall, eB, eIx, ixT, L2.atI, L2.ixN, cEqX, cNeX, cEq, cNe, eqT, cLe, cGe, cGt, cLt, cLtI, cLtS, cIs, cIsNot, isNon, cIn, cNin, cInS, cNinS, cInQ, flatT, eqF, lenT, lenQ, lenS, seqT, isiF, isiInt, isiBool, isiStr, isiTup, intF, subT, addT, addI, setNs, uYes, lim, FL.iRng1, FL.iRng2, rngOk, sumF, intsT, hg]
theorem lv_case2 (h : ∀ dr, r [a, .int (cap : Int)] dr = some (.lst va, dr)) (hl : va.length ≤ 100) (g : ∀ dr, r [b, .int (cap : Int)] dr = some (.lst vb, dr)) (hl2 : vb.length ≤ 100) :
    lvF r [.tup [kCase, .tup [a, b]], .int (cap : Int)] dr = some (.lst (((va.map fun v => T.tup [.int 0, v]) ++ (vb.map fun v => T.tup [.int 1, v])).take cap), dr) := by
  have hg : ∀ c2 dr, eOut r [some (.tup [kCase, .tup [a, b]]), some (.int (cap : Int)), c2, none, none, none, none, none] dr = some (.lst (((va.map fun v => T.tup [.int 0, v]) ++ (vb.map fun v => T.tup [.int 1, v])).take cap), dr) := fun c2 dr => out2_ok h hl g hl2
  unfold lvF runF u__law_values
  delta eOut eIn at hg
  generalize hF : eSlHi (eB sumLF (aCons (lcF (iEnumF (eIx (eVar 0) (eC (T.int 1)))) (bN2 7 3) uYes (lcF (iSeq (eCall 2 r (aCons (eVar 3) (aCons (eVar 1) aNil)))) (bN 6) uYes (eTup (aCons (eVar 7) (aCons (eVar 6) aNil))) [6]) [7, 3]) (aCons (eLst aNil) aNil))) (eVar 1) = F at hg ⊢
  simp [runF, sSeq, sIf, sRet, sSet, sNil, sAug, sTup, sPar, bN, bN2, eVar, eC, eTup, eLst, aNil, aCons, eBin, tB, eChain, eAnd, eOr, eNot, bAnd, bOr, bNot, eIf, eCall, eB, eIx, ixT, L2.atI, L2.ixN, cEqX, cNeX, cEq, cNe, eqT, cLe, cGe, cGt, cLt, cLtI, cLtS, cIs, cIsNot, isNon, cIn, cNin, cInS, cNinS, cInQ, flatT, eqF, lenT, lenQ, lenS, seqT, isiF, isiInt, isiBool, isiStr, isiTup, intF, subT, addT, addI, setNs, uYes, lim, FL.iRng1, FL.iRng2, rngOk, sumF, intsT, hg]
abbrev sRows (r : Phi) : SF := sFor (iSeq (eIx (eVar 0) (eC (T.int 1)))) (bN 3) (rowBody r)
theorem lv_row {ts : List T} {fs : List (List T)} (hg : ∀ dr, ∃ c3 c4, sRows r [some (.tup [kRow, .tup ts]), some (.int (cap : Int)), some (.lst [.tup []]), none, none, none, none, none] dr = some (.nx [some (.tup [kRow, .tup ts]), some (.int (cap : Int)), some (.lst (fs.map T.tup)), c3, c4, none, none, none], dr)) :
    lvF r [.tup [kRow, .tup ts], .int (cap : Int)] dr = some (.lst (fs.map T.tup), dr) := by
  obtain ⟨c3, c4, hg⟩ := hg dr
  unfold lvF runF u__law_values
  delta sRows rowBody eLayer at hg
  generalize hF : sFor (iSeq (eIx (eVar 0) (eC (T.int 1)))) (bN 3) (sSeq (sSet 4 (eCall 2 r (aCons (eVar 3) (aCons (eVar 1) aNil)))) (sSet 2 (eSlHi (eB sumLF (aCons (lcF (iSeq (eVar 2)) (bN 5) uYes (lcF (iSeq (eVar 4)) (bN 6) uYes (eBin addT (eVar 5) (eTup (aCons (eVar 6) aNil))) [6]) [5]) (aCons (eLst aNil) aNil))) (eVar 1)))) = F at hg ⊢
  simp [runF, sSeq, sIf, sRet, sSet, sNil, sAug, sTup, sPar, bN, bN2, eVar, eC, eTup, eLst, aNil, aCons, eBin, tB, eChain, eAnd, eOr, eNot, bAnd, bOr, bNot, eIf, eCall, eB, eIx, ixT, L2.atI, L2.ixN, cEqX, cNeX, cEq, cNe, eqT, cLe, cGe, cGt, cLt, cLtI, cLtS, cIs, cIsNot, isNon, cIn, cNin, cInS, cNinS, cInQ, flatT, eqF, lenT, lenQ, lenS, seqT, isiF, isiInt, isiBool, isiStr, isiTup, intF, subT, addT, addI, setNs, uYes, lim, FL.iRng1, FL.iRng2, rngOk, sumF, intsT, hg]
theorem lv_row0 : lvF r [.tup [kRow, .tup []], .int (cap : Int)] dr = some (.lst (([[]] : List (List T)).map T.tup), dr) := lv_row fun dr => ⟨none, none, rfl⟩
theorem lv_row1 (h : ∀ dr, r [a, .int (cap : Int)] dr = some (.lst va, dr)) (hcap : cap ≤ 100) (hl : va.length ≤ 100) : lvF r [.tup [kRow, .tup [a]], .int (cap : Int)] dr = some (.lst ((stp va cap [[]]).map T.tup), dr) :=
  lv_row fun dr => ⟨_, _, by
    show forGo (bN 3) (rowBody r) [a] _ dr = _
    exact forGo_nx rfl (rowBody_ok (layer := [[]]) h hcap hl (by decide) (by simp)) rfl⟩
theorem lv_row2 (h : ∀ dr, r [a, .int (cap : Int)] dr = some (.lst va, dr)) (hcap : cap ≤ 100) (hl : va.length ≤ 100) (g : ∀ dr, r [b, .int (cap : Int)] dr = some (.lst vb, dr)) (hl2 : vb.length ≤ 100) :
    lvF r [.tup [kRow, .tup [a, b]], .int (cap : Int)] dr = some (.lst ((stp vb cap (stp va cap [[]])).map T.tup), dr) :=
  lv_row fun dr => ⟨_, _, by
    show forGo (bN 3) (rowBody r) [a, b] _ dr = _
    refine forGo_nx rfl (rowBody_ok (layer := [[]]) h hcap hl (by decide) (by simp)) (forGo_nx rfl (rowBody_ok (layer := stp va cap [[]]) g hcap hl2 (Nat.le_trans stp_len hcap) fun row hrow => ?_) rfl)
    obtain ⟨r0, h0, x, hx, rfl⟩ := stp_mem hrow
    rw [List.mem_singleton.mp h0]
    simp⟩
end
end K01
set_option linter.all false
set_option maxRecDepth 100000
set_option maxHeartbeats 4000000
namespace K01
open FL
def valsB (cap : Int) (t : T) : List T := match φn__law_values 1 [t, .int cap] [] with
  | some (.lst vs, _) => vs
  | _ => [.non]
theorem map_all {α : Type} {f : T → α} {c : α} : ∀ {l : List T}, l.map f = l.map (fun _ => c) → ∀ v ∈ l, f v = c := fun {l} h v hv => of_map (g := fun _ => c) h v hv
theorem gv_base30 {n : Nat} : ∀ t ∈ K01.base, GV (n + 1) 30 t := fun t ht => by
  refine ⟨valsB 30 t, fun dr => ?_, ?_, fun v hv dr => ?_⟩
  · exact of_map (f := fun t => φn__law_values (n + 1) [t, .int 30] dr) (g := fun t => some (.lst (valsB 30 t), dr)) (by kernel_rfl) t ht
  · exact of_decide_eq_true (of_map (f := fun t => decide ((valsB 30 t).length ≤ 30)) (g := fun t => true) (by kernel_rfl) t ht)
  · exact map_all (of_map (f := fun t => (valsB 30 t).map fun v => φn_is_value (n + 1) [t, v] dr) (g := fun t => (valsB 30 t).map fun v => some (.bl true, dr)) (by kernel_rfl) t ht) v hv
theorem gv_base29 {n : Nat} : ∀ t ∈ K01.base, GV (n + 1) 29 t := fun t ht => by
  refine ⟨valsB 29 t, fun dr => ?_, ?_, fun v hv dr => ?_⟩
  · exact of_map (f := fun t => φn__law_values (n + 1) [t, .int 29] dr) (g := fun t => some (.lst (valsB 29 t), dr)) (by kernel_rfl) t ht
  · exact of_decide_eq_true (of_map (f := fun t => decide ((valsB 29 t).length ≤ 29)) (g := fun t => true) (by kernel_rfl) t ht)
  · exact map_all (of_map (f := fun t => (valsB 29 t).map fun v => φn_is_value (n + 1) [t, v] dr) (g := fun t => (valsB 29 t).map fun v => some (.bl true, dr)) (by kernel_rfl) t ht) v hv
theorem gv_base28 {n : Nat} : ∀ t ∈ K01.base, GV (n + 1) 28 t := fun t ht => by
  refine ⟨valsB 28 t, fun dr => ?_, ?_, fun v hv dr => ?_⟩
  · exact of_map (f := fun t => φn__law_values (n + 1) [t, .int 28] dr) (g := fun t => some (.lst (valsB 28 t), dr)) (by kernel_rfl) t ht
  · exact of_decide_eq_true (of_map (f := fun t => decide ((valsB 28 t).length ≤ 28)) (g := fun t => true) (by kernel_rfl) t ht)
  · exact map_all (of_map (f := fun t => (valsB 28 t).map fun v => φn_is_value (n + 1) [t, v] dr) (g := fun t => (valsB 28 t).map fun v => some (.bl true, dr)) (by kernel_rfl) t ht) v hv
theorem gv_step {k n cap : Nat} (hc1 : 1 ≤ cap) (hc : cap ≤ 100) (hb : ∀ t ∈ K01.base, GV (n + 1) cap t) (ih : ∀ t, D k t → GV n cap t) (ih2 : ∀ t, D k t → GV n (cap - 1) t) : ∀ t, D (k + 1) t → GV (n + 1) cap t := by
  intro t ht
  cases ht with
  | base h => exact hb t h
  | @maybe _ a h =>
    obtain ⟨va, h1, h2, h3⟩ := ih2 _ h
    have e : ((cap - 1 : Nat) : Int) = (cap : Int) - 1 := by omega
    rw [e] at h1
    refine ⟨_, fun dr => lv_maybe h1 (by omega), by simp; omega, fun v hv dr => ?_⟩
    rcases List.mem_cons.mp hv with rfl | hv
    · exact iv_none
    · obtain ⟨w, hw, rfl⟩ := List.mem_map.mp hv
      exact iv_some (h3 w hw)
  | row0 => exact ⟨_, fun dr => lv_row0, by simp; omega, fun v hv dr => by
      rw [show v = .tup [] by simpa using hv]
      exact iv_row0⟩
  | @row1 _ a h =>
    obtain ⟨va, h1, h2, h3⟩ := ih _ h
    refine ⟨_, fun dr => lv_row1 h1 hc (by omega), by rw [List.length_map]; exact stp_len, fun v hv dr => ?_⟩
    obtain ⟨row, hrow, rfl⟩ := List.mem_map.mp hv
    obtain ⟨r0, h0, x, hx, rfl⟩ := stp_mem hrow
    rw [List.mem_singleton.mp h0]
    exact iv_row1 (h3 x hx)
  | @row2 _ a b h g =>
    obtain ⟨va, h1, h2, h3⟩ := ih _ h
    obtain ⟨vb, g1, g2, g3⟩ := ih _ g
    refine ⟨_, fun dr => lv_row2 h1 hc (by omega) g1 (by omega), by rw [List.length_map]; exact stp_len, fun v hv dr => ?_⟩
    obtain ⟨row, hrow, rfl⟩ := List.mem_map.mp hv
    obtain ⟨r0, h0, x, hx, rfl⟩ := stp_mem hrow
    obtain ⟨r1, h1', y, hy, rfl⟩ := stp_mem h0
    rw [List.mem_singleton.mp h1']
    exact iv_row2 (h3 y hy) (g3 x hx)
  | @many _ a l m h q =>
    obtain ⟨va, h1, h2, h3⟩ := ih _ h
    obtain ⟨rows, g1, g2, g3⟩ := lots_ok (vs := va) q (cap := cap) hc (by omega)
    refine ⟨_, fun dr => lv_many h1 g1, by rw [List.length_map]; exact g3, fun v hv dr => ?_⟩
    obtain ⟨row, hrow, rfl⟩ := List.mem_map.mp hv
    obtain ⟨e1, e2⟩ := g2 row hrow
    exact iv_many q e1 fun w hw => h3 w (e2 w hw)
  | @case1 _ a h =>
    obtain ⟨va, h1, h2, h3⟩ := ih _ h
    refine ⟨_, fun dr => lv_case1 h1 (by omega), by rw [List.length_take]; omega, fun v hv dr => ?_⟩
    obtain ⟨w, hw, rfl⟩ := List.mem_map.mp (List.mem_of_mem_take hv)
    exact iv_case1 (h3 w hw)
  | @case2 _ a b h g =>
    obtain ⟨va, h1, h2, h3⟩ := ih _ h
    obtain ⟨vb, g1, g2, g3⟩ := ih _ g
    refine ⟨_, fun dr => lv_case2 h1 (by omega) g1 (by omega), by rw [List.length_take]; omega, fun v hv dr => ?_⟩
    rcases List.mem_append.mp (List.mem_of_mem_take hv) with hv | hv
    · obtain ⟨w, hw, rfl⟩ := List.mem_map.mp hv
      exact iv_case20 (h3 w hw)
    · obtain ⟨w, hw, rfl⟩ := List.mem_map.mp hv
      exact iv_case21 (g3 w hw)
theorem gv_ok {t : T} (h : D 2 t) : ∃ vs, (∀ dr, φ__law_values [t, .int 30] dr = some (.lst vs, dr)) ∧ vs.length ≤ 30 ∧ ∀ v ∈ vs, ∀ dr, φ_is_value [t, v] dr = some (.bl true, dr) := by
  have z30 : ∀ t, D 0 t → GV 10 30 t := fun t ht => gv_base30 t ht.zero
  have z29 : ∀ t, D 0 t → GV 10 29 t := fun t ht => gv_base29 t ht.zero
  have z28 : ∀ t, D 0 t → GV 10 28 t := fun t ht => gv_base28 t ht.zero
  exact gv_step (k := 1) (n := 11) (cap := 30) (by decide) (by decide) gv_base30 (gv_step (k := 0) (by decide) (by decide) gv_base30 z30 z29) (gv_step (k := 0) (n := 10) (cap := 29) (by decide) (by decide) gv_base29 z29 z28) t h
end K01
set_option linter.all false
set_option maxRecDepth 100000
set_option maxHeartbeats 4000000
namespace K01
open FL
abbrev zz : T := .str [122, 122]
abbrev zzz : T := .tup [zz, zz, zz]
section
variable {r : Phi} {a b l m : T} {dr : List T}
theorem z_maybe1 : ivF r [.tup [kMaybe, a], zz] dr = some (.bl false, dr) := by
  simp [runF, sSeq, sIf, sRet, sSet, sNil, sAug, sTup, sPar, sFor, forGo, bN, bN2, iSeq, eVar, eC, eTup, eLst, aNil, aCons, eBin, tB, eChain, eAnd, eOr, eNot, bAnd, bOr, bNot, eIf, eCall, eB, eIx, ixT, L2.atI, L2.ixN, cEqX, cNeX, cEq, cNe, eqT, cLe, cGe, cGt, cLt, cLtI, cLtS, cIs, cIsNot, isNon, cIn, cNin, cInS, cNinS, cInQ, flatT, eqF, lenT, lenQ, lenS, seqT, isiF, isiInt, isiBool, isiStr, isiTup, intF, subT, addT, addI, setNs, uYes, lim, allG, allGo, lcF, lcGo, wipeE, FL.iRng1, FL.iRng2, rngOk, sumF, intsT, u_is_value, φ_is_some, u_is_some, φ_is_pair, u_is_pair, φ_is_tuple_of, u_is_tuple_of]
theorem z_maybe3 : ivF r [.tup [kMaybe, a], zzz] dr = some (.bl false, dr) := by
  simp [runF, sSeq, sIf, sRet, sSet, sNil, sAug, sTup, sPar, sFor, forGo, bN, bN2, iSeq, eVar, eC, eTup, eLst, aNil, aCons, eBin, tB, eChain, eAnd, eOr, eNot, bAnd, bOr, bNot, eIf, eCall, eB, eIx, ixT, L2.atI, L2.ixN, cEqX, cNeX, cEq, cNe, eqT, cLe, cGe, cGt, cLt, cLtI, cLtS, cIs, cIsNot, isNon, cIn, cNin, cInS, cNinS, cInQ, flatT, eqF, lenT, lenQ, lenS, seqT, isiF, isiInt, isiBool, isiStr, isiTup, intF, subT, addT, addI, setNs, uYes, lim, allG, allGo, lcF, lcGo, wipeE, FL.iRng1, FL.iRng2, rngOk, sumF, intsT, u_is_value, φ_is_some, u_is_some, φ_is_pair, u_is_pair, φ_is_tuple_of, u_is_tuple_of]
theorem z_row1 {ts : List T} : ivF r [.tup [kRow, .tup ts], zz] dr = some (.bl false, dr) := by
  simp [runF, sSeq, sIf, sRet, sSet, sNil, sAug, sTup, sPar, sFor, forGo, bN, bN2, iSeq, eVar, eC, eTup, eLst, aNil, aCons, eBin, tB, eChain, eAnd, eOr, eNot, bAnd, bOr, bNot, eIf, eCall, eB, eIx, ixT, L2.atI, L2.ixN, cEqX, cNeX, cEq, cNe, eqT, cLe, cGe, cGt, cLt, cLtI, cLtS, cIs, cIsNot, isNon, cIn, cNin, cInS, cNinS, cInQ, flatT, eqF, lenT, lenQ, lenS, seqT, isiF, isiInt, isiBool, isiStr, isiTup, intF, subT, addT, addI, setNs, uYes, lim, allG, allGo, lcF, lcGo, wipeE, FL.iRng1, FL.iRng2, rngOk, sumF, intsT, u_is_value]
theorem z_row3 {ts : List T} (hl : ts.length ≤ 2) : ivF r [.tup [kRow, .tup ts], zzz] dr = some (.bl false, dr) := by
  have h3 : ¬ ((3 : Int) = (ts.length : Int)) := by omega
  simp [runF, sSeq, sIf, sRet, sSet, sNil, sAug, sTup, sPar, sFor, forGo, bN, bN2, iSeq, eVar, eC, eTup, eLst, aNil, aCons, eBin, tB, eChain, eAnd, eOr, eNot, bAnd, bOr, bNot, eIf, eCall, eB, eIx, ixT, L2.atI, L2.ixN, cEqX, cNeX, cEq, cNe, eqT, cLe, cGe, cGt, cLt, cLtI, cLtS, cIs, cIsNot, isNon, cIn, cNin, cInS, cNinS, cInQ, flatT, eqF, lenT, lenQ, lenS, seqT, isiF, isiInt, isiBool, isiStr, isiTup, intF, subT, addT, addI, setNs, uYes, lim, allG, allGo, lcF, lcGo, wipeE, FL.iRng1, FL.iRng2, rngOk, sumF, intsT, u_is_value, h3]
theorem z_case1 {ts : List T} : ivF r [.tup [kCase, .tup ts], zz] dr = some (.bl false, dr) := by
  simp [runF, sSeq, sIf, sRet, sSet, sNil, sAug, sTup, sPar, sFor, forGo, bN, bN2, iSeq, eVar, eC, eTup, eLst, aNil, aCons, eBin, tB, eChain, eAnd, eOr, eNot, bAnd, bOr, bNot, eIf, eCall, eB, eIx, ixT, L2.atI, L2.ixN, cEqX, cNeX, cEq, cNe, eqT, cLe, cGe, cGt, cLt, cLtI, cLtS, cIs, cIsNot, isNon, cIn, cNin, cInS, cNinS, cInQ, flatT, eqF, lenT, lenQ, lenS, seqT, isiF, isiInt, isiBool, isiStr, isiTup, intF, subT, addT, addI, setNs, uYes, lim, allG, allGo, lcF, lcGo, wipeE, FL.iRng1, FL.iRng2, rngOk, sumF, intsT, u_is_value]
theorem z_case3 {ts : List T} : ivF r [.tup [kCase, .tup ts], zzz] dr = some (.bl false, dr) := by
  simp [runF, sSeq, sIf, sRet, sSet, sNil, sAug, sTup, sPar, sFor, forGo, bN, bN2, iSeq, eVar, eC, eTup, eLst, aNil, aCons, eBin, tB, eChain, eAnd, eOr, eNot, bAnd, bOr, bNot, eIf, eCall, eB, eIx, ixT, L2.atI, L2.ixN, cEqX, cNeX, cEq, cNe, eqT, cLe, cGe, cGt, cLt, cLtI, cLtS, cIs, cIsNot, isNon, cIn, cNin, cInS, cNinS, cInQ, flatT, eqF, lenT, lenQ, lenS, seqT, isiF, isiInt, isiBool, isiStr, isiTup, intF, subT, addT, addI, setNs, uYes, lim, allG, allGo, lcF, lcGo, wipeE, FL.iRng1, FL.iRng2, rngOk, sumF, intsT, u_is_value, φ_is_pair, u_is_pair, φ_is_tuple_of, u_is_tuple_of]
theorem z_many1 : ivF r [.tup [kMany, a, l, m], zz] dr = some (.bl false, dr) := by
  simp [runF, sSeq, sIf, sRet, sSet, sNil, sAug, sTup, sPar, sFor, forGo, bN, bN2, iSeq, eVar, eC, eTup, eLst, aNil, aCons, eBin, tB, eChain, eAnd, eOr, eNot, bAnd, bOr, bNot, eIf, eCall, eB, eIx, ixT, L2.atI, L2.ixN, cEqX, cNeX, cEq, cNe, eqT, cLe, cGe, cGt, cLt, cLtI, cLtS, cIs, cIsNot, isNon, cIn, cNin, cInS, cNinS, cInQ, flatT, eqF, lenT, lenQ, lenS, seqT, isiF, isiInt, isiBool, isiStr, isiTup, intF, subT, addT, addI, setNs, uYes, lim, allG, allGo, lcF, lcGo, wipeE, FL.iRng1, FL.iRng2, rngOk, sumF, intsT, u_is_value]
theorem z_many3 (hq : (l, m) ∈ lm6) (h : ∀ dr, r [a, zz] dr = some (.bl false, dr)) : ivF r [.tup [kMany, a, l, m], zzz] dr = some (.bl false, dr) := by
  simp only [lm6, List.mem_cons, Prod.mk.injEq, List.not_mem_nil, or_false] at hq
  rcases hq with ⟨rfl, rfl⟩ | ⟨rfl, rfl⟩ | ⟨rfl, rfl⟩ | ⟨rfl, rfl⟩ | ⟨rfl, rfl⟩ | ⟨rfl, rfl⟩ <;>
  simp [runF, sSeq, sIf, sRet, sSet, sNil, sAug, sTup, sPar, sFor, forGo, bN, bN2, iSeq, eVar, eC, eTup, eLst, aNil, aCons, eBin, tB, eChain, eAnd, eOr, eNot, bAnd, bOr, bNot, eIf, eCall, eB, eIx, ixT, L2.atI, L2.ixN, cEqX, cNeX, cEq, cNe, eqT, cLe, cGe, cGt, cLt, cLtI, cLtS, cIs, cIsNot, isNon, cIn, cNin, cInS, cNinS, cInQ, flatT, eqF, lenT, lenQ, lenS, seqT, isiF, isiInt, isiBool, isiStr, isiTup, intF, subT, addT, addI, setNs, uYes, lim, allG, allGo, lcF, lcGo, wipeE, FL.iRng1, FL.iRng2, rngOk, sumF, intsT, u_is_value, φ_is_between, u_is_between, h]
def oMaybe : List T := [.str [115, 111, 109, 101], .tup [kSome], .tup [kSome, zzz], .tup [.str [110, 111, 110, 101], .non], .lst [kSome, .int 1], .bl false]
theorem odd_maybe : φ__law_odd [.tup [kMaybe, a]] dr = some (.lst oMaybe, dr) := by
  simp [runF, sSeq, sIf, sRet, sSet, sNil, sAug, sTup, sPar, sFor, forGo, bN, bN2, iSeq, eVar, eC, eTup, eLst, aNil, aCons, eBin, tB, eChain, eAnd, eOr, eNot, bAnd, bOr, bNot, eIf, eCall, eB, eIx, ixT, L2.atI, L2.ixN, cEqX, cNeX, cEq, cNe, eqT, cLe, cGe, cGt, cLt, cLtI, cLtS, cIs, cIsNot, isNon, cIn, cNin, cInS, cNinS, cInQ, flatT, eqF, lenT, lenQ, lenS, seqT, isiF, isiInt, isiBool, isiStr, isiTup, intF, subT, addT, addI, setNs, uYes, lim, allG, allGo, lcF, lcGo, wipeE, FL.iRng1, FL.iRng2, rngOk, sumF, intsT, φ__law_odd, u__law_odd, oMaybe]
theorem odd_maybeF (h : ∀ dr, r [a, zzz] dr = some (.bl false, dr)) : ∀ o ∈ oMaybe, ivF r [.tup [kMaybe, a], o] dr = some (.bl false, dr) := by
  intro o ho
  simp only [oMaybe, List.mem_cons, List.not_mem_nil, or_false] at ho
  rcases ho with rfl | rfl | rfl | rfl | rfl | rfl <;>
  simp [runF, sSeq, sIf, sRet, sSet, sNil, sAug, sTup, sPar, sFor, forGo, bN, bN2, iSeq, eVar, eC, eTup, eLst, aNil, aCons, eBin, tB, eChain, eAnd, eOr, eNot, bAnd, bOr, bNot, eIf, eCall, eB, eIx, ixT, L2.atI, L2.ixN, cEqX, cNeX, cEq, cNe, eqT, cLe, cGe, cGt, cLt, cLtI, cLtS, cIs, cIsNot, isNon, cIn, cNin, cInS, cNinS, cInQ, flatT, eqF, lenT, lenQ, lenS, seqT, isiF, isiInt, isiBool, isiStr, isiTup, intF, subT, addT, addI, setNs, uYes, lim, allG, allGo, lcF, lcGo, wipeE, FL.iRng1, FL.iRng2, rngOk, sumF, intsT, u_is_value, φ_is_some, u_is_some, φ_is_pair, u_is_pair, φ_is_tuple_of, u_is_tuple_of, h]
def oCase (n : Int) : List T := [.non, .tup [.int n, .int 0], .tup [.int (-1), .int 0], .tup [.int 0], .tup [.int 0, zzz], .tup [.bl true, zzz], .lst [.int 0, .int 0]]
theorem odd_case {ts : List T} : φ__law_odd [.tup [kCase, .tup ts]] dr = some (.lst (oCase (ts.length : Int)), dr) := by
  simp [runF, sSeq, sIf, sRet, sSet, sNil, sAug, sTup, sPar, sFor, forGo, bN, bN2, iSeq, eVar, eC, eTup, eLst, aNil, aCons, eBin, tB, eChain, eAnd, eOr, eNot, bAnd, bOr, bNot, eIf, eCall, eB, eIx, ixT, L2.atI, L2.ixN, cEqX, cNeX, cEq, cNe, eqT, cLe, cGe, cGt, cLt, cLtI, cLtS, cIs, cIsNot, isNon, cIn, cNin, cInS, cNinS, cInQ, flatT, eqF, lenT, lenQ, lenS, seqT, isiF, isiInt, isiBool, isiStr, isiTup, intF, subT, addT, addI, setNs, uYes, lim, allG, allGo, lcF, lcGo, wipeE, FL.iRng1, FL.iRng2, rngOk, sumF, intsT, φ__law_odd, u__law_odd, oCase, eNeg]
theorem odd_case1F (h : ∀ dr, r [a, zzz] dr = some (.bl false, dr)) : ∀ o ∈ oCase 1, ivF r [.tup [kCase, .tup [a]], o] dr = some (.bl false, dr) := by
  intro o ho
  simp only [oCase, List.mem_cons, List.not_mem_nil, or_false] at ho
  rcases ho with rfl | rfl | rfl | rfl | rfl | rfl | rfl <;>
  simp [runF, sSeq, sIf, sRet, sSet, sNil, sAug, sTup, sPar, sFor, forGo, bN, bN2, iSeq, eVar, eC, eTup, eLst, aNil, aCons, eBin, tB, eChain, eAnd, eOr, eNot, bAnd, bOr, bNot, eIf, eCall, eB, eIx, ixT, L2.atI, L2.ixN, cEqX, cNeX, cEq, cNe, eqT, cLe, cGe, cGt, cLt, cLtI, cLtS, cIs, cIsNot, isNon, cIn, cNin, cInS, cNinS, cInQ, flatT, eqF, lenT, lenQ, lenS, seqT, isiF, isiInt, isiBool, isiStr, isiTup, intF, subT, addT, addI, setNs, uYes, lim, allG, allGo, lcF, lcGo, wipeE, FL.iRng1, FL.iRng2, rngOk, sumF, intsT, u_is_value, φ_is_pair, u_is_pair, φ_is_tuple_of, u_is_tuple_of, φ_is_number, u_is_number, φ_is_integer, u_is_integer, h]
theorem odd_case2F (h : ∀ dr, r [a, zzz] dr = some (.bl false, dr)) : ∀ o ∈ oCase 2, ivF r [.tup [kCase, .tup [a, b]], o] dr = some (.bl false, dr) := by
  intro o ho
  simp only [oCase, List.mem_cons, List.not_mem_nil, or_false] at ho
  rcases ho with rfl | rfl | rfl | rfl | rfl | rfl | rfl <;>
  simp [runF, sSeq, sIf, sRet, sSet, sNil, sAug, sTup, sPar, sFor, forGo, bN, bN2, iSeq, eVar, eC, eTup, eLst, aNil, aCons, eBin, tB, eChain, eAnd, eOr, eNot, bAnd, bOr, bNot, eIf, eCall, eB, eIx, ixT, L2.atI, L2.ixN, cEqX, cNeX, cEq, cNe, eqT, cLe, cGe, cGt, cLt, cLtI, cLtS, cIs, cIsNot, isNon, cIn, cNin, cInS, cNinS, cInQ, flatT, eqF, lenT, lenQ, lenS, seqT, isiF, isiInt, isiBool, isiStr, isiTup, intF, subT, addT, addI, setNs, uYes, lim, allG, allGo, lcF, lcGo, wipeE, FL.iRng1, FL.iRng2, rngOk, sumF, intsT, u_is_value, φ_is_pair, u_is_pair, φ_is_tuple_of, u_is_tuple_of, φ_is_number, u_is_number, φ_is_integer, u_is_integer, h]
def oRow (ts : List T) : List T := [.non, .tup (List.replicate (ts.length + 1) zz), .lst ts, zz]
theorem mulRow0 : mulT1 (.tup [zz]) (.int 1) = some (.tup [zz]) := by kernel_rfl
theorem mulRow1 : mulT1 (.tup [zz]) (.int 2) = some (.tup [zz, zz]) := by kernel_rfl
theorem mulRow2 : mulT1 (.tup [zz]) (.int 3) = some (.tup [zz, zz, zz]) := by kernel_rfl
theorem odd_row0 : φ__law_odd [.tup [kRow, .tup []]] dr = some (.lst (oRow []), dr) := by
  simp [runF, sSeq, sIf, sRet, sSet, sNil, sAug, sTup, sPar, sFor, forGo, bN, bN2, iSeq, eVar, eC, eTup, eLst, aNil, aCons, eBin, tB, eChain, eAnd, eOr, eNot, bAnd, bOr, bNot, eIf, eCall, eB, eIx, ixT, L2.atI, L2.ixN, cEqX, cNeX, cEq, cNe, eqT, cLe, cGe, cGt, cLt, cLtI, cLtS, cIs, cIsNot, isNon, cIn, cNin, cInS, cNinS, cInQ, flatT, eqF, lenT, lenQ, lenS, seqT, isiF, isiInt, isiBool, isiStr, isiTup, intF, subT, addT, addI, setNs, uYes, lim, allG, allGo, lcF, lcGo, wipeE, FL.iRng1, FL.iRng2, rngOk, sumF, intsT, φ__law_odd, u__law_odd, oRow, mulRow0, listG, listF, seqT, List.replicate]
theorem odd_row1 : φ__law_odd [.tup [kRow, .tup [a]]] dr = some (.lst (oRow [a]), dr) := by
  simp [runF, sSeq, sIf, sRet, sSet, sNil, sAug, sTup, sPar, sFor, forGo, bN, bN2, iSeq, eVar, eC, eTup, eLst, aNil, aCons, eBin, tB, eChain, eAnd, eOr, eNot, bAnd, bOr, bNot, eIf, eCall, eB, eIx, ixT, L2.atI, L2.ixN, cEqX, cNeX, cEq, cNe, eqT, cLe, cGe, cGt, cLt, cLtI, cLtS, cIs, cIsNot, isNon, cIn, cNin, cInS, cNinS, cInQ, flatT, eqF, lenT, lenQ, lenS, seqT, isiF, isiInt, isiBool, isiStr, isiTup, intF, subT, addT, addI, setNs, uYes, lim, allG, allGo, lcF, lcGo, wipeE, FL.iRng1, FL.iRng2, rngOk, sumF, intsT, φ__law_odd, u__law_odd, oRow, mulRow1, listG, listF, seqT, List.replicate]
theorem odd_row2 : φ__law_odd [.tup [kRow, .tup [a, b]]] dr = some (.lst (oRow [a, b]), dr) := by
  simp [runF, sSeq, sIf, sRet, sSet, sNil, sAug, sTup, sPar, sFor, forGo, bN, bN2, iSeq, eVar, eC, eTup, eLst, aNil, aCons, eBin, tB, eChain, eAnd, eOr, eNot, bAnd, bOr, bNot, eIf, eCall, eB, eIx, ixT, L2.atI, L2.ixN, cEqX, cNeX, cEq, cNe, eqT, cLe, cGe, cGt, cLt, cLtI, cLtS, cIs, cIsNot, isNon, cIn, cNin, cInS, cNinS, cInQ, flatT, eqF, lenT, lenQ, lenS, seqT, isiF, isiInt, isiBool, isiStr, isiTup, intF, subT, addT, addI, setNs, uYes, lim, allG, allGo, lcF, lcGo, wipeE, FL.iRng1, FL.iRng2, rngOk, sumF, intsT, φ__law_odd, u__law_odd, oRow, mulRow2, listG, listF, seqT, List.replicate]
theorem odd_rowF {ts : List T} : ∀ o ∈ oRow ts, ivF r [.tup [kRow, .tup ts], o] dr = some (.bl false, dr) := by
  intro o ho
  simp only [oRow, List.mem_cons, List.not_mem_nil, or_false] at ho
  have h3 : ¬ ((ts.length : Int) + 1 = (ts.length : Int)) := by omega
  rcases ho with rfl | rfl | rfl | rfl <;>
  simp [runF, sSeq, sIf, sRet, sSet, sNil, sAug, sTup, sPar, sFor, forGo, bN, bN2, iSeq, eVar, eC, eTup, eLst, aNil, aCons, eBin, tB, eChain, eAnd, eOr, eNot, bAnd, bOr, bNot, eIf, eCall, eB, eIx, ixT, L2.atI, L2.ixN, cEqX, cNeX, cEq, cNe, eqT, cLe, cGe, cGt, cLt, cLtI, cLtS, cIs, cIsNot, isNon, cIn, cNin, cInS, cNinS, cInQ, flatT, eqF, lenT, lenQ, lenS, seqT, isiF, isiInt, isiBool, isiStr, isiTup, intF, subT, addT, addI, setNs, uYes, lim, allG, allGo, lcF, lcGo, wipeE, FL.iRng1, FL.iRng2, rngOk, sumF, intsT, u_is_value, h3]
abbrev zzz1 : T := .tup [zzz]
abbrev zzz2 : T := .tup [zzz, zzz]
def oMany (l : T) : List T := if l matches .int 0 then [.non, zz, .int 3, zzz1] else [.non, zz, .int 3, zzz2, .tup []]
theorem mulMany0 : mulT1 zzz1 (.int 1) = some zzz1 := by kernel_rfl
theorem mulMany1 : mulT1 zzz1 (.int 2) = some zzz2 := by kernel_rfl
theorem odd_many (hq : (l, m) ∈ lm6) : φ__law_odd [.tup [kMany, a, l, m]] dr = some (.lst (oMany l), dr) := by
  simp only [lm6, List.mem_cons, Prod.mk.injEq, List.not_mem_nil, or_false] at hq
  rcases hq with ⟨rfl, rfl⟩ | ⟨rfl, rfl⟩ | ⟨rfl, rfl⟩ | ⟨rfl, rfl⟩ | ⟨rfl, rfl⟩ | ⟨rfl, rfl⟩ <;>
  simp [runF, sSeq, sIf, sRet, sSet, sNil, sAug, sTup, sPar, sFor, forGo, bN, bN2, iSeq, eVar, eC, eTup, eLst, aNil, aCons, eBin, tB, eChain, eAnd, eOr, eNot, bAnd, bOr, bNot, eIf, eCall, eB, eIx, ixT, L2.atI, L2.ixN, cEqX, cNeX, cEq, cNe, eqT, cLe, cGe, cGt, cLt, cLtI, cLtS, cIs, cIsNot, isNon, cIn, cNin, cInS, cNinS, cInQ, flatT, eqF, lenT, lenQ, lenS, seqT, isiF, isiInt, isiBool, isiStr, isiTup, intF, subT, addT, addI, setNs, uYes, lim, allG, allGo, lcF, lcGo, wipeE, FL.iRng1, FL.iRng2, rngOk, sumF, intsT, φ__law_odd, u__law_odd, oMany, mulMany0, mulMany1]
theorem odd_manyF (hq : (l, m) ∈ lm6) (h : ∀ dr, r [a, zzz] dr = some (.bl false, dr)) : ∀ o ∈ oMany l, ivF r [.tup [kMany, a, l, m], o] dr = some (.bl false, dr) := by
  intro o ho
  simp only [lm6, List.mem_cons, Prod.mk.injEq, List.not_mem_nil, or_false] at hq
  rcases hq with ⟨rfl, rfl⟩ | ⟨rfl, rfl⟩ | ⟨rfl, rfl⟩ | ⟨rfl, rfl⟩ | ⟨rfl, rfl⟩ | ⟨rfl, rfl⟩ <;>
  simp [oMany] at ho <;> (first
    | (rcases ho with rfl | rfl | rfl | rfl | rfl)
    | (rcases ho with rfl | rfl | rfl | rfl)) <;>
  simp [runF, sSeq, sIf, sRet, sSet, sNil, sAug, sTup, sPar, sFor, forGo, bN, bN2, iSeq, eVar, eC, eTup, eLst, aNil, aCons, eBin, tB, eChain, eAnd, eOr, eNot, bAnd, bOr, bNot, eIf, eCall, eB, eIx, ixT, L2.atI, L2.ixN, cEqX, cNeX, cEq, cNe, eqT, cLe, cGe, cGt, cLt, cLtI, cLtS, cIs, cIsNot, isNon, cIn, cNin, cInS, cNinS, cInQ, flatT, eqF, lenT, lenQ, lenS, seqT, isiF, isiInt, isiBool, isiStr, isiTup, intF, subT, addT, addI, setNs, uYes, lim, allG, allGo, lcF, lcGo, wipeE, FL.iRng1, FL.iRng2, rngOk, sumF, intsT, u_is_value, φ_is_between, u_is_between, h]
end
def oddB (t : T) : List T := match φ__law_odd [t] [] with
  | some (.lst os, _) => os
  | _ => [.non]
def ZF (n : Nat) (t : T) : Prop := (∀ dr, φn_is_value n [t, zz] dr = some (.bl false, dr)) ∧ ∀ dr, φn_is_value n [t, zzz] dr = some (.bl false, dr)
def OD (n : Nat) (t : T) : Prop := ∃ os, (∀ dr, φ__law_odd [t] dr = some (.lst os, dr)) ∧ os.length ≤ 100 ∧ ∀ o ∈ os, ∀ dr, φn_is_value n [t, o] dr = some (.bl false, dr)
theorem zf_base {n : Nat} : ∀ t ∈ K01.base, ZF (n + 1) t := fun t ht =>
  ⟨fun dr => of_map (f := fun t => φn_is_value (n + 1) [t, zz] dr) (g := fun t => some (.bl false, dr)) (by kernel_rfl) t ht,
   fun dr => of_map (f := fun t => φn_is_value (n + 1) [t, zzz] dr) (g := fun t => some (.bl false, dr)) (by kernel_rfl) t ht⟩
theorem od_base {n : Nat} : ∀ t ∈ K01.base, OD (n + 1) t := fun t ht => by
  refine ⟨oddB t, fun dr => ?_, ?_, fun v hv dr => ?_⟩
  · exact of_map (f := fun t => φ__law_odd [t] dr) (g := fun t => some (.lst (oddB t), dr)) (by kernel_rfl) t ht
  · exact of_decide_eq_true (of_map (f := fun t => decide ((oddB t).length ≤ 100)) (g := fun t => true) (by kernel_rfl) t ht)
  · exact map_all (of_map (f := fun t => (oddB t).map fun v => φn_is_value (n + 1) [t, v] dr) (g := fun t => (oddB t).map fun v => some (.bl false, dr)) (by kernel_rfl) t ht) v hv
theorem od_step {k n : Nat} (ih : ∀ t, D k t → ZF n t) : ∀ t, D (k + 1) t → ZF (n + 1) t ∧ OD (n + 1) t := by
  intro t ht
  cases ht with
  | base h => exact ⟨zf_base t h, od_base t h⟩
  | @maybe _ a h => exact ⟨⟨fun dr => z_maybe1, fun dr => z_maybe3⟩, _, fun dr => odd_maybe, by simp [oMaybe], fun o ho dr => odd_maybeF (ih _ h).2 o ho⟩
  | row0 => exact ⟨⟨fun dr => z_row1, fun dr => z_row3 (by simp)⟩, _, fun dr => odd_row0, by simp [oRow], fun o ho dr => odd_rowF o ho⟩
  | @row1 _ a h => exact ⟨⟨fun dr => z_row1, fun dr => z_row3 (by simp)⟩, _, fun dr => odd_row1, by simp [oRow], fun o ho dr => odd_rowF o ho⟩
  | @row2 _ a b h g => exact ⟨⟨fun dr => z_row1, fun dr => z_row3 (by simp)⟩, _, fun dr => odd_row2, by simp [oRow], fun o ho dr => odd_rowF o ho⟩
  | @many _ a l m h q => exact ⟨⟨fun dr => z_many1, fun dr => z_many3 q (ih _ h).1⟩, _, fun dr => odd_many q, by unfold oMany; split <;> simp, fun o ho dr => odd_manyF q (ih _ h).2 o ho⟩
  | @case1 _ a h => exact ⟨⟨fun dr => z_case1, fun dr => z_case3⟩, _, fun dr => odd_case, by simp [oCase], fun o ho dr => odd_case1F (ih _ h).2 o ho⟩
  | @case2 _ a b h g => exact ⟨⟨fun dr => z_case1, fun dr => z_case3⟩, _, fun dr => odd_case, by simp [oCase], fun o ho dr => odd_case2F (ih _ h).2 o ho⟩
theorem od_ok {t : T} (h : D 2 t) : ∃ os, (∀ dr, φ__law_odd [t] dr = some (.lst os, dr)) ∧ os.length ≤ 100 ∧ ∀ o ∈ os, ∀ dr, φ_is_value [t, o] dr = some (.bl false, dr) :=
  (od_step (k := 1) (n := 11) (fun t ht => (od_step (k := 0) (n := 10) (fun t ht => zf_base t ht.zero) t ht).1) t h).2
end K01
set_option linter.all false
set_option maxRecDepth 100000
set_option maxHeartbeats 4000000
set_option exponentiation.threshold 1000
namespace K01
open FL
abbrev big1 : Int := 1000000
theorem nx {is : List Int} {n b : Int} (hn : 0 ≤ n) (hn2 : n ≤ big1) (hb : 0 < b) : ∃ r n', φ__law_next [.ref, .int b] (Dr is n) = some (.int r, Dr is n') ∧ 0 ≤ r ∧ r < b ∧ n ≤ n' ∧ n' ≤ n + 1 := by
  obtain ⟨r, h1, h2, h3⟩ := next_ok (is := is) (b := b) hn (by have : big1 = 1000000 := rfl; omega) hb
  exact ⟨r, n + 1, h1, h2, h3, by omega, by omega⟩
theorem pk {is : List Int} {n : Int} {ts : List T} (hn : 0 ≤ n) (hn2 : n ≤ big1) (hts : 0 < ts.length) : ∃ t n', φ__law_pick [.ref, .lst ts] (Dr is n) = some (t, Dr is n') ∧ t ∈ ts ∧ n ≤ n' ∧ n' ≤ n + 1 := by
  obtain ⟨j, t, h1, h2⟩ := pick_ok (is := is) (ts := ts) hn (by have : big1 = 1000000 := rfl; omega) hts
  exact ⟨t, n + 1, h2, List.mem_of_getElem? h1, by omega, by omega⟩
def DS (r : Phi) (k : Nat) (d : Int) (C : Int) : Prop := ∀ (is : List Int) (n : Int), 0 ≤ n → n ≤ 1000 → ∃ t n', r [.ref, .int d] (Dr is n) = some (t, Dr is n') ∧ D k t ∧ n ≤ n' ∧ n' ≤ n + C
abbrev dsF (r : Phi) : Phi := runF 7 2 (u__law_sort r)
theorem int_base {t : T} (h : t ∈ [T.tup [.int 0, .non], .tup [.non, .non], .tup [.int 0, .int 3], .tup [.int (-2), .int 5], .tup [.int 5, .int 12], .tup [.int 0, .int 1], .tup [.non, .int 2], .tup [.int (-4), .int (-1)]]) : ∃ x y, t = .tup [x, y] ∧ T.tup [kInt, x, y] ∈ K01.base := by
  simp only [List.mem_cons, List.not_mem_nil, or_false] at h
  rcases h with rfl | rfl | rfl | rfl | rfl | rfl | rfl | rfl <;> exact ⟨_, _, rfl, List.mem_append_left _ (List.mem_append_left _ (List.mem_map.mpr ⟨(_, _), by simp [ints8], rfl⟩))⟩
theorem lm_mem {l : Int} {m : T} (h0 : l = 0 ∨ l = 1) (h : m ∈ [T.non, .int 2, .int l]) : (T.int l, m) ∈ lm6 := by
  simp only [List.mem_cons, List.not_mem_nil, or_false] at h
  rcases h0 with rfl | rfl <;> rcases h with rfl | rfl | rfl <;> simp [lm6]
theorem word_base {w m : T} {l : Int} (hw : w ∈ [T.str [97, 98], .str [48, 97], .str [45, 101], .str [98], .str [32, 44]]) (h : (T.int l, m) ∈ lm6) : T.tup [kWord, w, .int l, m] ∈ K01.base := by
  refine List.mem_append_left _ (List.mem_append_right _ (List.mem_flatten.mpr ?_))
  simp only [List.mem_cons, List.not_mem_nil, or_false] at hw
  rcases hw with rfl | rfl | rfl | rfl | rfl <;> exact ⟨_, List.mem_map.mpr ⟨_, by simp [words5]; try (first | exact .inl rfl | exact .inr (.inl rfl) | exact .inr (.inr (.inl rfl)) | exact .inr (.inr (.inr (.inl rfl))) | exact .inr (.inr (.inr (.inr rfl)))), rfl⟩, List.mem_map.mpr ⟨(_, _), h, rfl⟩⟩
theorem one_base {l : Int} (h0 : 0 ≤ l) (h : l < 3) : T.tup [kOne, .int (1 + l)] ∈ K01.base := by
  have : l = 0 ∨ l = 1 ∨ l = 2 := by omega
  rcases this with rfl | rfl | rfl <;> exact List.mem_append_right _ (by simp)
section
variable {r : Phi} {is : List Int} {n n1 : Int} {d : Int} {k : Nat}
theorem ds_int {b kd : Int} (hb : ∀ dr : List T, True) (hd : (if d = 0 then (4 : Int) else 10) = b) (h1 : φ__law_next [.ref, .int b] (Dr is n) = some (.int kd, Dr is n1)) (hk : kd < 2) (g0 : 0 ≤ n1) (g1 : n1 ≤ 1001) : ∃ t n', dsF r [.ref, .int d] (Dr is n) = some (t, Dr is n') ∧ t ∈ K01.base ∧ n1 ≤ n' ∧ n' ≤ n1 + 1 := by
  obtain ⟨t, n2, h2, hm, a1, a2⟩ := pk (is := is) (n := n1) (ts := [T.tup [.int 0, .non], .tup [.non, .non], .tup [.int 0, .int 3], .tup [.int (-2), .int 5], .tup [.int 5, .int 12], .tup [.int 0, .int 1], .tup [.non, .int 2], .tup [.int (-4), .int (-1)]]) g0 (by have : big1 = 1000000 := rfl; omega) (by decide)
  obtain ⟨x, y, rfl, hx⟩ := int_base hm
  refine ⟨_, n2, ?_, hx, a1, a2⟩
  subst hd
  by_cases h0 : d = 0 <;>
  (simp only [h0, if_true, if_false] at h1
   simp [runF, sSeq, sIf, sRet, sSet, sNil, sAug, sTup, sPar, sFor, forGo, bN, bN2, iSeq, eVar, eC, eTup, eLst, aNil, aCons, eBin, tB, eChain, eAnd, eOr, eNot, bAnd, bOr, bNot, eIf, eCall, eB, eIx, ixT, L2.atI, L2.ixN, cEqX, cNeX, cEq, cNe, eqT, cLe, cGe, cGt, cLt, cLtI, cLtS, cIs, cIsNot, isNon, cIn, cNin, cInS, cNinS, cInQ, flatT, eqF, lenT, lenQ, lenS, seqT, isiF, isiInt, isiBool, isiStr, isiTup, intF, subT, addT, addI, setNs, uYes, lim, allG, allGo, lcF, lcGo, wipeE, FL.iRng1, FL.iRng2, rngOk, sumF, intsT, u__law_sort, h0, h1, hk, h2, eNeg])
theorem ds_word {b : Int} (hd : (if d = 0 then (4 : Int) else 10) = b) (h1 : φ__law_next [.ref, .int b] (Dr is n) = some (.int 2, Dr is n1)) (g0 : 0 ≤ n1) (g1 : n1 ≤ 1001) : ∃ t n', dsF r [.ref, .int d] (Dr is n) = some (t, Dr is n') ∧ t ∈ K01.base ∧ n1 ≤ n' ∧ n' ≤ n1 + 3 := by
  have hb : big1 = 1000000 := rfl
  obtain ⟨l, n2, h2, l0, l1, a1, a2⟩ := nx (is := is) (n := n1) (b := 2) g0 (by omega) (by decide)
  obtain ⟨w, n3, h3, hw, a3, a4⟩ := pk (is := is) (n := n2) (ts := [T.str [97, 98], .str [48, 97], .str [45, 101], .str [98], .str [32, 44]]) (by omega) (by omega) (by decide)
  obtain ⟨m, n4, h4, hm, a5, a6⟩ := pk (is := is) (n := n3) (ts := [T.non, .int 2, .int l]) (by omega) (by omega) (by simp)
  refine ⟨_, n4, ?_, word_base hw (lm_mem (l := l) (by omega) hm), by omega, by omega⟩
  subst hd
  by_cases h0 : d = 0 <;>
  (simp only [h0, if_true, if_false] at h1
   simp [runF, sSeq, sIf, sRet, sSet, sNil, sAug, sTup, sPar, sFor, forGo, bN, bN2, iSeq, eVar, eC, eTup, eLst, aNil, aCons, eBin, tB, eChain, eAnd, eOr, eNot, bAnd, bOr, bNot, eIf, eCall, eB, eIx, ixT, L2.atI, L2.ixN, cEqX, cNeX, cEq, cNe, eqT, cLe, cGe, cGt, cLt, cLtI, cLtS, cIs, cIsNot, isNon, cIn, cNin, cInS, cNinS, cInQ, flatT, eqF, lenT, lenQ, lenS, seqT, isiF, isiInt, isiBool, isiStr, isiTup, intF, subT, addT, addI, setNs, uYes, lim, allG, allGo, lcF, lcGo, wipeE, FL.iRng1, FL.iRng2, rngOk, sumF, intsT, u__law_sort, h0, h1, h2, h3, h4])
theorem ds_one {b : Int} (hd : (if d = 0 then (4 : Int) else 10) = b) (h1 : φ__law_next [.ref, .int b] (Dr is n) = some (.int 3, Dr is n1)) (g0 : 0 ≤ n1) (g1 : n1 ≤ 1001) : ∃ t n', dsF r [.ref, .int d] (Dr is n) = some (t, Dr is n') ∧ t ∈ K01.base ∧ n1 ≤ n' ∧ n' ≤ n1 + 3 := by
  have hb : big1 = 1000000 := rfl
  obtain ⟨l, n2, h2, l0, l1, a1, a2⟩ := nx (is := is) (n := n1) (b := 3) g0 (by omega) (by decide)
  refine ⟨_, n2, ?_, one_base l0 l1, by omega, by omega⟩
  subst hd
  by_cases h0 : d = 0 <;>
  (simp only [h0, if_true, if_false] at h1
   simp [runF, sSeq, sIf, sRet, sSet, sNil, sAug, sTup, sPar, sFor, forGo, bN, bN2, iSeq, eVar, eC, eTup, eLst, aNil, aCons, eBin, tB, eChain, eAnd, eOr, eNot, bAnd, bOr, bNot, eIf, eCall, eB, eIx, ixT, L2.atI, L2.ixN, cEqX, cNeX, cEq, cNe, eqT, cLe, cGe, cGt, cLt, cLtI, cLtS, cIs, cIsNot, isNon, cIn, cNin, cInS, cNinS, cInQ, flatT, eqF, lenT, lenQ, lenS, seqT, isiF, isiInt, isiBool, isiStr, isiTup, intF, subT, addT, addI, setNs, uYes, lim, allG, allGo, lcF, lcGo, wipeE, FL.iRng1, FL.iRng2, rngOk, sumF, intsT, u__law_sort, h0, h1, h2])
theorem ds_zero : DS (dsF r) 0 0 4 := by
  intro is n hn hn2
  obtain ⟨kd, n1, h1, k0, k1, a1, a2⟩ := nx (is := is) (n := n) (b := 4) hn (by have : big1 = 1000000 := rfl; omega) (by decide)
  by_cases hk : kd < 2
  · obtain ⟨t, n', e1, e2, e3, e4⟩ := ds_int (r := r) (d := 0) (fun _ => trivial) rfl h1 hk (by omega) (by omega)
    exact ⟨t, n', e1, .base e2, by omega, by omega⟩
  · have : kd = 2 ∨ kd = 3 := by omega
    rcases this with rfl | rfl
    · obtain ⟨t, n', e1, e2, e3, e4⟩ := ds_word (r := r) (d := 0) rfl h1 (by omega) (by omega)
      exact ⟨t, n', e1, .base e2, by omega, by omega⟩
    · obtain ⟨t, n', e1, e2, e3, e4⟩ := ds_one (r := r) (d := 0) rfl h1 (by omega) (by omega)
      exact ⟨t, n', e1, .base e2, by omega, by omega⟩
theorem ds_step {C M : Int} (hC0 : 0 ≤ C) (hC : C ≤ 20) (hM : M ≤ 300) (hd : d ≠ 0) (ih : ∀ (is : List Int) (n : Int), 0 ≤ n → n ≤ M + 50 → ∃ t n', r [.ref, .int (d - 1)] (Dr is n) = some (t, Dr is n') ∧ D k t ∧ n ≤ n' ∧ n' ≤ n + C) :
    ∀ (is : List Int) (n : Int), 0 ≤ n → n ≤ M → ∃ t n', dsF r [.ref, .int d] (Dr is n) = some (t, Dr is n') ∧ D (k + 1) t ∧ n ≤ n' ∧ n' ≤ n + (2 * C + 6) := by
  intro is n hn hn2
  have hb : big1 = 1000000 := rfl
  obtain ⟨kd, n1, h1, k0, k1, a1, a2⟩ := nx (is := is) (n := n) (b := 10) hn (by omega) (by decide)
  have hd' : (if d = 0 then (4 : Int) else 10) = 10 := if_neg hd
  by_cases hk : kd < 2
  · obtain ⟨t, n', e1, e2, e3, e4⟩ := ds_int (r := r) (d := d) (fun _ => trivial) hd' h1 hk (by omega) (by omega)
    exact ⟨t, n', e1, .base e2, by omega, by omega⟩
  have h9 : kd = 2 ∨ kd = 3 ∨ kd = 4 ∨ kd = 8 ∨ kd = 9 ∨ (¬ kd < 2 ∧ kd ≠ 2 ∧ kd ≠ 3 ∧ kd ≠ 4 ∧ kd < 8) := by omega
  rcases h9 with rfl | rfl | rfl | rfl | rfl | ⟨q1, q2, q3, q4, q5⟩
  · obtain ⟨t, n', e1, e2, e3, e4⟩ := ds_word (r := r) (d := d) hd' h1 (by omega) (by omega)
    exact ⟨t, n', e1, .base e2, by omega, by omega⟩
  · obtain ⟨t, n', e1, e2, e3, e4⟩ := ds_one (r := r) (d := d) hd' h1 (by omega) (by omega)
    exact ⟨t, n', e1, .base e2, by omega, by omega⟩
  · obtain ⟨a, n2, h2, da, a3, a4⟩ := ih is n1 (by omega) (by omega)
    refine ⟨_, n2, ?_, .maybe da, by omega, by omega⟩
    simp [runF, sSeq, sIf, sRet, sSet, sNil, sAug, sTup, sPar, sFor, forGo, bN, bN2, iSeq, eVar, eC, eTup, eLst, aNil, aCons, eBin, tB, eChain, eAnd, eOr, eNot, bAnd, bOr, bNot, eIf, eCall, eB, eIx, ixT, L2.atI, L2.ixN, cEqX, cNeX, cEq, cNe, eqT, cLe, cGe, cGt, cLt, cLtI, cLtS, cIs, cIsNot, isNon, cIn, cNin, cInS, cNinS, cInQ, flatT, eqF, lenT, lenQ, lenS, seqT, isiF, isiInt, isiBool, isiStr, isiTup, intF, subT, addT, addI, setNs, uYes, lim, allG, allGo, lcF, lcGo, wipeE, FL.iRng1, FL.iRng2, rngOk, sumF, intsT, u__law_sort, hd, h1, h2]
  · obtain ⟨l, n2, h2, l0, l1, a3, a4⟩ := nx (is := is) (n := n1) (b := 2) (by omega) (by omega) (by decide)
    obtain ⟨a, n3, h3, da, a5, a6⟩ := ih is n2 (by omega) (by omega)
    obtain ⟨m, n4, h4, hm, a7, a8⟩ := pk (is := is) (n := n3) (ts := [T.non, .int 2, .int l]) (by omega) (by omega) (by simp)
    refine ⟨_, n4, ?_, .many da (lm_mem (l := l) (by omega) hm), by omega, by omega⟩
    simp [runF, sSeq, sIf, sRet, sSet, sNil, sAug, sTup, sPar, sFor, forGo, bN, bN2, iSeq, eVar, eC, eTup, eLst, aNil, aCons, eBin, tB, eChain, eAnd, eOr, eNot, bAnd, bOr, bNot, eIf, eCall, eB, eIx, ixT, L2.atI, L2.ixN, cEqX, cNeX, cEq, cNe, eqT, cLe, cGe, cGt, cLt, cLtI, cLtS, cIs, cIsNot, isNon, cIn, cNin, cInS, cNinS, cInQ, flatT, eqF, lenT, lenQ, lenS, seqT, isiF, isiInt, isiBool, isiStr, isiTup, intF, subT, addT, addI, setNs, uYes, lim, allG, allGo, lcF, lcGo, wipeE, FL.iRng1, FL.iRng2, rngOk, sumF, intsT, u__law_sort, hd, h1, h2, h3, h4]
  · obtain ⟨c, n2, h2, l0, l1, a3, a4⟩ := nx (is := is) (n := n1) (b := 2) (by omega) (by omega) (by decide)
    obtain ⟨a, n3, h3, da, a5, a6⟩ := ih is n2 (by omega) (by omega)
    have : c = 0 ∨ c = 1 := by omega
    rcases this with rfl | rfl
    · refine ⟨_, n3, ?_, .case1 da, by omega, by omega⟩
      simp [runF, sSeq, sIf, sRet, sSet, sNil, sAug, sTup, sPar, sFor, forGo, bN, bN2, iSeq, eVar, eC, eTup, eLst, aNil, aCons, eBin, tB, eChain, eAnd, eOr, eNot, bAnd, bOr, bNot, eIf, eCall, eB, eIx, ixT, L2.atI, L2.ixN, cEqX, cNeX, cEq, cNe, eqT, cLe, cGe, cGt, cLt, cLtI, cLtS, cIs, cIsNot, isNon, cIn, cNin, cInS, cNinS, cInQ, flatT, eqF, lenT, lenQ, lenS, seqT, isiF, isiInt, isiBool, isiStr, isiTup, intF, subT, addT, addI, setNs, uYes, lim, allG, allGo, lcF, lcGo, wipeE, FL.iRng1, FL.iRng2, rngOk, sumF, intsT, u__law_sort, hd, h1, h2, h3, rg1, tupF, seqT]
    · obtain ⟨b, n4, h4, db, a7, a8⟩ := ih is n3 (by omega) (by omega)
      refine ⟨_, n4, ?_, .case2 da db, by omega, by omega⟩
      simp [runF, sSeq, sIf, sRet, sSet, sNil, sAug, sTup, sPar, sFor, forGo, bN, bN2, iSeq, eVar, eC, eTup, eLst, aNil, aCons, eBin, tB, eChain, eAnd, eOr, eNot, bAnd, bOr, bNot, eIf, eCall, eB, eIx, ixT, L2.atI, L2.ixN, cEqX, cNeX, cEq, cNe, eqT, cLe, cGe, cGt, cLt, cLtI, cLtS, cIs, cIsNot, isNon, cIn, cNin, cInS, cNinS, cInQ, flatT, eqF, lenT, lenQ, lenS, seqT, isiF, isiInt, isiBool, isiStr, isiTup, intF, subT, addT, addI, setNs, uYes, lim, allG, allGo, lcF, lcGo, wipeE, FL.iRng1, FL.iRng2, rngOk, sumF, intsT, u__law_sort, hd, h1, h2, h3, h4, rg2, tupF, seqT]
  · obtain ⟨c, n2, h2, l0, l1, a3, a4⟩ := nx (is := is) (n := n1) (b := 3) (by omega) (by omega) (by decide)
    have : c = 0 ∨ c = 1 ∨ c = 2 := by omega
    rcases this with rfl | rfl | rfl
    · refine ⟨_, n2, ?_, .row0, by omega, by omega⟩
      simp [runF, sSeq, sIf, sRet, sSet, sNil, sAug, sTup, sPar, sFor, forGo, bN, bN2, iSeq, eVar, eC, eTup, eLst, aNil, aCons, eBin, tB, eChain, eAnd, eOr, eNot, bAnd, bOr, bNot, eIf, eCall, eB, eIx, ixT, L2.atI, L2.ixN, cEqX, cNeX, cEq, cNe, eqT, cLe, cGe, cGt, cLt, cLtI, cLtS, cIs, cIsNot, isNon, cIn, cNin, cInS, cNinS, cInQ, flatT, eqF, lenT, lenQ, lenS, seqT, isiF, isiInt, isiBool, isiStr, isiTup, intF, subT, addT, addI, setNs, uYes, lim, allG, allGo, lcF, lcGo, wipeE, FL.iRng1, FL.iRng2, rngOk, sumF, intsT, u__law_sort, hd, h1, h2, q1, q2, q3, q4, q5, rg0, tupF, seqT]
    · obtain ⟨a, n3, h3, da, a5, a6⟩ := ih is n2 (by omega) (by omega)
      refine ⟨_, n3, ?_, .row1 da, by omega, by omega⟩
      simp [runF, sSeq, sIf, sRet, sSet, sNil, sAug, sTup, sPar, sFor, forGo, bN, bN2, iSeq, eVar, eC, eTup, eLst, aNil, aCons, eBin, tB, eChain, eAnd, eOr, eNot, bAnd, bOr, bNot, eIf, eCall, eB, eIx, ixT, L2.atI, L2.ixN, cEqX, cNeX, cEq, cNe, eqT, cLe, cGe, cGt, cLt, cLtI, cLtS, cIs, cIsNot, isNon, cIn, cNin, cInS, cNinS, cInQ, flatT, eqF, lenT, lenQ, lenS, seqT, isiF, isiInt, isiBool, isiStr, isiTup, intF, subT, addT, addI, setNs, uYes, lim, allG, allGo, lcF, lcGo, wipeE, FL.iRng1, FL.iRng2, rngOk, sumF, intsT, u__law_sort, hd, h1, h2, h3, q1, q2, q3, q4, q5, rg1, tupF, seqT]
    · obtain ⟨a, n3, h3, da, a5, a6⟩ := ih is n2 (by omega) (by omega)
      obtain ⟨b, n4, h4, db, a7, a8⟩ := ih is n3 (by omega) (by omega)
      refine ⟨_, n4, ?_, .row2 da db, by omega, by omega⟩
      simp [runF, sSeq, sIf, sRet, sSet, sNil, sAug, sTup, sPar, sFor, forGo, bN, bN2, iSeq, eVar, eC, eTup, eLst, aNil, aCons, eBin, tB, eChain, eAnd, eOr, eNot, bAnd, bOr, bNot, eIf, eCall, eB, eIx, ixT, L2.atI, L2.ixN, cEqX, cNeX, cEq, cNe, eqT, cLe, cGe, cGt, cLt, cLtI, cLtS, cIs, cIsNot, isNon, cIn, cNin, cInS, cNinS, cInQ, flatT, eqF, lenT, lenQ, lenS, seqT, isiF, isiInt, isiBool, isiStr, isiTup, intF, subT, addT, addI, setNs, uYes, lim, allG, allGo, lcF, lcGo, wipeE, FL.iRng1, FL.iRng2, rngOk, sumF, intsT, u__law_sort, hd, h1, h2, h3, h4, q1, q2, q3, q4, q5, rg2, tupF, seqT]
end
theorem sort_ok (is : List Int) : ∃ t n', φ__law_sort [.ref, .int 2] (Dr is 0) = some (t, Dr is n') ∧ D 2 t := by
  have h0 : ∀ (is : List Int) (n : Int), 0 ≤ n → n ≤ 250 + 50 → ∃ t n', φn__law_sort 10 [.ref, .int ((1 : Int) - 1)] (Dr is n) = some (t, Dr is n') ∧ D 0 t ∧ n ≤ n' ∧ n' ≤ n + 4 := fun is n a b => ds_zero (r := φn__law_sort 9) is n a (by omega)
  have h1 : ∀ (is : List Int) (n : Int), 0 ≤ n → n ≤ 200 + 50 → ∃ t n', φn__law_sort 11 [.ref, .int ((2 : Int) - 1)] (Dr is n) = some (t, Dr is n') ∧ D 1 t ∧ n ≤ n' ∧ n' ≤ n + 14 := fun is n a b => ds_step (d := 1) (C := 4) (M := 250) (by decide) (by decide) (by decide) (by decide) h0 is n a (by omega)
  obtain ⟨t, n', e1, e2, _⟩ := ds_step (d := 2) (C := 14) (M := 200) (by decide) (by decide) (by decide) (by decide) h1 is 0 (by decide) (by decide)
  exact ⟨t, n', e1, e2⟩
end K01
set_option linter.all false
set_option maxRecDepth 100000
set_option maxHeartbeats 4000000
namespace K01
open PySem PySem.Spec PyProof.Rows L2 GxR GA EXO FL HX L2H HotX XX
abbrev s_check : Stmt := top 15
abbrev s_law : Stmt := top 46
theorem sc_check : FnScope ["thing"] ["thing"] (defScope s_check) := ⟨rfl, rfl, rfl, by decide +kernel, rfl, by decide +kernel, by decide +kernel⟩
theorem sc_law : FnScope ["script", "draw", "sort", "thing", "e", "one"] ["script"] (defScope s_law) := ⟨rfl, rfl, rfl, by decide +kernel, rfl, by decide +kernel, by decide +kernel⟩
/-- what check_sort promises -/
def spCk (p : Pm) (C0 : Addr) : Sp := fun vs H Q E => ∃ ex t dr b dr', Reps { p with ex := ex } H [t] vs ∧ Ok { p with ex := ex } H dr ∧ φ_is_sort [t] dr = some (.bl b, dr') ∧
  (b = true → ∀ H', Ext { p with ex := ex } H H' → Ok { p with ex := ex } H' dr' → Q .non H') ∧ (b = false → ∀ d fs H', Ext { p with ex := ex } H H' → Ok { p with ex := ex } H' dr' → H' d = some (exd d fs) → E (.ref C0) (some d) H')
/-- the class of the error -/
structure ClB (K : PySem.W.Frag) (mg : Str → Option Value) (CF C0 g0 : Addr) : Prop where
  gF : mg "FormatError" = some (.ref CF)
  gm : mg "BadSort" = some (.ref C0)
  ex : ExC K C0
  ty : PySem.W.typeIn K (.ref C0) = some (.type "type")
  x0 : Tx1 K C0 g0 "thing"
  kF : PySem.W.kitOne K (.ref C0) (.ref CF) = some true
  te : PySem.W.exmOne K (.ref C0) (.ref C0) = some true
section
variable {P : Program} {w : World} {K : PySem.W.Frag} {mg : Str → Option Value} {base : Heap} {f g cA : Addr} {fd gd : FuncData} {CF C0 g0 : Addr} {p : Pm}
theorem ok_check (hK : p.K = K) (F : FunC K "check_sort" s_check f fd cA) (T : ClB K mg CF C0 g0) {kk : Nat} (hkk : 1 ≤ kk) (G : FnF P w K mg base kk g gd ["thing"] p φ_is_sort) (mG : mg "is_sort" = some (.ref g)) (kG : PySem.W.keepIn K (.ref g) = true) (bG : Binds K gd ["thing"] []) :
    FnOk P w K mg base (L2N.CX P w) (kk + 1) f fd ["thing"] (spCk p C0) := by
  obtain ⟨oc, od, kV, doc, pm', an, ct, osl, rfl, lk, hcd⟩ := F.ex
  refine fn_of lk hcd sc_check (fun vs H Q E ⟨ex, t, dr, b, dr', r, _⟩ => by rw [r.length]; rfl) fun A outer s H vs Q E hr ⟨ex, t, dr, b, dr', r, o, hf, q1, q2⟩ => ⟨_, pss_one (ps_if (sb_not (sb_val (se_call (p := { p with ex := ex }) (spF_ex G) hr (Nat.le_refl _) mG kG bG (sa_cons (se_var (pv 0)) sa_nil))))
      (pss_one (L2N.ps_raise rfl (L2N.takes_of rfl rfl rfl rfl) (pmk_e T.ex T.ty T.x0.iC T.x0.tC (ini_thing T.ex T.x0) (by decide) (hr.mono hkk) rfl T.gm (ta := tA { p with ex := ex } (aCons (eVar 0) aNil)) (sa_cons (se_var (pv 0)) sa_nil)))) pss_nil), ?_⟩
  have hR : RelS { p with ex := ex } H (L2.start ["thing"] vs) [some t] := rel_start (N := ["thing"]) r
  have he : eCall 1 φ_is_sort (aCons (eVar 0) aNil) [some t] dr = some (.bl b, dr') := hf
  refine ⟨[some t], dr, !b, dr', hR, o, ?_, fun H1 e1 o1 => ?_⟩
  · show (match FL.tB (eCall 1 φ_is_sort (aCons (eVar 0) aNil)) [some t] dr with | some (b, dr1) => some (!b, dr1) | none => none) = _
    rw [tB_eq he]
  cases b with
  | true =>
    refine iteF ?_
    exact q1 rfl H1 e1 o1
  | false =>
    refine iteT ?_
    refine ⟨[some t], dr', [t], dr', hR.ext e1, o1, rfl, fun us H2 e2 r2 o2 => ⟨r2.length, fun d hd => ?_⟩⟩
    exact q2 rfl d _ _ (e1.trans (e2.trans (.same (same_new hd _)))) (o2.same (same_new hd _)) upd_same
/-- check_sort of what is a sort -/
def φCk : Phi := fun ts dr => match φ_is_sort ts dr with
  | some (.bl true, dr') => some (.non, dr')
  | _ => none
variable {X : Cx}
theorem se_ck {j kk : Nat} {pp pos : Pos} {e : Expr} {ef : EF} (F : FnOk X.prog X.w X.K X.mg X.base (L2N.CX X.prog X.w) kk f fd ["thing"] (spCk p C0)) (hr : Room j X.A) (hkj : kk ≤ j) (hm : X.mg "check_sort" = some (.ref f)) (hk : PySem.W.keepIn X.K (.ref f) = true) (hb : Binds X.K fd ["thing"] []) (ha : SE p X e ef) (hg : Gl X "check_sort" := by rfl)
    (he : starEach [e] X.env = (false, eval e X.env) :: starEach [] X.env := by rfl) (hpl : (backTo pos (starEach [] X.env)).any (·.1) = false := by rfl) :
    SE p X (.Call (.Name "check_sort" pp) [e] [] pos) (eCall 1 φCk (aCons ef aNil)) :=
  pe_imp (pe_callS (E := fun _ => L2.E0) F (hr.mono hkj) hg hm hk hb (fun σ pins H s u s' I c => by obtain ⟨_, _, _, _, _, _, _, _, _, _, _, _, hE⟩ := c; exact hE.elim) (sa_cons ha sa_nil he) (by decide) he hpl) fun σ H Q ⟨env, dr, t, dr', hR, hO, hf, q⟩ => by
    unfold eCall aCons aNil at hf
    cases h1 : ef env dr with
    | none => rw [h1] at hf; cases hf
    | some z =>
      obtain ⟨a, dr1⟩ := z
      rw [h1] at hf
      dsimp only at hf
      have hf : φCk [a] dr1 = some (t, dr') := hf
      unfold φCk at hf
      split at hf
      · rename_i dr2 h2
        cases hf
        refine ⟨env, dr, [a], dr1, hR, hO, by unfold aCons aNil; rw [h1], fun vs H1 e1 r1 o1 => ?_⟩
        exact ⟨p.ex, a, dr1, true, _, r1, o1, h2, fun _ H' e' o' => q _ H' (e1.trans e') rfl o', fun z => nomatch z⟩
      · cases hf
/-- try: check_sort(thing); return False; except BadSort as e: if is_sort(thing) or not isinstance(e, FormatError): return False -/
def sTryK : SF := fun env dr => match env[3]? with
  | some (some t) => (match φ_is_sort [t] dr with
    | some (.bl false, dr1) => (match φ_is_sort [t] dr1 with
      | some (.bl false, dr2) => if 4 < env.length then some (.nx (env.set 4 none), dr2) else none
      | _ => none)
    | _ => none)
  | _ => none
/-- isinstance(e, FormatError) in the suite -/
def tIns (K : PySem.W.Frag) (CF a : Addr) (cls : Value) (d : Option Addr) : TE := tCB (rIsc K a cls d) (L2.tCons (L2.tVar 4) (L2.tCons (L2.tC (.ref CF)) L2.tNil))
def tSuite (p : Pm) (K : PySem.W.Frag) (CF : Addr) : Addr → Value → Option Addr → TS := fun a cls d =>
  tIfS (tOr (tT p (FL.tB (eCall 1 φ_is_sort (aCons (eVar 3) aNil)))) (tNot (L2.tB (tIns K CF a cls d)))) (L2.tRet (L2.tC (.bl false))) tNext
def tBody (p : Pm) (C0 : Addr) (W : WX) : TS := tSeq (tDrop (tCallS (spCk p C0) (WE W) (tA p (aCons (eVar 3) aNil)))) (L2.tRet (L2.tC (.bl false)))
theorem try_pure (T : ClB K mg CF C0 g0) {D : Ends} {σ : L2.St} {H : Hp} (h : tS p sTryK D σ H) : tBody p C0 (wAs K (.ref C0) 4 (tSuite p K CF) (fun _ _ _ _ => False) D) D σ H := by
  obtain ⟨env, dr, o, dr', hR, hO, hf, q⟩ := h
  unfold sTryK at hf
  split at hf
  · rename_i t h3
    split at hf
    · rename_i dr1 h1
      split at hf
      · rename_i dr2 h2
        split at hf
        case isFalse => cases hf
        rename_i hl'
        have hl : 4 < σ.length := by rw [hR.1]; exact hl'
        cases hf
        have hv : eVar 3 env dr = some (t, dr) := by unfold eVar; rw [h3]
        refine ⟨env, dr, [t], dr, hR, hO, aCons_eq hv rfl, fun vs H1 e1 r1 o1 => ?_⟩
        refine ⟨p.ex, t, dr, false, dr1, r1, o1, h1, (fun z => nomatch z), fun _ dd fs H2 e2 o2 hdd => ?_⟩
        refine ⟨true, T.te, fun _ a na => ?_, fun z => nomatch z⟩
        have e02 := e1.trans e2
        have hR2 : RelS p H2 (σ.set 4 (some (.ref a))) (env.set 4 none) := RelS.hide (hR.ext e02) _ 4
        have hv2 : ∀ dr, eVar 3 (env.set 4 none) dr = some (t, dr) := fun dr => by
          unfold eVar
          rw [List.getElem?_set_ne (by decide), h3]
        refine ⟨env.set 4 none, dr1, false, dr', hR2, o2, ?_, fun H3 e3 o3 => ?_⟩
        · unfold FL.tB
          rw [eCall_eq (n := 1) (ts := [t]) (aCons_eq (l := aNil) (hv2 dr1) rfl) rfl h2]
        · refine iteF ?_
          -- isinstance
          have hs4 : (σ.set 4 (some (.ref a)))[4]? = some (some (V.ref a)) := List.getElem?_set_self hl
          refine ⟨.ref a, hs4, C0, dd, fs, .ref CF, .ref CF, true, rfl, T.ex, rfl, rfl, .own CF, e3.ext _ _ hdd, T.kF, ?_⟩
          refine ⟨true, rfl, ?_⟩
          refine iteF ?_
          have e03 := e02.trans e3
          refine q _ H3 e03 ?_ o3
          have : (σ.set 4 (some (.ref a))).set 4 none = σ.set 4 none := List.set_set ..
          show RelS p H3 ((σ.set 4 (some (.ref a))).set 4 none) (env.set 4 none)
          rw [this]
          exact RelS.hide (hR.ext e03) _ 4
      · cases hf
    · cases hf
  · cases hf
abbrev NL : List Str := ["script", "draw", "sort", "thing", "e", "one"]
theorem ss_try {kk kh j : Nat} {fC fS : Addr} {fdC fdS : FuncData} {A : Around} {outer : List PySem.Env} {s : Shared} {H : Hp} {E : XK} {p1 p2 p3 p4 p5 p6 q1 q2 q3 q4 q5 q6 q7 q8 q9 q10 r1 r2 np pos pos' : Pos} {k1 k2 : Nat}
    (T : ClB K mg CF C0 g0) (hr : Room j (A.deeper (envOfC "law" (defScope s_law) s.heap.objs.size f (.ref cA)))) (FC : FnOk P w K mg base (L2N.CX P w) kk fC fdC ["thing"] (spCk p C0)) (hkj : kk ≤ j) (mC : mg "check_sort" = some (.ref fC)) (kC : PySem.W.keepIn K (.ref fC) = true) (bC : Binds K fdC ["thing"] [])
    (FS : FnHF P w K mg base kh fS fdS ["thing"] p φ_is_sort) (hhj : kh ≤ j) (mS : mg "is_sort" = some (.ref fS)) (kS : PySem.W.keepIn K (.ref fS) = true) (bS : Binds K fdS ["thing"] []) (mi : mg "isinstance" = none) :
    SS p (cxOf L2.CX0 P w K mg base NL "law" (defScope s_law) f (.ref cA) A outer s H E).nox (.Try [.Expr (.Call (.Name "check_sort" p1) [.Name "thing" p2] [] p3) p4, .Return (some (.Constant (.bool false) k1 p5)) p6]
      [.ExceptHandler (some (.Name "BadSort" np)) (some "e") [.If (.BoolOp .Or [.Call (.Name "is_sort" q1) [.Name "thing" q2] [] q3, .UnaryOp .Not (.Call (.Name "isinstance" q4) [.Name "e" q5, .Name "FormatError" q6] [] q7) q8] q9) [.Return (some (.Constant (.bool false) k2 r1)) r2] [] q10] pos'] [] [] pos) sTryK :=
  ps_imp (L2N.ps_try_as (X := (cxOf L2.CX0 P w K mg base NL "law" (defScope s_law) f (.ref cA) A outer s H E).nox) (i := 4) (c := .ref C0) (tb := tBody p C0) (ts := tSuite p K CF) (Wout := fun _ _ _ _ => False) rfl rfl sc_law.nd rfl rfl ⟨rfl, by decide, .inl T.gm⟩ takes_noneN
    (fun W pn xe tk hp => pss_cons (ps_expr (pe_callS FC (hr.mono hkj) rfl mC kC bC (fun σ => L2N.passAt tk σ) (sa_cons (se_var (pv 3)) sa_nil))) (pss_one (L2.ps_ret pe_bl)))
    (fun a oe cls d pn hz hfd => pss_one (ps_if (PW.pt (pw_or (sb_val (se_callH FS (room_suite hr) hhj (hot_suite hz hfd) mS kS bS (sa_cons (se_var (pv 3)) sa_nil))) (pw_or1 (pt_not (pt_val (pe_callB (call_isc hz.zc hfd) rfl mi PyProof.Rows.boot_isinstance (pa_cons (pv 4) (pa_cons (pe_glob rfl T.gF rfl) pa_nil))))))))
      (pss_one (L2.ps_ret pe_bl)) pss_nil))) fun D σ H h => try_pure T h
end
end K01
set_option linter.all false
set_option maxRecDepth 100000
set_option maxHeartbeats 4000000
namespace K01
open PySem PySem.Spec PyProof.Rows L2 GxR GA EXO FL HX L2H HotX XX
theorem pss_ex {α : Type} {X : Cx} {l : List Stmt} {t : α → TS} (h : ∀ d, PSs X l (t d)) : PSs X l (fun D σ H => ∃ d, t d D σ H) := ⟨fun pins s σ H D I ⟨d, q⟩ => (h d).run pins s σ H D I q⟩
abbrev pmT (K : PySem.W.Frag) (tabs : List Addr) (d : Option Addr) : Pm := ⟨K, d, tabs, [], []⟩
def uP0 : SF := sIf (bAnd (tB (eBin cLt (eB lenT (aCons (eVar 0) aNil)) (eC (.int 3)))) (bNot (tB (eCall 0 φ__law_refuses_known aNil)))) (sRet (eC (.bl false))) (sNil)
def uP1 : SF := sSet 1 (eLst (aCons (eSlHi (eVar 0) (eC (.int 63))) (aCons (eC (.int 0)) (aCons (eC (.int 0)) aNil))))
def uR0 : SF := sSet 2 (eCall 2 φ__law_sort (aCons (eVar 1) (aCons (eC (.int 2)) aNil)))
def uR1 : SF := sExp (eCall 1 φCk (aCons (eVar 2) aNil))
def uR2 : SF := sIf (bOr (bNot (tB (eCall 1 φ_is_sort (aCons (eVar 2) aNil)))) (tB (eBin cNeX (eCall 1 φ_how_many_values (aCons (eVar 2) aNil)) (eCall 1 φ__law_many (aCons (eVar 2) aNil))))) (sRet (eC (.bl false))) (sNil)
def uR3 : SF := sIf (bOr (bNot (tB (eB allF (aCons (lcF (iSeq (eCall 2 φ__law_values (aCons (eVar 2) (aCons (eC (.int 30)) aNil)))) (bN 5) (uYes) (eCall 2 φ_is_value (aCons (eVar 2) (aCons (eVar 5) aNil))) [5]) aNil)))) (tB (eB anyF (aCons (lcF (iSeq (eCall 1 φ__law_odd (aCons (eVar 2) aNil))) (bN 5) (uYes) (eCall 2 φ_is_value (aCons (eVar 2) (aCons (eVar 5) aNil))) [5]) aNil)))) (sRet (eC (.bl false))) (sNil)
def uR4 : SF := sFor (iSeq (eCall 0 φ__law_wrong aNil)) (bN 3) (sTryK)
def uR5 : SF := sRet (eAnd (eCall 1 φ_is_sort (aCons (eTup (aCons (eC (.str [114, 111, 119])) (aCons (eTup (aCons (eTup (aCons (eC (.str [114, 111, 119])) (aCons (eBin mulT1 (eTup (aCons (eTup (aCons (eC (.str [111, 110, 101])) (aCons (eC (.int 1)) aNil))) aNil)) (eC (.int 6))) aNil))) (aCons (eTup (aCons (eC (.str [114, 111, 119])) (aCons (eBin mulT1 (eTup (aCons (eTup (aCons (eC (.str [111, 110, 101])) (aCons (eC (.int 1)) aNil))) aNil)) (eC (.int 6))) aNil))) (aCons (eTup (aCons (eC (.str [111, 110, 101])) (aCons (eC (.int 12)) aNil))) aNil)))) aNil))) aNil)) (eAnd (eCall 1 φ_is_sort (aCons (eTup (aCons (eC (.str [109, 97, 121, 98, 101])) (aCons (eTup (aCons (eC (.str [109, 97, 121, 98, 101])) (aCons (eTup (aCons (eC (.str [109, 97, 121, 98, 101])) (aCons (eTup (aCons (eC (.str [111, 110, 101])) (aCons (eC (.int 1)) aNil))) aNil))) aNil))) aNil))) aNil)) (eAnd (eCall 1 φ_is_sort (aCons (eTup (aCons (eC (.str [114, 111, 119])) (aCons (eTup (aNil)) aNil))) aNil)) (eCall 1 φ_is_sort (aCons (eTup (aCons (eC (.str [105, 110, 116])) (aCons (eNeg (eC (.int 999999999))) (aCons (eC (.int 999999999)) aNil)))) aNil)))))
def uRest : SF := sSeq uR0 (sSeq uR1 (sSeq uR2 (sSeq uR3 (sSeq uR4 uR5))))
def t_law (K : PySem.W.Frag) (tabs : List Addr) : TS := tSeq (tS (pmT K tabs none) uP0) (tSeq (tS (pmT K tabs none) uP1) (fun D σ H => ∃ d, tS (pmT K tabs (some d)) uRest D σ H))
section
variable {P : Program} {w : World} {K : PySem.W.Frag} {mg : Str → Option Value} {base : Heap} {f cA fC : Addr} {fd fdC : FuncData} {CF C0 g0 : Addr} {tabs : List Addr} {LV lC lS : Nat}
theorem body_ok (T : ClB K mg CF C0 g0) (z_len : mg "len" = none) (z_all : mg "all" = none) (z_any : mg "any" = none) (mi : mg "isinstance" = none)
    (FC : ∀ d, FnOk P w K mg base (L2N.CX P w) lC fC fdC ["thing"] (spCk (pmT K tabs d) C0)) (hCk : lC ≤ LV) (mC : mg "check_sort" = some (.ref fC)) (kC : PySem.W.keepIn K (.ref fC) = true) (bC : Binds K fdC ["thing"] [])
    {l__law_refuses_known : Nat} (h__law_refuses_known : l__law_refuses_known ≤ LV) {f__law_refuses_known : Addr} {fd__law_refuses_known : FuncData} (G__law_refuses_known : ∀ d, FnF P w K mg base l__law_refuses_known f__law_refuses_known fd__law_refuses_known [] (pmT K tabs d) φ__law_refuses_known) (m__law_refuses_known : mg "_law_refuses_known" = some (.ref f__law_refuses_known)) (k__law_refuses_known : PySem.W.keepIn K (.ref f__law_refuses_known) = true) (b__law_refuses_known : Binds K fd__law_refuses_known [] [])
    {l__law_sort : Nat} (h__law_sort : l__law_sort ≤ LV) {f__law_sort : Addr} {fd__law_sort : FuncData} (G__law_sort : ∀ d, FnF P w K mg base l__law_sort f__law_sort fd__law_sort ["draw", "deep"] (pmT K tabs d) φ__law_sort) (m__law_sort : mg "_law_sort" = some (.ref f__law_sort)) (k__law_sort : PySem.W.keepIn K (.ref f__law_sort) = true) (b__law_sort : Binds K fd__law_sort ["draw", "deep"] [])
    {l_is_sort : Nat} (h_is_sort : l_is_sort ≤ LV) {f_is_sort : Addr} {fd_is_sort : FuncData} (G_is_sort : ∀ d, FnF P w K mg base l_is_sort f_is_sort fd_is_sort ["thing"] (pmT K tabs d) φ_is_sort) (m_is_sort : mg "is_sort" = some (.ref f_is_sort)) (k_is_sort : PySem.W.keepIn K (.ref f_is_sort) = true) (b_is_sort : Binds K fd_is_sort ["thing"] [])
    {l_how_many_values : Nat} (h_how_many_values : l_how_many_values ≤ LV) {f_how_many_values : Addr} {fd_how_many_values : FuncData} (G_how_many_values : ∀ d, FnF P w K mg base l_how_many_values f_how_many_values fd_how_many_values ["sort"] (pmT K tabs d) φ_how_many_values) (m_how_many_values : mg "how_many_values" = some (.ref f_how_many_values)) (k_how_many_values : PySem.W.keepIn K (.ref f_how_many_values) = true) (b_how_many_values : Binds K fd_how_many_values ["sort"] [])
    {l__law_many : Nat} (h__law_many : l__law_many ≤ LV) {f__law_many : Addr} {fd__law_many : FuncData} (G__law_many : ∀ d, FnF P w K mg base l__law_many f__law_many fd__law_many ["sort"] (pmT K tabs d) φ__law_many) (m__law_many : mg "_law_many" = some (.ref f__law_many)) (k__law_many : PySem.W.keepIn K (.ref f__law_many) = true) (b__law_many : Binds K fd__law_many ["sort"] [])
    {l__law_values : Nat} (h__law_values : l__law_values ≤ LV) {f__law_values : Addr} {fd__law_values : FuncData} (G__law_values : ∀ d, FnF P w K mg base l__law_values f__law_values fd__law_values ["sort", "cap"] (pmT K tabs d) φ__law_values) (m__law_values : mg "_law_values" = some (.ref f__law_values)) (k__law_values : PySem.W.keepIn K (.ref f__law_values) = true) (b__law_values : Binds K fd__law_values ["sort", "cap"] [])
    {l_is_value : Nat} (h_is_value : l_is_value ≤ LV) {f_is_value : Addr} {fd_is_value : FuncData} (G_is_value : ∀ d, FnF P w K mg base l_is_value f_is_value fd_is_value ["sort", "thing"] (pmT K tabs d) φ_is_value) (m_is_value : mg "is_value" = some (.ref f_is_value)) (k_is_value : PySem.W.keepIn K (.ref f_is_value) = true) (b_is_value : Binds K fd_is_value ["sort", "thing"] [])
    {l__law_odd : Nat} (h__law_odd : l__law_odd ≤ LV) {f__law_odd : Addr} {fd__law_odd : FuncData} (G__law_odd : ∀ d, FnF P w K mg base l__law_odd f__law_odd fd__law_odd ["sort"] (pmT K tabs d) φ__law_odd) (m__law_odd : mg "_law_odd" = some (.ref f__law_odd)) (k__law_odd : PySem.W.keepIn K (.ref f__law_odd) = true) (b__law_odd : Binds K fd__law_odd ["sort"] [])
    {l__law_wrong : Nat} (h__law_wrong : l__law_wrong ≤ LV) {f__law_wrong : Addr} {fd__law_wrong : FuncData} (G__law_wrong : ∀ d, FnF P w K mg base l__law_wrong f__law_wrong fd__law_wrong [] (pmT K tabs d) φ__law_wrong) (m__law_wrong : mg "_law_wrong" = some (.ref f__law_wrong)) (k__law_wrong : PySem.W.keepIn K (.ref f__law_wrong) = true) (b__law_wrong : Binds K fd__law_wrong [] [])
    (FS : ∀ d, FnHF P w K mg base lS f_is_sort fd_is_sort ["thing"] (pmT K tabs d) φ_is_sort) (hSk : lS ≤ LV)
    (A : Around) (outer : List PySem.Env) (s : Shared) (H : Hp) (E : XK) (hr : Room LV (A.deeper (envOfC "law" (defScope s_law) s.heap.objs.size f (.ref cA)))) :
    PSs (cxOf L2.CX0 P w K mg base NL "law" (defScope s_law) f (.ref cA) A outer s H E).nox (defBody s_law) (t_law K tabs) := by
  have hu := hr.units
  refine pss_cons (ss_if (sb_w (sw_and (sb_cmp ot_lt (se_callB (ca_len rfl) z_len PySem.boot_len (sa_cons (se_var (pv 0)) sa_nil)) (se_int)) (sw_and1 (sb_not (sb_val (se_call0 (spF_ex (G__law_refuses_known _)) (hr.mono h__law_refuses_known) (Nat.le_refl _) m__law_refuses_known k__law_refuses_known b__law_refuses_known)))))) (ss_one (ss_ret (se_bl))) (ss_nil)) (pss_cons (ss_set (i := 1) (se_lst (sa_cons (se_slhi rfl (se_var (pv 0)) (se_int)) (sa_cons (se_int) (sa_cons (se_int) sa_nil)))) sc_law.nd) (pss_ex fun d => ?_))
  refine ss_cons (ss_set (i := 2) (se_call (spF_ex (G__law_sort _)) (hr.mono h__law_sort) (Nat.le_refl _) m__law_sort k__law_sort b__law_sort (sa_cons (se_var (pv 1)) (sa_cons (se_int) sa_nil))) sc_law.nd) ?_
  refine ss_cons (ss_expr (se_ck (FC _) hr hCk mC kC bC (se_var (pv 2)))) ?_
  refine ss_cons (ss_if (sb_w (sw_or (sb_not (sb_val (se_call (spF_ex (G_is_sort _)) (hr.mono h_is_sort) (Nat.le_refl _) m_is_sort k_is_sort b_is_sort (sa_cons (se_var (pv 2)) sa_nil)))) (sw_or1 (sb_cmp (ot_neX rfl hu) (se_call (spF_ex (G_how_many_values _)) (hr.mono h_how_many_values) (Nat.le_refl _) m_how_many_values k_how_many_values b_how_many_values (sa_cons (se_var (pv 2)) sa_nil)) (se_call (spF_ex (G__law_many _)) (hr.mono h__law_many) (Nat.le_refl _) m__law_many k__law_many b__law_many (sa_cons (se_var (pv 2)) sa_nil)))))) (ss_one (ss_ret (se_bl))) (ss_nil)) ?_
  refine ss_cons (ss_if (sb_w (sw_or (sb_not (sb_val (se_callB (ca_all rfl) z_all PyProof.Rows.Boot.«all» (sa_cons (se_lc (own := [(("one" : Str), 5)]) (g_name (i := 5) (vs := [5]) (by simp)) rfl sc_law.nd (si_seq rfl (se_call (spF_ex (G__law_values _)) (hr.mono h__law_values) (Nat.le_refl _) m__law_values k__law_values b__law_values (sa_cons (se_var (pv 2)) (sa_cons (se_int) sa_nil)))) ⟨by rfl, by decide +kernel, (by show ∀ p ∈ [(("one" : Str), 5)], (["script", "draw", "sort", "thing", "e", "one"] : List Str)[p.2]? = some p.1; decide +kernel), (by show ∀ y ∈ (_ : List (Str × NameKind)), y.2 = NameKind.free → (defScope s_law).names.lookup y.1 = some .cell ∨ (defScope s_law).names.lookup y.1 = some .free; decide +kernel), (by show ∀ y ∈ (_ : List (Str × NameKind)), y.2 = NameKind.local ∨ y.2 = NameKind.cell → y.1 ∈ [(("one" : Str), 5)].map (·.1) ∨ y.1 ∉ (["script", "draw", "sort", "thing", "e", "one"] : List Str); decide +kernel)⟩ (fun s H C cl fp => pg_name (i := 5) sc_law.nd rfl (by first | exact .inl rfl | exact .inr rfl)) (fun s H C cl fp => pts_yes) (fun D s H C cl fp => se_call (spF_ex (G_is_value _)) (hr.mono h_is_value) (Nat.le_refl _) m_is_value k_is_value b_is_value (sa_cons (se_var (pv 2)) (sa_cons (se_var (pv 5)) sa_nil)))) sa_nil)))) (sw_or1 (sb_val (se_callB (ca_any rfl) z_any PyProof.Rows.Boot.«any» (sa_cons (se_lc (own := [(("one" : Str), 5)]) (g_name (i := 5) (vs := [5]) (by simp)) rfl sc_law.nd (si_seq rfl (se_call (spF_ex (G__law_odd _)) (hr.mono h__law_odd) (Nat.le_refl _) m__law_odd k__law_odd b__law_odd (sa_cons (se_var (pv 2)) sa_nil))) ⟨by rfl, by decide +kernel, (by show ∀ p ∈ [(("one" : Str), 5)], (["script", "draw", "sort", "thing", "e", "one"] : List Str)[p.2]? = some p.1; decide +kernel), (by show ∀ y ∈ (_ : List (Str × NameKind)), y.2 = NameKind.free → (defScope s_law).names.lookup y.1 = some .cell ∨ (defScope s_law).names.lookup y.1 = some .free; decide +kernel), (by show ∀ y ∈ (_ : List (Str × NameKind)), y.2 = NameKind.local ∨ y.2 = NameKind.cell → y.1 ∈ [(("one" : Str), 5)].map (·.1) ∨ y.1 ∉ (["script", "draw", "sort", "thing", "e", "one"] : List Str); decide +kernel)⟩ (fun s H C cl fp => pg_name (i := 5) sc_law.nd rfl (by first | exact .inl rfl | exact .inr rfl)) (fun s H C cl fp => pts_yes) (fun D s H C cl fp => se_call (spF_ex (G_is_value _)) (hr.mono h_is_value) (Nat.le_refl _) m_is_value k_is_value b_is_value (sa_cons (se_var (pv 2)) (sa_cons (se_var (pv 5)) sa_nil)))) sa_nil)))))) (ss_one (ss_ret (se_bl))) (ss_nil)) ?_
  refine ss_cons (ss_for (g_name (i := 3) (vs := [3]) (by simp)) PassesOwn.never rfl (si_seq rfl (se_call0 (spF_ex (G__law_wrong _)) (hr.mono h__law_wrong) (Nat.le_refl _) m__law_wrong k__law_wrong b__law_wrong)) (pg_name (i := 3) sc_law.nd rfl (by first | exact .inl rfl | exact .inr rfl)) (ss_one (ss_try T hr (FC _) hCk mC kC bC (FS _) hSk m_is_sort k_is_sort b_is_sort mi))) ?_
  exact ss_one (ss_ret (se_and (se_call (spF_ex (G_is_sort _)) (hr.mono h_is_sort) (Nat.le_refl _) m_is_sort k_is_sort b_is_sort (sa_cons (se_tup (sa_cons (se_str [114, 111, 119] rfl) (sa_cons (se_tup (sa_cons (se_tup (sa_cons (se_str [114, 111, 119] rfl) (sa_cons (se_bin (ot_mul1 rfl) (se_tup (sa_cons (se_tup (sa_cons (se_str [111, 110, 101] rfl) (sa_cons (se_int) sa_nil))) sa_nil)) (se_int)) sa_nil))) (sa_cons (se_tup (sa_cons (se_str [114, 111, 119] rfl) (sa_cons (se_bin (ot_mul1 rfl) (se_tup (sa_cons (se_tup (sa_cons (se_str [111, 110, 101] rfl) (sa_cons (se_int) sa_nil))) sa_nil)) (se_int)) sa_nil))) (sa_cons (se_tup (sa_cons (se_str [111, 110, 101] rfl) (sa_cons (se_int) sa_nil))) sa_nil)))) sa_nil))) sa_nil)) (se_and (se_call (spF_ex (G_is_sort _)) (hr.mono h_is_sort) (Nat.le_refl _) m_is_sort k_is_sort b_is_sort (sa_cons (se_tup (sa_cons (se_str [109, 97, 121, 98, 101] rfl) (sa_cons (se_tup (sa_cons (se_str [109, 97, 121, 98, 101] rfl) (sa_cons (se_tup (sa_cons (se_str [109, 97, 121, 98, 101] rfl) (sa_cons (se_tup (sa_cons (se_str [111, 110, 101] rfl) (sa_cons (se_int) sa_nil))) sa_nil))) sa_nil))) sa_nil))) sa_nil)) (se_and (se_call (spF_ex (G_is_sort _)) (hr.mono h_is_sort) (Nat.le_refl _) m_is_sort k_is_sort b_is_sort (sa_cons (se_tup (sa_cons (se_str [114, 111, 119] rfl) (sa_cons (se_tup (sa_nil)) sa_nil))) sa_nil)) (se_one (se_call (spF_ex (G_is_sort _)) (hr.mono h_is_sort) (Nat.le_refl _) m_is_sort k_is_sort b_is_sort (sa_cons (se_tup (sa_cons (se_str [105, 110, 116] rfl) (sa_cons (se_neg (se_int)) (sa_cons (se_int) sa_nil)))) sa_nil)))))))
end
end K01
set_option linter.all false
set_option maxRecDepth 100000
set_option maxHeartbeats 4000000
namespace K01
open PySem PySem.Spec PyProof.Rows L2 GxR GA EXO FL HX L2H HotX XX
theorem known_ok (dr : List FL.T) : φ__law_refuses_known [] dr = some (.bl true, dr) := by kernel_rfl
def wrL : List FL.T := match φ__law_wrong [] [] with
  | some (.lst ts, _) => ts
  | _ => []
theorem wrong_ok (dr : List FL.T) : φ__law_wrong [] dr = some (.lst wrL, dr) := by kernel_rfl
theorem wrong_no (dr : List FL.T) : ∀ t ∈ wrL, φ_is_sort [t] dr = some (.bl false, dr) := map_all (f := fun t => φ_is_sort [t] dr) (c := some (.bl false, dr)) (by kernel_rfl)
theorem last_ok (env : FL.Env) (dr : List FL.T) : uR5 env dr = some (.rt (.bl true), dr) := by kernel_rfl
theorem bls_map (b : Bool) : ∀ vs : List FL.T, blsT (vs.map fun _ => FL.T.bl b) = some (vs.map fun _ => b)
  | [] => rfl
  | v :: vs => by
    show (blsT (vs.map fun _ => FL.T.bl b)).map (b :: ·) = _
    rw [bls_map b vs]
    rfl
theorem all_t : ∀ vs : List FL.T, allF [.lst (vs.map fun _ => FL.T.bl true)] = some (.bl true) := fun vs => by
  show (blsT _).map _ = _
  rw [bls_map]
  simp
theorem any_f : ∀ vs : List FL.T, anyF [.lst (vs.map fun _ => FL.T.bl false)] = some (.bl false) := fun vs => by
  show (blsT _).map _ = _
  rw [bls_map]
  simp
theorem pre0_ok (is : List Int) (dr : List FL.T) : uP0 [some (.fls (is.map FL.T.int)), none, none, none, none, none] dr = some (.nx [some (.fls (is.map FL.T.int)), none, none, none, none, none], dr) := by
  have hl : eB lenT (aCons (eVar 0) aNil) [some (.fls (is.map FL.T.int)), none, none, none, none, none] dr = some (.int (is.length : Int), dr) := by
    show some (FL.T.int (((is.map FL.T.int).length : Nat) : Int), dr) = _
    rw [List.length_map]
  have hk : eCall 0 φ__law_refuses_known aNil [some (.fls (is.map FL.T.int)), none, none, none, none, none] dr = some (.bl true, dr) := eCall_eq (n := 0) (ts := []) rfl rfl (known_ok dr)
  unfold uP0
  refine sIf_f (dr1 := dr) ?_ rfl
  by_cases h : (is.length : Int) < 3
  · have e1 : FL.tB (eBin cLt (eB lenT (aCons (eVar 0) aNil)) (eC (.int 3))) [some (.fls (is.map FL.T.int)), none, none, none, none, none] dr = some (true, dr) := tB_eq (eBin_eq hl rfl (by
      show some (FL.T.bl (decide ((is.length : Int) < 3))) = _
      rw [decide_eq_true h]))
    unfold bAnd
    rw [e1]
    show (match FL.tB (eCall 0 φ__law_refuses_known aNil) [some (.fls (is.map FL.T.int)), none, none, none, none, none] dr with | some (b, dr1) => some (!b, dr1) | none => none) = _
    rw [tB_eq hk]
    rfl
  · have e1 : FL.tB (eBin cLt (eB lenT (aCons (eVar 0) aNil)) (eC (.int 3))) [some (.fls (is.map FL.T.int)), none, none, none, none, none] dr = some (false, dr) := tB_eq (eBin_eq hl rfl (by
      show some (FL.T.bl (decide ((is.length : Int) < 3))) = _
      rw [decide_eq_false h]))
    unfold bAnd
    rw [e1]
abbrev eS (t : FL.T) (a b : Option FL.T) : FL.Env := [none, some .ref, some t, a, b, none]
theorem r2_ok {t : FL.T} (h : D 2 t) (dr : List FL.T) : uR2 (eS t none none) dr = some (.nx (eS t none none), dr) := by
  obtain ⟨x, h1, h2, hx⟩ := hm_ok h
  have s := is_sort_ok h dr
  have hne : cNeX x x = some (.bl false) := by
    rcases hx with rfl | ⟨m, rfl, _⟩
    · rfl
    · simp [cNeX, cNe, FL.eqT]
  have e1 : FL.tB (eCall 1 φ_is_sort (aCons (eVar 2) aNil)) (eS t none none) dr = some (true, dr) := tB_eq (eCall_eq (n := 1) (ts := [t]) (aCons_eq (l := aNil) rfl rfl) rfl s)
  have e2 : FL.tB (eBin cNeX (eCall 1 φ_how_many_values (aCons (eVar 2) aNil)) (eCall 1 φ__law_many (aCons (eVar 2) aNil))) (eS t none none) dr = some (false, dr) :=
    tB_eq (eBin_eq (eCall_eq (n := 1) (ts := [t]) (aCons_eq (l := aNil) rfl rfl) rfl (h1 dr)) (eCall_eq (n := 1) (ts := [t]) (aCons_eq (l := aNil) rfl rfl) rfl (h2 dr)) hne)
  unfold uR2
  refine sIf_f (dr1 := dr) ?_ rfl
  have e3 : bNot (FL.tB (eCall 1 φ_is_sort (aCons (eVar 2) aNil))) (eS t none none) dr = some (false, dr) := by
    unfold bNot
    rw [e1]
    rfl
  unfold bOr
  rw [e3]
  exact e2
theorem r3_ok {t : FL.T} (h : D 2 t) (dr : List FL.T) : uR3 (eS t none none) dr = some (.nx (eS t none none), dr) := by
  obtain ⟨vs, h1, h2, h3⟩ := gv_ok h
  obtain ⟨os, g1, g0, g2⟩ := od_ok h
  have hi : iSeq (eCall 2 φ__law_values (aCons (eVar 2) (aCons (eC (.int 30)) aNil))) (eS t none none) dr = some (vs, dr) := by
    unfold iSeq
    rw [eCall_eq (n := 2) (ts := [t, .int 30]) (aCons_eq rfl (aCons_eq (l := aNil) rfl rfl)) rfl (h1 dr)]
  have gi : iSeq (eCall 1 φ__law_odd (aCons (eVar 2) aNil)) (eS t none none) dr = some (os, dr) := by
    unfold iSeq
    rw [eCall_eq (n := 1) (ts := [t]) (aCons_eq (l := aNil) rfl rfl) rfl (g1 dr)]
  have ho : os.length ≤ lim := Nat.le_trans g0 (by decide)
  have e1 := lcF_map (b := bN 5) (f := eCall 2 φ_is_value (aCons (eVar 2) (aCons (eVar 5) aNil))) (own := [5]) (env := eS t none none) (g := fun _ => FL.T.bl true) (dr := dr) hi (fun v hv => ⟨_, rfl, fun dr => eCall_eq (n := 2) (ts := [t, v]) (aCons_eq rfl (aCons_eq (l := aNil) rfl rfl)) rfl (h3 v hv dr)⟩) (Nat.le_trans h2 (by decide))
  have e2 := lcF_map (b := bN 5) (f := eCall 2 φ_is_value (aCons (eVar 2) (aCons (eVar 5) aNil))) (own := [5]) (env := eS t none none) (g := fun _ => FL.T.bl false) (dr := dr) gi (fun v hv => ⟨_, rfl, fun dr => eCall_eq (n := 2) (ts := [t, v]) (aCons_eq rfl (aCons_eq (l := aNil) rfl rfl)) rfl (g2 v hv dr)⟩) ho
  have f1 := tB_eq (eB_eq (k := allF) (aCons_eq (l := aNil) e1 rfl) (all_t vs))
  have f2 := tB_eq (eB_eq (k := anyF) (aCons_eq (l := aNil) e2 rfl) (any_f os))
  unfold uR3
  refine sIf_f (dr1 := dr) ?_ rfl
  unfold bOr bNot
  rw [f1]
  exact f2
theorem try_ok {t v : FL.T} {a : Option FL.T} (hv : v ∈ wrL) (dr : List FL.T) : sTryK (eS t (some v) a) dr = some (.nx (eS t (some v) none), dr) := by
  have h := wrong_no dr v hv
  unfold sTryK
  show (match φ_is_sort [v] dr with | some (.bl false, dr1) => _ | _ => none) = _
  rw [h]
  dsimp only
  rw [h]
  rfl
theorem go_ok {t : FL.T} : ∀ (ts : List FL.T) (a : Option FL.T) (dr : List FL.T), (∀ v ∈ ts, v ∈ wrL) → ∃ a', forGo (bN 3) sTryK ts (eS t a none) dr = some (.nx (eS t a' none), dr)
  | [], a, dr, _ => ⟨a, rfl⟩
  | v :: ts, a, dr, h => by
    obtain ⟨a', e⟩ := go_ok ts (some v) dr fun u hu => h u (List.mem_cons_of_mem _ hu)
    exact ⟨a', forGo_nx rfl (try_ok (h v List.mem_cons_self) dr) e⟩
theorem run_ok (is : List Int) : ∃ n', uRest [none, some .ref, none, none, none, none] (Dr is 0) = some (.rt (.bl true), Dr is n') := by
  obtain ⟨t, n', hs, hD⟩ := sort_ok is
  refine ⟨n', ?_⟩
  have hck : φCk [t] (Dr is n') = some (.non, Dr is n') := by
    unfold φCk
    rw [is_sort_ok hD]
  obtain ⟨a', hgo⟩ := go_ok (t := t) wrL none (Dr is n') fun v hv => hv
  unfold uRest
  refine sSeq_nx (env1 := eS t none none) (dr1 := Dr is n') (sSet_eq (eCall_eq (n := 2) (ts := [.ref, .int 2]) (aCons_eq rfl (aCons_eq (l := aNil) rfl rfl)) rfl hs)) ?_
  refine sSeq_nx (env1 := eS t none none) (dr1 := Dr is n') ?_ ?_
  · show sExp _ _ _ = _
    unfold sExp
    rw [eCall_eq (n := 1) (ts := [t]) (aCons_eq (l := aNil) rfl rfl) rfl hck]
  refine sSeq_nx (r2_ok hD _) (sSeq_nx (r3_ok hD _) (sSeq_nx (env1 := eS t a' none) (dr1 := Dr is n') ?_ (last_ok _ _)))
  show sFor _ _ _ _ _ = _
  unfold sFor
  have hi : iSeq (eCall 0 φ__law_wrong aNil) (eS t none none) (Dr is n') = some (wrL, Dr is n') := by
    unfold iSeq
    rw [eCall_eq (n := 0) (ts := []) rfl rfl (wrong_ok _)]
  rw [hi]
  exact hgo
end K01
set_option linter.all false
set_option maxRecDepth 100000
set_option maxHeartbeats 4000000
namespace K01
open PySem PySem.Spec PyProof.Rows L2 GxR GA EXO FL HX L2H HotX XX
abbrev tabsOf (l : List (Addr × Addr)) : List Addr := l.map (·.2)
def spLaw (K : PySem.W.Frag) (tabs : List Addr) : Sp := fun vs H Q _ => ∃ (a : Addr) (ns : List Int), vs = [.ref a] ∧ SqL K H a (ns.map V.int) ∧ (∀ P ∈ tabs, TabG H P) ∧ ∀ H', Q (.bl true) H'
theorem tab_mk {K : PySem.W.Frag} {x : Str} {f c P : Addr} {oc e : Value} {od d : Option Addr} {fd : FuncData} {osl sl : Array (Option Value)} {vs : Array Value} (a : PySem.W.nsIn K mainGlobals x = some (some (.ref f))) (l : K.lookup f = some ⟨oc, od, .func fd, osl⟩) (hc : fd.code = .ref c)
    (k : K.lookup c = some ⟨e, d, .fields vs, sl⟩) (v : vs[11]? = some (.ref P)) : PySem.W.tabIn K x = some (c, P) := by
  unfold PySem.W.tabIn
  rw [a]
  dsimp only
  rw [l]
  dsimp only
  rw [hc]
  dsimp only
  rw [k]
  dsimp only
  rw [v]
theorem triples_nil : PySem.TriplesOk (#[] : Array Value).toList := trivial
theorem ints_reps {p : Pm} {H : Hp} : ∀ ns : List Int, Reps p H (ns.map FL.T.int) (ns.map V.int)
  | [] => rfl
  | n :: ns => ⟨_, _, rfl, rfl, ints_reps ns⟩
theorem ints_any {p p' : Pm} {H : Hp} : ∀ (ns : List Int) {vs : List V}, Reps p H (ns.map FL.T.int) vs → Reps p' H (ns.map FL.T.int) vs
  | [], _, h => h
  | n :: ns, _, h => by
    obtain ⟨v, r, rfl, a, b⟩ := h
    exact ⟨v, r, rfl, a, ints_any ns b⟩
theorem cut_map (ns : List Int) (lo hi : Option Int) : cutL (ns.map FL.T.int) lo hi = (cutL ns lo hi).map FL.T.int := by
  unfold cutL
  rw [List.length_map, ← List.map_drop, ← List.map_take]
theorem pure_law {K : PySem.W.Frag} {tabs : List Addr} {vs : List V} {H : Hp} {Q : VK} {E : XK} (h : spLaw K tabs vs H Q E) : t_law K tabs { nx := fun _ H' => Q .non H', rt := Q } (L2.start NL vs) H := by
  obtain ⟨a, ns, rfl, hS, hT, q⟩ := h
  have sq : SqF (pmT K tabs none) H a (ns.map V.int) := hS.elim (fun z => .inl ⟨z, fun e => (nomatch e), fun e => (nomatch e)⟩) .inr
  have rs : Reps (pmT K tabs none) H [.fls (ns.map FL.T.int)] [V.ref a] := ⟨_, _, rfl, ⟨a, _, rfl, sq, ints_reps ns⟩, rfl⟩
  refine ⟨_, [], .nx [some (.fls (ns.map FL.T.int)), none, none, none, none, none], [], rel_start (N := NL) rs, ⟨trivial, hT, fun P hP => (nomatch hP)⟩, pre0_ok ns [], ?_⟩
  intro σ0 H0 e0 r0 o0
  refine ⟨_, [], .nx [some (.fls (ns.map FL.T.int)), some (.lst [.lst ((cutL ns none (some 63)).map FL.T.int), .int 0, .int 0]), none, none, none, none], [], r0, o0, ?_, ?_⟩
  · rw [← cut_map]
    rfl
  · intro σ' H' e' r' o'
    obtain ⟨v, hv, b, us, rfl, hb, _, hr⟩ := r'.2 1 _ rfl
    refine ⟨b, ?_⟩
    have nb : ∀ {c : Addr} {ws : List V}, us.head? = some (.ref c) → H' c = some (.lst ws) → Reps (pmT K tabs none) H' ((cutL ns none (some 63)).map FL.T.int) ws → c ≠ b := fun {c ws} hd hc hw z => by
      subst z
      rw [hb] at hc
      cases hc
      cases hn : cutL ns none (some 63) with
      | nil =>
        rw [hn] at hw
        have hw : us = [] := hw
        rw [hw] at hd
        cases hd
      | cons i r =>
        rw [hn] at hw
        obtain ⟨v, r', rfl, hv, _⟩ := hw
        have hv : v = .int i := hv
        rw [hv] at hd
        cases hd
    obtain ⟨v0, us1, rfl, ⟨c, ws, rfl, hc, _, hw⟩, hr1⟩ := hr
    obtain ⟨v1, us2, rfl, hv1, hr2⟩ := hr1
    obtain ⟨v2, us3, rfl, hv2, hr3⟩ := hr2
    have ne := nb rfl hc hw
    have dr : Reps (pmT K tabs (some b)) H' (Dr (cutL ns none (some 63)) 0) (.ref c :: v1 :: v2 :: us3) :=
      ⟨_, _, rfl, ⟨c, ws, rfl, hc, ⟨fun z => ne (Option.some.inj z).symm, fun z => (nomatch z)⟩, ints_any _ hw⟩, _, _, rfl, hv1, _, _, rfl, hv2, hr3⟩
    obtain ⟨n', hrun⟩ := run_ok (cutL ns none (some 63))
    refine ⟨[none, some .ref, none, none, none, none], Dr (cutL ns none (some 63)) 0, .rt (.bl true), _, ⟨r'.1, fun i t hi => ?_⟩, ⟨⟨_, hb, dr⟩, o'.2.1, fun P hP => (nomatch hP)⟩, hrun, ?_⟩
    · match i, hi with
      | 1, hi =>
        cases hi
        exact ⟨.ref b, hv, b, rfl, rfl⟩
      | 0, hi => cases hi
      | 2, hi => cases hi
      | 3, hi => cases hi
      | 4, hi => cases hi
      | 5, hi => cases hi
      | n + 6, hi => simp at hi
    · intro v H2 e2 r2 o2
      have r2 : v = .bl true := r2
      rw [r2]
      exact q H2
section
variable {P : Program} {w : World} {K : PySem.W.Frag} {mg : Str → Option Value} {base : Heap} {f cA fC : Addr} {fd fdC : FuncData} {CF C0 g0 : Addr} {tabs : List Addr} {LV lC lS : Nat}
theorem ok_law (F : FunC K "law" s_law f fd cA) (T : ClB K mg CF C0 g0) (z_len : mg "len" = none) (z_all : mg "all" = none) (z_any : mg "any" = none) (mi : mg "isinstance" = none)
    (FC : ∀ d, FnOk P w K mg base (L2N.CX P w) lC fC fdC ["thing"] (spCk (pmT K tabs d) C0)) (hCk : lC ≤ LV) (mC : mg "check_sort" = some (.ref fC)) (kC : PySem.W.keepIn K (.ref fC) = true) (bC : Binds K fdC ["thing"] [])
    {l__law_refuses_known : Nat} (h__law_refuses_known : l__law_refuses_known ≤ LV) {f__law_refuses_known : Addr} {fd__law_refuses_known : FuncData} (G__law_refuses_known : ∀ d, FnF P w K mg base l__law_refuses_known f__law_refuses_known fd__law_refuses_known [] (pmT K tabs d) φ__law_refuses_known) (m__law_refuses_known : mg "_law_refuses_known" = some (.ref f__law_refuses_known)) (k__law_refuses_known : PySem.W.keepIn K (.ref f__law_refuses_known) = true) (b__law_refuses_known : Binds K fd__law_refuses_known [] [])
    {l__law_sort : Nat} (h__law_sort : l__law_sort ≤ LV) {f__law_sort : Addr} {fd__law_sort : FuncData} (G__law_sort : ∀ d, FnF P w K mg base l__law_sort f__law_sort fd__law_sort ["draw", "deep"] (pmT K tabs d) φ__law_sort) (m__law_sort : mg "_law_sort" = some (.ref f__law_sort)) (k__law_sort : PySem.W.keepIn K (.ref f__law_sort) = true) (b__law_sort : Binds K fd__law_sort ["draw", "deep"] [])
    {l_is_sort : Nat} (h_is_sort : l_is_sort ≤ LV) {f_is_sort : Addr} {fd_is_sort : FuncData} (G_is_sort : ∀ d, FnF P w K mg base l_is_sort f_is_sort fd_is_sort ["thing"] (pmT K tabs d) φ_is_sort) (m_is_sort : mg "is_sort" = some (.ref f_is_sort)) (k_is_sort : PySem.W.keepIn K (.ref f_is_sort) = true) (b_is_sort : Binds K fd_is_sort ["thing"] [])
    {l_how_many_values : Nat} (h_how_many_values : l_how_many_values ≤ LV) {f_how_many_values : Addr} {fd_how_many_values : FuncData} (G_how_many_values : ∀ d, FnF P w K mg base l_how_many_values f_how_many_values fd_how_many_values ["sort"] (pmT K tabs d) φ_how_many_values) (m_how_many_values : mg "how_many_values" = some (.ref f_how_many_values)) (k_how_many_values : PySem.W.keepIn K (.ref f_how_many_values) = true) (b_how_many_values : Binds K fd_how_many_values ["sort"] [])
    {l__law_many : Nat} (h__law_many : l__law_many ≤ LV) {f__law_many : Addr} {fd__law_many : FuncData} (G__law_many : ∀ d, FnF P w K mg base l__law_many f__law_many fd__law_many ["sort"] (pmT K tabs d) φ__law_many) (m__law_many : mg "_law_many" = some (.ref f__law_many)) (k__law_many : PySem.W.keepIn K (.ref f__law_many) = true) (b__law_many : Binds K fd__law_many ["sort"] [])
    {l__law_values : Nat} (h__law_values : l__law_values ≤ LV) {f__law_values : Addr} {fd__law_values : FuncData} (G__law_values : ∀ d, FnF P w K mg base l__law_values f__law_values fd__law_values ["sort", "cap"] (pmT K tabs d) φ__law_values) (m__law_values : mg "_law_values" = some (.ref f__law_values)) (k__law_values : PySem.W.keepIn K (.ref f__law_values) = true) (b__law_values : Binds K fd__law_values ["sort", "cap"] [])
    {l_is_value : Nat} (h_is_value : l_is_value ≤ LV) {f_is_value : Addr} {fd_is_value : FuncData} (G_is_value : ∀ d, FnF P w K mg base l_is_value f_is_value fd_is_value ["sort", "thing"] (pmT K tabs d) φ_is_value) (m_is_value : mg "is_value" = some (.ref f_is_value)) (k_is_value : PySem.W.keepIn K (.ref f_is_value) = true) (b_is_value : Binds K fd_is_value ["sort", "thing"] [])
    {l__law_odd : Nat} (h__law_odd : l__law_odd ≤ LV) {f__law_odd : Addr} {fd__law_odd : FuncData} (G__law_odd : ∀ d, FnF P w K mg base l__law_odd f__law_odd fd__law_odd ["sort"] (pmT K tabs d) φ__law_odd) (m__law_odd : mg "_law_odd" = some (.ref f__law_odd)) (k__law_odd : PySem.W.keepIn K (.ref f__law_odd) = true) (b__law_odd : Binds K fd__law_odd ["sort"] [])
    {l__law_wrong : Nat} (h__law_wrong : l__law_wrong ≤ LV) {f__law_wrong : Addr} {fd__law_wrong : FuncData} (G__law_wrong : ∀ d, FnF P w K mg base l__law_wrong f__law_wrong fd__law_wrong [] (pmT K tabs d) φ__law_wrong) (m__law_wrong : mg "_law_wrong" = some (.ref f__law_wrong)) (k__law_wrong : PySem.W.keepIn K (.ref f__law_wrong) = true) (b__law_wrong : Binds K fd__law_wrong [] [])
    (FS : ∀ d, FnHF P w K mg base lS f_is_sort fd_is_sort ["thing"] (pmT K tabs d) φ_is_sort) (hSk : lS ≤ LV) :
    FnOk P w K mg base L2.CX0 (LV + 1) f fd ["script"] (spLaw K tabs) := by
  obtain ⟨oc, od, kV, doc, pm', an, ct, osl, rfl, lk, hcd⟩ := F.ex
  refine fn_of lk hcd sc_law (fun vs H Q E ⟨a, ns, e, _⟩ => by rw [e]; rfl) fun A outer s H vs Q E hr h => ⟨_, (body_ok T z_len z_all z_any mi FC hCk mC kC bC h__law_refuses_known G__law_refuses_known m__law_refuses_known k__law_refuses_known b__law_refuses_known h__law_sort G__law_sort m__law_sort k__law_sort b__law_sort h_is_sort G_is_sort m_is_sort k_is_sort b_is_sort h_how_many_values G_how_many_values m_how_many_values k_how_many_values b_how_many_values h__law_many G__law_many m__law_many k__law_many b__law_many h__law_values G__law_values m__law_values k__law_values b__law_values h_is_value G_is_value m_is_value k_is_value b_is_value h__law_odd G__law_odd m__law_odd k__law_odd b__law_odd h__law_wrong G__law_wrong m__law_wrong k__law_wrong b__law_wrong FS hSk A outer s H E hr).nox, pure_law (E := E) h⟩
end
theorem all_mk {l : PySem.W.OpenLaw} {w : World} {K : PySem.W.Frag} {h : Heap} {mg : Str → Option Value} {fa : Addr} (X : K.In h) (G : h.Ns mainGlobals mg) (hfa : mg "law" = some (.ref fa))
    (hTab : ∀ x ∈ (["are_ascending", "has_only", "is_text", "is_value"] : List Str), ∀ c P, PySem.W.tabIn K x = some (c, P) → PySem.W.CodeHd h c P ∧ h.get? P = some (PySem.W.tabObj #[]))
    {CF C0 g0 : Addr}
    {qn0 : Str} {oc0 dc0 pm0 cd0 ct0 : Value} {od0 an0 : Option Addr} {sl0 : Array (Option Value)} {q0 q1 q2 q3 q4 q5 : Pos}
    {fx0 hx0 : Addr} {eVx0 eox0 edx0 epx0 etx0 : Value} {enx0 eax0 : Option Addr} {esx0 : Array (Option Value)}
    {fx1 hx1 : Addr} {eVx1 eox1 edx1 epx1 etx1 : Value} {enx1 eax1 : Option Addr} {esx1 : Array (Option Value)}
    {fx2 hx2 : Addr} {eVx2 eox2 edx2 epx2 etx2 : Value} {enx2 eax2 : Option Addr} {esx2 : Array (Option Value)}
    {fx3 hx3 : Addr} {eVx3 eox3 edx3 epx3 etx3 : Value} {enx3 eax3 : Option Addr} {esx3 : Array (Option Value)}
    {fx4 hx4 : Addr} {eVx4 eox4 edx4 epx4 etx4 : Value} {enx4 eax4 : Option Addr} {esx4 : Array (Option Value)}
    {fx5 hx5 : Addr} {eVx5 eox5 edx5 epx5 etx5 : Value} {enx5 eax5 : Option Addr} {esx5 : Array (Option Value)}
    {fx6 hx6 : Addr} {eVx6 eox6 edx6 epx6 etx6 : Value} {enx6 eax6 : Option Addr} {esx6 : Array (Option Value)}
    {fx7 hx7 : Addr} {eVx7 eox7 edx7 epx7 etx7 : Value} {enx7 eax7 : Option Addr} {esx7 : Array (Option Value)}
    {fx8 hx8 : Addr} {eVx8 eox8 edx8 epx8 etx8 : Value} {enx8 eax8 : Option Addr} {esx8 : Array (Option Value)}
    {fx9 hx9 : Addr} {eVx9 eox9 edx9 epx9 etx9 : Value} {enx9 eax9 : Option Addr} {esx9 : Array (Option Value)}
    {fx10 hx10 : Addr} {eVx10 eox10 edx10 epx10 etx10 : Value} {enx10 eax10 : Option Addr} {esx10 : Array (Option Value)}
    {fx11 hx11 : Addr} {eVx11 eox11 edx11 epx11 etx11 : Value} {enx11 eax11 : Option Addr} {esx11 : Array (Option Value)}
    {fx12 hx12 : Addr} {eVx12 eox12 edx12 epx12 etx12 : Value} {enx12 eax12 : Option Addr} {esx12 : Array (Option Value)}
    {fx13 hx13 : Addr} {eVx13 eox13 edx13 epx13 etx13 : Value} {enx13 eax13 : Option Addr} {esx13 : Array (Option Value)}
    {fx14 hx14 : Addr} {eVx14 eox14 edx14 epx14 etx14 : Value} {enx14 eax14 : Option Addr} {esx14 : Array (Option Value)}
    {fx15 hx15 : Addr} {eVx15 eox15 edx15 epx15 etx15 : Value} {enx15 eax15 : Option Addr} {esx15 : Array (Option Value)}
    {fx16 hx16 : Addr} {eVx16 eox16 edx16 epx16 etx16 : Value} {enx16 eax16 : Option Addr} {esx16 : Array (Option Value)}
    {fx17 hx17 : Addr} {eVx17 eox17 edx17 epx17 etx17 : Value} {enx17 eax17 : Option Addr} {esx17 : Array (Option Value)}
    {fx18 hx18 : Addr} {eVx18 eox18 edx18 epx18 etx18 : Value} {enx18 eax18 : Option Addr} {esx18 : Array (Option Value)}
    {fx19 hx19 : Addr} {eVx19 eox19 edx19 epx19 etx19 : Value} {enx19 eax19 : Option Addr} {esx19 : Array (Option Value)}
    {fx20 hx20 : Addr} {eVx20 eox20 edx20 epx20 etx20 : Value} {enx20 eax20 : Option Addr} {esx20 : Array (Option Value)}
    {fx21 hx21 : Addr} {eVx21 eox21 edx21 epx21 etx21 : Value} {enx21 eax21 : Option Addr} {esx21 : Array (Option Value)}
    {fx22 hx22 : Addr} {eVx22 eox22 edx22 epx22 etx22 : Value} {enx22 eax22 : Option Addr} {esx22 : Array (Option Value)}
    {fx23 hx23 : Addr} {eVx23 eox23 edx23 epx23 etx23 : Value} {enx23 eax23 : Option Addr} {esx23 : Array (Option Value)}
    {fx24 hx24 : Addr} {eVx24 eox24 edx24 epx24 etx24 : Value} {enx24 eax24 : Option Addr} {esx24 : Array (Option Value)}
    {fx25 hx25 : Addr} {eVx25 eox25 edx25 epx25 etx25 : Value} {enx25 eax25 : Option Addr} {esx25 : Array (Option Value)}
    {fx26 hx26 : Addr} {eVx26 eox26 edx26 epx26 etx26 : Value} {enx26 eax26 : Option Addr} {esx26 : Array (Option Value)}
    {fx27 hx27 : Addr} {eVx27 eox27 edx27 epx27 etx27 : Value} {enx27 eax27 : Option Addr} {esx27 : Array (Option Value)}
    {fx28 hx28 : Addr} {eVx28 eox28 edx28 epx28 etx28 : Value} {enx28 eax28 : Option Addr} {esx28 : Array (Option Value)}
    {fx29 hx29 : Addr} {eVx29 eox29 edx29 epx29 etx29 : Value} {enx29 eax29 : Option Addr} {esx29 : Array (Option Value)}
    {fx30 hx30 : Addr} {eVx30 eox30 edx30 epx30 etx30 : Value} {enx30 eax30 : Option Addr} {esx30 : Array (Option Value)}
    {fx31 hx31 : Addr} {eVx31 eox31 edx31 epx31 etx31 : Value} {enx31 eax31 : Option Addr} {esx31 : Array (Option Value)}
    {fx32 hx32 : Addr} {eVx32 eox32 edx32 epx32 etx32 : Value} {enx32 eax32 : Option Addr} {esx32 : Array (Option Value)}
    {fx33 hx33 : Addr} {eVx33 eox33 edx33 epx33 etx33 : Value} {enx33 eax33 : Option Addr} {esx33 : Array (Option Value)}
    {fx34 hx34 : Addr} {eVx34 eox34 edx34 epx34 etx34 : Value} {enx34 eax34 : Option Addr} {esx34 : Array (Option Value)}
    {fx35 hx35 : Addr} {eVx35 eox35 edx35 epx35 etx35 : Value} {enx35 eax35 : Option Addr} {esx35 : Array (Option Value)}
    {fx36 hx36 : Addr} {eVx36 eox36 edx36 epx36 etx36 : Value} {enx36 eax36 : Option Addr} {esx36 : Array (Option Value)}
    {t_DEEPEST_SORT : Tok}
    {t_GREATEST_BOUND : Tok}
    {t_MOST_SORTS : Tok}
    {t_SIGNS : Tok}
    {Ptx5 : Addr} {cex5 : Value} {cqx5 : Option Addr} {cvx5 : Array Value} {clx5 : Array (Option Value)}
    {Ptx14 : Addr} {cex14 : Value} {cqx14 : Option Addr} {cvx14 : Array Value} {clx14 : Array (Option Value)}
    {Ptx2 : Addr} {cex2 : Value} {cqx2 : Option Addr} {cvx2 : Array Value} {clx2 : Array (Option Value)}
    {Ptx16 : Addr} {cex16 : Value} {cqx16 : Option Addr} {cvx16 : Array Value} {clx16 : Array (Option Value)}
    (aCF : PySem.W.nsIn K mainGlobals "FormatError" = some (some (.ref CF)))
    (aC0 : PySem.W.nsIn K mainGlobals "BadSort" = some (some (.ref C0)))
    (hn : PySem.W.specialIn K (.builtin "object.__class__") "__get__" = some (some (.builtin "getset_descriptor.__get__")))
    (htk : PySem.W.takesIn K (.builtin "object.__class__") = some true)
    (ini0 : PySem.W.excInitIn K C0 chain "Exception.__new__" = true)
    (ovr0 : PySem.W.excOver K C0 chain = true)
    (sa0 : PySem.W.findIn K (.ref C0) "__setattr__" = some (some (.builtin "object.__setattr__")))
    (ga0 : PySem.W.findIn K (.ref C0) "__getattribute__" = some (some (.builtin "BaseException.__getattribute__")))
    (gg0 : PySem.W.findIn K (.ref C0) "__getattr__" = some none)
    (exC0 : PySem.W.subIn K (.ref C0) (.type "BaseException") = some true)
    (hd0 : PySem.W.hasDictIn K C0 = true)
    (kC0 : PySem.W.keepIn K (.ref C0) = true)
    (cl0 : PySem.W.isClsIn K C0 = true)
    (ha0 : PySem.W.findIn K (.ref C0) "__class__" = some (some (.builtin "object.__class__")))
    (mo0 : PySem.W.mroIn K C0 (.type "object") = some true)
    (iC0 : PySem.W.findIn K (.ref C0) "__init__" = some (some (.ref g0)))
    (tC0 : PySem.W.typeIn K (.ref g0) = some (.type "function"))
    (no0 : PySem.W.takerIn K C0 "thing" = some none)
    (nf0 : PySem.W.findIn K (.ref C0) "thing" = some none)
    (l0 : K.lookup g0 = some ⟨oc0, od0, .func (PySem.W.fnOf "__init__" qn0 (iA1 "thing" q0 q1) (iB1 "thing" q2 q3 q4 q5) (iS1 "thing") .none .none dc0 pm0 an0 cd0 ct0), sl0⟩)
    (c0 : PySem.W.codeIn K cd0 qn0 = true)
    (kF0 : PySem.W.kitOne K (.ref C0) (.ref CF) = some true)
    (ty0 : PySem.W.typeIn K (.ref C0) = some (.type "type"))
    (te0 : PySem.W.exmOne K (.ref C0) (.ref C0) = some true)
    (fax0 : PySem.W.nsIn K mainGlobals "is_integer" = some (some (.ref fx0)))
    (flx0 : K.lookup fx0 = some ⟨eox0, enx0, .func (PySem.W.fnOf "is_integer" "is_integer" (defArgs s_is_integer) (defBody s_is_integer) (defScope s_is_integer) .none eVx0 edx0 epx0 eax0 (.ref hx0) etx0), esx0⟩)
    (fcx0 : PySem.W.codeIn K (.ref hx0) "is_integer" = true)
    (fkx0 : PySem.W.keepIn K (.ref fx0) = true)
    (fax1 : PySem.W.nsIn K mainGlobals "is_number" = some (some (.ref fx1)))
    (flx1 : K.lookup fx1 = some ⟨eox1, enx1, .func (PySem.W.fnOf "is_number" "is_number" (defArgs s_is_number) (defBody s_is_number) (defScope s_is_number) .none eVx1 edx1 epx1 eax1 (.ref hx1) etx1), esx1⟩)
    (fcx1 : PySem.W.codeIn K (.ref hx1) "is_number" = true)
    (fkx1 : PySem.W.keepIn K (.ref fx1) = true)
    (fax2 : PySem.W.nsIn K mainGlobals "is_text" = some (some (.ref fx2)))
    (flx2 : K.lookup fx2 = some ⟨eox2, enx2, .func (PySem.W.fnOf "is_text" "is_text" (defArgs s_is_text) (defBody s_is_text) (defScope s_is_text) .none eVx2 edx2 epx2 eax2 (.ref hx2) etx2), esx2⟩)
    (fcx2 : PySem.W.codeIn K (.ref hx2) "is_text" = true)
    (fkx2 : PySem.W.keepIn K (.ref fx2) = true)
    (fax3 : PySem.W.nsIn K mainGlobals "is_tuple_of" = some (some (.ref fx3)))
    (flx3 : K.lookup fx3 = some ⟨eox3, enx3, .func (PySem.W.fnOf "is_tuple_of" "is_tuple_of" (defArgs s_is_tuple_of) (defBody s_is_tuple_of) (defScope s_is_tuple_of) .none eVx3 edx3 epx3 eax3 (.ref hx3) etx3), esx3⟩)
    (fcx3 : PySem.W.codeIn K (.ref hx3) "is_tuple_of" = true)
    (fkx3 : PySem.W.keepIn K (.ref fx3) = true)
    (fax4 : PySem.W.nsIn K mainGlobals "is_pair" = some (some (.ref fx4)))
    (flx4 : K.lookup fx4 = some ⟨eox4, enx4, .func (PySem.W.fnOf "is_pair" "is_pair" (defArgs s_is_pair) (defBody s_is_pair) (defScope s_is_pair) .none eVx4 edx4 epx4 eax4 (.ref hx4) etx4), esx4⟩)
    (fcx4 : PySem.W.codeIn K (.ref hx4) "is_pair" = true)
    (fkx4 : PySem.W.keepIn K (.ref fx4) = true)
    (fax5 : PySem.W.nsIn K mainGlobals "are_ascending" = some (some (.ref fx5)))
    (flx5 : K.lookup fx5 = some ⟨eox5, enx5, .func (PySem.W.fnOf "are_ascending" "are_ascending" (defArgs s_are_ascending) (defBody s_are_ascending) (defScope s_are_ascending) .none eVx5 edx5 epx5 eax5 (.ref hx5) etx5), esx5⟩)
    (fcx5 : PySem.W.codeIn K (.ref hx5) "are_ascending" = true)
    (fkx5 : PySem.W.keepIn K (.ref fx5) = true)
    (fax6 : PySem.W.nsIn K mainGlobals "are_lengths" = some (some (.ref fx6)))
    (flx6 : K.lookup fx6 = some ⟨eox6, enx6, .func (PySem.W.fnOf "are_lengths" "are_lengths" (defArgs s_are_lengths) (defBody s_are_lengths) (defScope s_are_lengths) .none eVx6 edx6 epx6 eax6 (.ref hx6) etx6), esx6⟩)
    (fcx6 : PySem.W.codeIn K (.ref hx6) "are_lengths" = true)
    (fkx6 : PySem.W.keepIn K (.ref fx6) = true)
    (fax7 : PySem.W.nsIn K mainGlobals "are_word_signs" = some (some (.ref fx7)))
    (flx7 : K.lookup fx7 = some ⟨eox7, enx7, .func (PySem.W.fnOf "are_word_signs" "are_word_signs" (defArgs s_are_word_signs) (defBody s_are_word_signs) (defScope s_are_word_signs) .none eVx7 edx7 epx7 eax7 (.ref hx7) etx7), esx7⟩)
    (fcx7 : PySem.W.codeIn K (.ref hx7) "are_word_signs" = true)
    (fkx7 : PySem.W.keepIn K (.ref fx7) = true)
    (fax8 : PySem.W.nsIn K mainGlobals "is_bound" = some (some (.ref fx8)))
    (flx8 : K.lookup fx8 = some ⟨eox8, enx8, .func (PySem.W.fnOf "is_bound" "is_bound" (defArgs s_is_bound) (defBody s_is_bound) (defScope s_is_bound) .none eVx8 edx8 epx8 eax8 (.ref hx8) etx8), esx8⟩)
    (fcx8 : PySem.W.codeIn K (.ref hx8) "is_bound" = true)
    (fkx8 : PySem.W.keepIn K (.ref fx8) = true)
    (fax9 : PySem.W.nsIn K mainGlobals "is_plain_sort" = some (some (.ref fx9)))
    (flx9 : K.lookup fx9 = some ⟨eox9, enx9, .func (PySem.W.fnOf "is_plain_sort" "is_plain_sort" (defArgs s_is_plain_sort) (defBody s_is_plain_sort) (defScope s_is_plain_sort) .none eVx9 edx9 epx9 eax9 (.ref hx9) etx9), esx9⟩)
    (fcx9 : PySem.W.codeIn K (.ref hx9) "is_plain_sort" = true)
    (fkx9 : PySem.W.keepIn K (.ref fx9) = true)
    (fax10 : PySem.W.nsIn K mainGlobals "count_sorts" = some (some (.ref fx10)))
    (flx10 : K.lookup fx10 = some ⟨eox10, enx10, .func (PySem.W.fnOf "count_sorts" "count_sorts" (defArgs s_count_sorts) (defBody s_count_sorts) (defScope s_count_sorts) .none eVx10 edx10 epx10 eax10 (.ref hx10) etx10), esx10⟩)
    (fcx10 : PySem.W.codeIn K (.ref hx10) "count_sorts" = true)
    (fkx10 : PySem.W.keepIn K (.ref fx10) = true)
    (fax11 : PySem.W.nsIn K mainGlobals "count_within" = some (some (.ref fx11)))
    (flx11 : K.lookup fx11 = some ⟨eox11, enx11, .func (PySem.W.fnOf "count_within" "count_within" (defArgs s_count_within) (defBody s_count_within) (defScope s_count_within) .none eVx11 edx11 epx11 eax11 (.ref hx11) etx11), esx11⟩)
    (fcx11 : PySem.W.codeIn K (.ref hx11) "count_within" = true)
    (fkx11 : PySem.W.keepIn K (.ref fx11) = true)
    (fax12 : PySem.W.nsIn K mainGlobals "is_sort" = some (some (.ref fx12)))
    (flx12 : K.lookup fx12 = some ⟨eox12, enx12, .func (PySem.W.fnOf "is_sort" "is_sort" (defArgs s_is_sort) (defBody s_is_sort) (defScope s_is_sort) .none eVx12 edx12 epx12 eax12 (.ref hx12) etx12), esx12⟩)
    (fcx12 : PySem.W.codeIn K (.ref hx12) "is_sort" = true)
    (fkx12 : PySem.W.keepIn K (.ref fx12) = true)
    (fax13 : PySem.W.nsIn K mainGlobals "is_between" = some (some (.ref fx13)))
    (flx13 : K.lookup fx13 = some ⟨eox13, enx13, .func (PySem.W.fnOf "is_between" "is_between" (defArgs s_is_between) (defBody s_is_between) (defScope s_is_between) .none eVx13 edx13 epx13 eax13 (.ref hx13) etx13), esx13⟩)
    (fcx13 : PySem.W.codeIn K (.ref hx13) "is_between" = true)
    (fkx13 : PySem.W.keepIn K (.ref fx13) = true)
    (fax14 : PySem.W.nsIn K mainGlobals "has_only" = some (some (.ref fx14)))
    (flx14 : K.lookup fx14 = some ⟨eox14, enx14, .func (PySem.W.fnOf "has_only" "has_only" (defArgs s_has_only) (defBody s_has_only) (defScope s_has_only) .none eVx14 edx14 epx14 eax14 (.ref hx14) etx14), esx14⟩)
    (fcx14 : PySem.W.codeIn K (.ref hx14) "has_only" = true)
    (fkx14 : PySem.W.keepIn K (.ref fx14) = true)
    (fax15 : PySem.W.nsIn K mainGlobals "is_some" = some (some (.ref fx15)))
    (flx15 : K.lookup fx15 = some ⟨eox15, enx15, .func (PySem.W.fnOf "is_some" "is_some" (defArgs s_is_some) (defBody s_is_some) (defScope s_is_some) .none eVx15 edx15 epx15 eax15 (.ref hx15) etx15), esx15⟩)
    (fcx15 : PySem.W.codeIn K (.ref hx15) "is_some" = true)
    (fkx15 : PySem.W.keepIn K (.ref fx15) = true)
    (fax16 : PySem.W.nsIn K mainGlobals "is_value" = some (some (.ref fx16)))
    (flx16 : K.lookup fx16 = some ⟨eox16, enx16, .func (PySem.W.fnOf "is_value" "is_value" (defArgs s_is_value) (defBody s_is_value) (defScope s_is_value) .none eVx16 edx16 epx16 eax16 (.ref hx16) etx16), esx16⟩)
    (fcx16 : PySem.W.codeIn K (.ref hx16) "is_value" = true)
    (fkx16 : PySem.W.keepIn K (.ref fx16) = true)
    (fax17 : PySem.W.nsIn K mainGlobals "count_rows" = some (some (.ref fx17)))
    (flx17 : K.lookup fx17 = some ⟨eox17, enx17, .func (PySem.W.fnOf "count_rows" "count_rows" (defArgs s_count_rows) (defBody s_count_rows) (defScope s_count_rows) .none eVx17 edx17 epx17 eax17 (.ref hx17) etx17), esx17⟩)
    (fcx17 : PySem.W.codeIn K (.ref hx17) "count_rows" = true)
    (fkx17 : PySem.W.keepIn K (.ref fx17) = true)
    (fax18 : PySem.W.nsIn K mainGlobals "add_counts" = some (some (.ref fx18)))
    (flx18 : K.lookup fx18 = some ⟨eox18, enx18, .func (PySem.W.fnOf "add_counts" "add_counts" (defArgs s_add_counts) (defBody s_add_counts) (defScope s_add_counts) .none eVx18 edx18 epx18 eax18 (.ref hx18) etx18), esx18⟩)
    (fcx18 : PySem.W.codeIn K (.ref hx18) "add_counts" = true)
    (fkx18 : PySem.W.keepIn K (.ref fx18) = true)
    (fax19 : PySem.W.nsIn K mainGlobals "multiply_counts" = some (some (.ref fx19)))
    (flx19 : K.lookup fx19 = some ⟨eox19, enx19, .func (PySem.W.fnOf "multiply_counts" "multiply_counts" (defArgs s_multiply_counts) (defBody s_multiply_counts) (defScope s_multiply_counts) .none eVx19 edx19 epx19 eax19 (.ref hx19) etx19), esx19⟩)
    (fcx19 : PySem.W.codeIn K (.ref hx19) "multiply_counts" = true)
    (fkx19 : PySem.W.keepIn K (.ref fx19) = true)
    (fax20 : PySem.W.nsIn K mainGlobals "how_many_values" = some (some (.ref fx20)))
    (flx20 : K.lookup fx20 = some ⟨eox20, enx20, .func (PySem.W.fnOf "how_many_values" "how_many_values" (defArgs s_how_many_values) (defBody s_how_many_values) (defScope s_how_many_values) .none eVx20 edx20 epx20 eax20 (.ref hx20) etx20), esx20⟩)
    (fcx20 : PySem.W.codeIn K (.ref hx20) "how_many_values" = true)
    (fkx20 : PySem.W.keepIn K (.ref fx20) = true)
    (fax21 : PySem.W.nsIn K mainGlobals "_law_power" = some (some (.ref fx21)))
    (flx21 : K.lookup fx21 = some ⟨eox21, enx21, .func (PySem.W.fnOf "_law_power" "_law_power" (defArgs s__law_power) (defBody s__law_power) (defScope s__law_power) .none eVx21 edx21 epx21 eax21 (.ref hx21) etx21), esx21⟩)
    (fcx21 : PySem.W.codeIn K (.ref hx21) "_law_power" = true)
    (fkx21 : PySem.W.keepIn K (.ref fx21) = true)
    (fax22 : PySem.W.nsIn K mainGlobals "_law_cell_at" = some (some (.ref fx22)))
    (flx22 : K.lookup fx22 = some ⟨eox22, enx22, .func (PySem.W.fnOf "_law_cell_at" "_law_cell_at" (defArgs s__law_cell_at) (defBody s__law_cell_at) (defScope s__law_cell_at) .none eVx22 edx22 epx22 eax22 (.ref hx22) etx22), esx22⟩)
    (fcx22 : PySem.W.codeIn K (.ref hx22) "_law_cell_at" = true)
    (fkx22 : PySem.W.keepIn K (.ref fx22) = true)
    (fax23 : PySem.W.nsIn K mainGlobals "_law_draw" = some (some (.ref fx23)))
    (flx23 : K.lookup fx23 = some ⟨eox23, enx23, .func (PySem.W.fnOf "_law_draw" "_law_draw" (defArgs s__law_draw) (defBody s__law_draw) (defScope s__law_draw) .none eVx23 edx23 epx23 eax23 (.ref hx23) etx23), esx23⟩)
    (fcx23 : PySem.W.codeIn K (.ref hx23) "_law_draw" = true)
    (fkx23 : PySem.W.keepIn K (.ref fx23) = true)
    (fax24 : PySem.W.nsIn K mainGlobals "_law_number" = some (some (.ref fx24)))
    (flx24 : K.lookup fx24 = some ⟨eox24, enx24, .func (PySem.W.fnOf "_law_number" "_law_number" (defArgs s__law_number) (defBody s__law_number) (defScope s__law_number) .none eVx24 edx24 epx24 eax24 (.ref hx24) etx24), esx24⟩)
    (fcx24 : PySem.W.codeIn K (.ref hx24) "_law_number" = true)
    (fkx24 : PySem.W.keepIn K (.ref fx24) = true)
    (fax25 : PySem.W.nsIn K mainGlobals "_law_next" = some (some (.ref fx25)))
    (flx25 : K.lookup fx25 = some ⟨eox25, enx25, .func (PySem.W.fnOf "_law_next" "_law_next" (defArgs s__law_next) (defBody s__law_next) (defScope s__law_next) .none eVx25 edx25 epx25 eax25 (.ref hx25) etx25), esx25⟩)
    (fcx25 : PySem.W.codeIn K (.ref hx25) "_law_next" = true)
    (fkx25 : PySem.W.keepIn K (.ref fx25) = true)
    (fax26 : PySem.W.nsIn K mainGlobals "_law_pick" = some (some (.ref fx26)))
    (flx26 : K.lookup fx26 = some ⟨eox26, enx26, .func (PySem.W.fnOf "_law_pick" "_law_pick" (defArgs s__law_pick) (defBody s__law_pick) (defScope s__law_pick) .none eVx26 edx26 epx26 eax26 (.ref hx26) etx26), esx26⟩)
    (fcx26 : PySem.W.codeIn K (.ref hx26) "_law_pick" = true)
    (fkx26 : PySem.W.keepIn K (.ref fx26) = true)
    (fax27 : PySem.W.nsIn K mainGlobals "_law_sort" = some (some (.ref fx27)))
    (flx27 : K.lookup fx27 = some ⟨eox27, enx27, .func (PySem.W.fnOf "_law_sort" "_law_sort" (defArgs s__law_sort) (defBody s__law_sort) (defScope s__law_sort) .none eVx27 edx27 epx27 eax27 (.ref hx27) etx27), esx27⟩)
    (fcx27 : PySem.W.codeIn K (.ref hx27) "_law_sort" = true)
    (fkx27 : PySem.W.keepIn K (.ref fx27) = true)
    (fax28 : PySem.W.nsIn K mainGlobals "_law_ints" = some (some (.ref fx28)))
    (flx28 : K.lookup fx28 = some ⟨eox28, enx28, .func (PySem.W.fnOf "_law_ints" "_law_ints" (defArgs s__law_ints) (defBody s__law_ints) (defScope s__law_ints) .none eVx28 edx28 epx28 eax28 (.ref hx28) etx28), esx28⟩)
    (fcx28 : PySem.W.codeIn K (.ref hx28) "_law_ints" = true)
    (fkx28 : PySem.W.keepIn K (.ref fx28) = true)
    (fax29 : PySem.W.nsIn K mainGlobals "_law_lots" = some (some (.ref fx29)))
    (flx29 : K.lookup fx29 = some ⟨eox29, enx29, .func (PySem.W.fnOf "_law_lots" "_law_lots" (defArgs s__law_lots) (defBody s__law_lots) (defScope s__law_lots) .none eVx29 edx29 epx29 eax29 (.ref hx29) etx29), esx29⟩)
    (fcx29 : PySem.W.codeIn K (.ref hx29) "_law_lots" = true)
    (fkx29 : PySem.W.keepIn K (.ref fx29) = true)
    (fax30 : PySem.W.nsIn K mainGlobals "_law_values" = some (some (.ref fx30)))
    (flx30 : K.lookup fx30 = some ⟨eox30, enx30, .func (PySem.W.fnOf "_law_values" "_law_values" (defArgs s__law_values) (defBody s__law_values) (defScope s__law_values) .none eVx30 edx30 epx30 eax30 (.ref hx30) etx30), esx30⟩)
    (fcx30 : PySem.W.codeIn K (.ref hx30) "_law_values" = true)
    (fkx30 : PySem.W.keepIn K (.ref fx30) = true)
    (fax31 : PySem.W.nsIn K mainGlobals "_law_many" = some (some (.ref fx31)))
    (flx31 : K.lookup fx31 = some ⟨eox31, enx31, .func (PySem.W.fnOf "_law_many" "_law_many" (defArgs s__law_many) (defBody s__law_many) (defScope s__law_many) .none eVx31 edx31 epx31 eax31 (.ref hx31) etx31), esx31⟩)
    (fcx31 : PySem.W.codeIn K (.ref hx31) "_law_many" = true)
    (fkx31 : PySem.W.keepIn K (.ref fx31) = true)
    (fax32 : PySem.W.nsIn K mainGlobals "_law_wrong" = some (some (.ref fx32)))
    (flx32 : K.lookup fx32 = some ⟨eox32, enx32, .func (PySem.W.fnOf "_law_wrong" "_law_wrong" (defArgs s__law_wrong) (defBody s__law_wrong) (defScope s__law_wrong) .none eVx32 edx32 epx32 eax32 (.ref hx32) etx32), esx32⟩)
    (fcx32 : PySem.W.codeIn K (.ref hx32) "_law_wrong" = true)
    (fkx32 : PySem.W.keepIn K (.ref fx32) = true)
    (fax33 : PySem.W.nsIn K mainGlobals "_law_odd" = some (some (.ref fx33)))
    (flx33 : K.lookup fx33 = some ⟨eox33, enx33, .func (PySem.W.fnOf "_law_odd" "_law_odd" (defArgs s__law_odd) (defBody s__law_odd) (defScope s__law_odd) .none eVx33 edx33 epx33 eax33 (.ref hx33) etx33), esx33⟩)
    (fcx33 : PySem.W.codeIn K (.ref hx33) "_law_odd" = true)
    (fkx33 : PySem.W.keepIn K (.ref fx33) = true)
    (fax34 : PySem.W.nsIn K mainGlobals "_law_refuses_known" = some (some (.ref fx34)))
    (flx34 : K.lookup fx34 = some ⟨eox34, enx34, .func (PySem.W.fnOf "_law_refuses_known" "_law_refuses_known" (defArgs s__law_refuses_known) (defBody s__law_refuses_known) (defScope s__law_refuses_known) .none eVx34 edx34 epx34 eax34 (.ref hx34) etx34), esx34⟩)
    (fcx34 : PySem.W.codeIn K (.ref hx34) "_law_refuses_known" = true)
    (fkx34 : PySem.W.keepIn K (.ref fx34) = true)
    (fax35 : PySem.W.nsIn K mainGlobals "check_sort" = some (some (.ref fx35)))
    (flx35 : K.lookup fx35 = some ⟨eox35, enx35, .func (PySem.W.fnOf "check_sort" "check_sort" (defArgs s_check) (defBody s_check) (defScope s_check) .none eVx35 edx35 epx35 eax35 (.ref hx35) etx35), esx35⟩)
    (fcx35 : PySem.W.codeIn K (.ref hx35) "check_sort" = true)
    (fkx35 : PySem.W.keepIn K (.ref fx35) = true)
    (fax36 : PySem.W.nsIn K mainGlobals "law" = some (some (.ref fx36)))
    (flx36 : K.lookup fx36 = some ⟨eox36, enx36, .func (PySem.W.fnOf "law" "law" (defArgs s_law) (defBody s_law) (defScope s_law) .none eVx36 edx36 epx36 eax36 (.ref hx36) etx36), esx36⟩)
    (fcx36 : PySem.W.codeIn K (.ref hx36) "law" = true)
    (fkx36 : PySem.W.keepIn K (.ref fx36) = true)
    (n_all : PySem.W.nsIn K mainGlobals "all" = some none)
    (n_any : PySem.W.nsIn K mainGlobals "any" = some none)
    (n_bool : PySem.W.nsIn K mainGlobals "bool" = some none)
    (n_enumerate : PySem.W.nsIn K mainGlobals "enumerate" = some none)
    (n_int : PySem.W.nsIn K mainGlobals "int" = some none)
    (n_isinstance : PySem.W.nsIn K mainGlobals "isinstance" = some none)
    (n_len : PySem.W.nsIn K mainGlobals "len" = some none)
    (n_list : PySem.W.nsIn K mainGlobals "list" = some none)
    (n_min : PySem.W.nsIn K mainGlobals "min" = some none)
    (n_range : PySem.W.nsIn K mainGlobals "range" = some none)
    (n_str : PySem.W.nsIn K mainGlobals "str" = some none)
    (n_sum : PySem.W.nsIn K mainGlobals "sum" = some none)
    (n_tuple : PySem.W.nsIn K mainGlobals "tuple" = some none)
    (c_DEEPEST_SORT : PySem.W.nsIn K mainGlobals "DEEPEST_SORT" = some (some (.int 4 t_DEEPEST_SORT)))
    (c_GREATEST_BOUND : PySem.W.nsIn K mainGlobals "GREATEST_BOUND" = some (some (.int 999999999 t_GREATEST_BOUND)))
    (c_MOST_SORTS : PySem.W.nsIn K mainGlobals "MOST_SORTS" = some (some (.int 16 t_MOST_SORTS)))
    (c_SIGNS : PySem.W.nsIn K mainGlobals "SIGNS" = some (some (.str (Str.ofString " !\"#$&'()*+,-./0123456789:;<=>?@ABCDEFGHIJKLMNOPQRSTUVWXYZ[\\]^_`abcdefghijklmnopqrstuvwxyz{|}~") t_SIGNS)))
    (klx5 : K.lookup hx5 = some ⟨cex5, cqx5, .fields cvx5, clx5⟩)
    (kvx5 : cvx5[11]? = some (.ref Ptx5))
    (ntx5 : K.lookup Ptx5 = none)
    (klx14 : K.lookup hx14 = some ⟨cex14, cqx14, .fields cvx14, clx14⟩)
    (kvx14 : cvx14[11]? = some (.ref Ptx14))
    (ntx14 : K.lookup Ptx14 = none)
    (klx2 : K.lookup hx2 = some ⟨cex2, cqx2, .fields cvx2, clx2⟩)
    (kvx2 : cvx2[11]? = some (.ref Ptx2))
    (ntx2 : K.lookup Ptx2 = none)
    (klx16 : K.lookup hx16 = some ⟨cex16, cqx16, .fields cvx16, clx16⟩)
    (kvx16 : cvx16[11]? = some (.ref Ptx16))
    (ntx16 : K.lookup Ptx16 = none) :
    LamX.LawAtS l w K L2.CX0 61 63 "script" mg fa h := by
  have e := hfa.symm.trans (PySem.W.mg_of X G fax36)
  cases e
  have eC : ExC K C0 := ⟨ini0, ovr0, sa0, ga0, gg0, exC0, hd0, kC0, cl0, ha0, hn, htk, mo0⟩
  have T : ClB K mg CF C0 g0 := ⟨PySem.W.mg_of X G aCF, PySem.W.mg_of X G aC0, eC, ty0, ⟨iC0, tC0, no0, nf0, _, _, _, _, _, _, _, _, _, _, _, _, _, _, _, l0, c0⟩, kF0, te0⟩
  have tbx5 := tab_mk fax5 flx5 rfl klx5 kvx5
  have tbx14 := tab_mk fax14 flx14 rfl klx14 kvx14
  have tbx2 := tab_mk fax2 flx2 rfl klx2 kvx2
  have tbx16 := tab_mk fax16 flx16 rfl klx16 kvx16
  let cs : List (Addr × Addr) := [(hx5, Ptx5), (hx14, Ptx14), (hx2, Ptx2), (hx16, Ptx16)]
  have Fx0 := fun_mk (st := s_is_integer) flx0 fcx0 fkx0
  have Ex0 : FunC K "is_integer" s_is_integer fx0 (PySem.W.fnOf "is_integer" "is_integer" (defArgs s_is_integer) (defBody s_is_integer) (defScope s_is_integer) .none eVx0 edx0 epx0 eax0 (.ref hx0) etx0) hx0 := ⟨⟨_, _, _, _, _, _, _, _, rfl, flx0, fcx0⟩, fkx0⟩
  have bx0 := Fx0.binds (ps := ["thing"]) fun _ _ _ _ _ _ us hl => match us, hl with | [_], _ => rfl
  have mx0 := PySem.W.mg_of X G fax0
  have Fx1 := fun_mk (st := s_is_number) flx1 fcx1 fkx1
  have Ex1 : FunC K "is_number" s_is_number fx1 (PySem.W.fnOf "is_number" "is_number" (defArgs s_is_number) (defBody s_is_number) (defScope s_is_number) .none eVx1 edx1 epx1 eax1 (.ref hx1) etx1) hx1 := ⟨⟨_, _, _, _, _, _, _, _, rfl, flx1, fcx1⟩, fkx1⟩
  have bx1 := Fx1.binds (ps := ["thing", "least", "most"]) fun _ _ _ _ _ _ us hl => match us, hl with | [_, _, _], _ => rfl
  have mx1 := PySem.W.mg_of X G fax1
  have Fx2 := fun_mk (st := s_is_text) flx2 fcx2 fkx2
  have Ex2 : FunC K "is_text" s_is_text fx2 (PySem.W.fnOf "is_text" "is_text" (defArgs s_is_text) (defBody s_is_text) (defScope s_is_text) .none eVx2 edx2 epx2 eax2 (.ref hx2) etx2) hx2 := ⟨⟨_, _, _, _, _, _, _, _, rfl, flx2, fcx2⟩, fkx2⟩
  have bx2 := Fx2.binds (ps := ["thing", "least", "most"]) fun _ _ _ _ _ _ us hl => match us, hl with | [_, _, _], _ => rfl
  have mx2 := PySem.W.mg_of X G fax2
  have Fx3 := fun_mk (st := s_is_tuple_of) flx3 fcx3 fkx3
  have Ex3 : FunC K "is_tuple_of" s_is_tuple_of fx3 (PySem.W.fnOf "is_tuple_of" "is_tuple_of" (defArgs s_is_tuple_of) (defBody s_is_tuple_of) (defScope s_is_tuple_of) .none eVx3 edx3 epx3 eax3 (.ref hx3) etx3) hx3 := ⟨⟨_, _, _, _, _, _, _, _, rfl, flx3, fcx3⟩, fkx3⟩
  have bx3 := Fx3.binds (ps := ["thing", "least", "most"]) fun _ _ _ _ _ _ us hl => match us, hl with | [_, _, _], _ => rfl
  have mx3 := PySem.W.mg_of X G fax3
  have Fx4 := fun_mk (st := s_is_pair) flx4 fcx4 fkx4
  have Ex4 : FunC K "is_pair" s_is_pair fx4 (PySem.W.fnOf "is_pair" "is_pair" (defArgs s_is_pair) (defBody s_is_pair) (defScope s_is_pair) .none eVx4 edx4 epx4 eax4 (.ref hx4) etx4) hx4 := ⟨⟨_, _, _, _, _, _, _, _, rfl, flx4, fcx4⟩, fkx4⟩
  have bx4 := Fx4.binds (ps := ["thing"]) fun _ _ _ _ _ _ us hl => match us, hl with | [_], _ => rfl
  have mx4 := PySem.W.mg_of X G fax4
  have Fx5 := fun_mk (st := s_are_ascending) flx5 fcx5 fkx5
  have Ex5 : FunC K "are_ascending" s_are_ascending fx5 (PySem.W.fnOf "are_ascending" "are_ascending" (defArgs s_are_ascending) (defBody s_are_ascending) (defScope s_are_ascending) .none eVx5 edx5 epx5 eax5 (.ref hx5) etx5) hx5 := ⟨⟨_, _, _, _, _, _, _, _, rfl, flx5, fcx5⟩, fkx5⟩
  have bx5 := Fx5.binds (ps := ["signs"]) fun _ _ _ _ _ _ us hl => match us, hl with | [_], _ => rfl
  have mx5 := PySem.W.mg_of X G fax5
  have Fx6 := fun_mk (st := s_are_lengths) flx6 fcx6 fkx6
  have Ex6 : FunC K "are_lengths" s_are_lengths fx6 (PySem.W.fnOf "are_lengths" "are_lengths" (defArgs s_are_lengths) (defBody s_are_lengths) (defScope s_are_lengths) .none eVx6 edx6 epx6 eax6 (.ref hx6) etx6) hx6 := ⟨⟨_, _, _, _, _, _, _, _, rfl, flx6, fcx6⟩, fkx6⟩
  have bx6 := Fx6.binds (ps := ["least", "most"]) fun _ _ _ _ _ _ us hl => match us, hl with | [_, _], _ => rfl
  have mx6 := PySem.W.mg_of X G fax6
  have Fx7 := fun_mk (st := s_are_word_signs) flx7 fcx7 fkx7
  have Ex7 : FunC K "are_word_signs" s_are_word_signs fx7 (PySem.W.fnOf "are_word_signs" "are_word_signs" (defArgs s_are_word_signs) (defBody s_are_word_signs) (defScope s_are_word_signs) .none eVx7 edx7 epx7 eax7 (.ref hx7) etx7) hx7 := ⟨⟨_, _, _, _, _, _, _, _, rfl, flx7, fcx7⟩, fkx7⟩
  have bx7 := Fx7.binds (ps := ["thing"]) fun _ _ _ _ _ _ us hl => match us, hl with | [_], _ => rfl
  have mx7 := PySem.W.mg_of X G fax7
  have Fx8 := fun_mk (st := s_is_bound) flx8 fcx8 fkx8
  have Ex8 : FunC K "is_bound" s_is_bound fx8 (PySem.W.fnOf "is_bound" "is_bound" (defArgs s_is_bound) (defBody s_is_bound) (defScope s_is_bound) .none eVx8 edx8 epx8 eax8 (.ref hx8) etx8) hx8 := ⟨⟨_, _, _, _, _, _, _, _, rfl, flx8, fcx8⟩, fkx8⟩
  have bx8 := Fx8.binds (ps := ["thing"]) fun _ _ _ _ _ _ us hl => match us, hl with | [_], _ => rfl
  have mx8 := PySem.W.mg_of X G fax8
  have Fx9 := fun_mk (st := s_is_plain_sort) flx9 fcx9 fkx9
  have Ex9 : FunC K "is_plain_sort" s_is_plain_sort fx9 (PySem.W.fnOf "is_plain_sort" "is_plain_sort" (defArgs s_is_plain_sort) (defBody s_is_plain_sort) (defScope s_is_plain_sort) .none eVx9 edx9 epx9 eax9 (.ref hx9) etx9) hx9 := ⟨⟨_, _, _, _, _, _, _, _, rfl, flx9, fcx9⟩, fkx9⟩
  have bx9 := Fx9.binds (ps := ["thing"]) fun _ _ _ _ _ _ us hl => match us, hl with | [_], _ => rfl
  have mx9 := PySem.W.mg_of X G fax9
  have Fx10 := fun_mk (st := s_count_sorts) flx10 fcx10 fkx10
  have Ex10 : FunC K "count_sorts" s_count_sorts fx10 (PySem.W.fnOf "count_sorts" "count_sorts" (defArgs s_count_sorts) (defBody s_count_sorts) (defScope s_count_sorts) .none eVx10 edx10 epx10 eax10 (.ref hx10) etx10) hx10 := ⟨⟨_, _, _, _, _, _, _, _, rfl, flx10, fcx10⟩, fkx10⟩
  have bx10 := Fx10.binds (ps := ["thing", "deep"]) fun _ _ _ _ _ _ us hl => match us, hl with | [_, _], _ => rfl
  have mx10 := PySem.W.mg_of X G fax10
  have Fx11 := fun_mk (st := s_count_within) flx11 fcx11 fkx11
  have Ex11 : FunC K "count_within" s_count_within fx11 (PySem.W.fnOf "count_within" "count_within" (defArgs s_count_within) (defBody s_count_within) (defScope s_count_within) .none eVx11 edx11 epx11 eax11 (.ref hx11) etx11) hx11 := ⟨⟨_, _, _, _, _, _, _, _, rfl, flx11, fcx11⟩, fkx11⟩
  have bx11 := Fx11.binds (ps := ["things", "deep"]) fun _ _ _ _ _ _ us hl => match us, hl with | [_, _], _ => rfl
  have mx11 := PySem.W.mg_of X G fax11
  have Fx12 := fun_mk (st := s_is_sort) flx12 fcx12 fkx12
  have Ex12 : FunC K "is_sort" s_is_sort fx12 (PySem.W.fnOf "is_sort" "is_sort" (defArgs s_is_sort) (defBody s_is_sort) (defScope s_is_sort) .none eVx12 edx12 epx12 eax12 (.ref hx12) etx12) hx12 := ⟨⟨_, _, _, _, _, _, _, _, rfl, flx12, fcx12⟩, fkx12⟩
  have bx12 := Fx12.binds (ps := ["thing"]) fun _ _ _ _ _ _ us hl => match us, hl with | [_], _ => rfl
  have mx12 := PySem.W.mg_of X G fax12
  have Fx13 := fun_mk (st := s_is_between) flx13 fcx13 fkx13
  have Ex13 : FunC K "is_between" s_is_between fx13 (PySem.W.fnOf "is_between" "is_between" (defArgs s_is_between) (defBody s_is_between) (defScope s_is_between) .none eVx13 edx13 epx13 eax13 (.ref hx13) etx13) hx13 := ⟨⟨_, _, _, _, _, _, _, _, rfl, flx13, fcx13⟩, fkx13⟩
  have bx13 := Fx13.binds (ps := ["number", "low", "high"]) fun _ _ _ _ _ _ us hl => match us, hl with | [_, _, _], _ => rfl
  have mx13 := PySem.W.mg_of X G fax13
  have Fx14 := fun_mk (st := s_has_only) flx14 fcx14 fkx14
  have Ex14 : FunC K "has_only" s_has_only fx14 (PySem.W.fnOf "has_only" "has_only" (defArgs s_has_only) (defBody s_has_only) (defScope s_has_only) .none eVx14 edx14 epx14 eax14 (.ref hx14) etx14) hx14 := ⟨⟨_, _, _, _, _, _, _, _, rfl, flx14, fcx14⟩, fkx14⟩
  have bx14 := Fx14.binds (ps := ["word", "signs"]) fun _ _ _ _ _ _ us hl => match us, hl with | [_, _], _ => rfl
  have mx14 := PySem.W.mg_of X G fax14
  have Fx15 := fun_mk (st := s_is_some) flx15 fcx15 fkx15
  have Ex15 : FunC K "is_some" s_is_some fx15 (PySem.W.fnOf "is_some" "is_some" (defArgs s_is_some) (defBody s_is_some) (defScope s_is_some) .none eVx15 edx15 epx15 eax15 (.ref hx15) etx15) hx15 := ⟨⟨_, _, _, _, _, _, _, _, rfl, flx15, fcx15⟩, fkx15⟩
  have bx15 := Fx15.binds (ps := ["thing"]) fun _ _ _ _ _ _ us hl => match us, hl with | [_], _ => rfl
  have mx15 := PySem.W.mg_of X G fax15
  have Fx16 := fun_mk (st := s_is_value) flx16 fcx16 fkx16
  have Ex16 : FunC K "is_value" s_is_value fx16 (PySem.W.fnOf "is_value" "is_value" (defArgs s_is_value) (defBody s_is_value) (defScope s_is_value) .none eVx16 edx16 epx16 eax16 (.ref hx16) etx16) hx16 := ⟨⟨_, _, _, _, _, _, _, _, rfl, flx16, fcx16⟩, fkx16⟩
  have bx16 := Fx16.binds (ps := ["sort", "thing"]) fun _ _ _ _ _ _ us hl => match us, hl with | [_, _], _ => rfl
  have mx16 := PySem.W.mg_of X G fax16
  have Fx17 := fun_mk (st := s_count_rows) flx17 fcx17 fkx17
  have Ex17 : FunC K "count_rows" s_count_rows fx17 (PySem.W.fnOf "count_rows" "count_rows" (defArgs s_count_rows) (defBody s_count_rows) (defScope s_count_rows) .none eVx17 edx17 epx17 eax17 (.ref hx17) etx17) hx17 := ⟨⟨_, _, _, _, _, _, _, _, rfl, flx17, fcx17⟩, fkx17⟩
  have bx17 := Fx17.binds (ps := ["many", "least", "most"]) fun _ _ _ _ _ _ us hl => match us, hl with | [_, _, _], _ => rfl
  have mx17 := PySem.W.mg_of X G fax17
  have Fx18 := fun_mk (st := s_add_counts) flx18 fcx18 fkx18
  have Ex18 : FunC K "add_counts" s_add_counts fx18 (PySem.W.fnOf "add_counts" "add_counts" (defArgs s_add_counts) (defBody s_add_counts) (defScope s_add_counts) .none eVx18 edx18 epx18 eax18 (.ref hx18) etx18) hx18 := ⟨⟨_, _, _, _, _, _, _, _, rfl, flx18, fcx18⟩, fkx18⟩
  have bx18 := Fx18.binds (ps := ["counts"]) fun _ _ _ _ _ _ us hl => match us, hl with | [_], _ => rfl
  have mx18 := PySem.W.mg_of X G fax18
  have Fx19 := fun_mk (st := s_multiply_counts) flx19 fcx19 fkx19
  have Ex19 : FunC K "multiply_counts" s_multiply_counts fx19 (PySem.W.fnOf "multiply_counts" "multiply_counts" (defArgs s_multiply_counts) (defBody s_multiply_counts) (defScope s_multiply_counts) .none eVx19 edx19 epx19 eax19 (.ref hx19) etx19) hx19 := ⟨⟨_, _, _, _, _, _, _, _, rfl, flx19, fcx19⟩, fkx19⟩
  have bx19 := Fx19.binds (ps := ["counts"]) fun _ _ _ _ _ _ us hl => match us, hl with | [_], _ => rfl
  have mx19 := PySem.W.mg_of X G fax19
  have Fx20 := fun_mk (st := s_how_many_values) flx20 fcx20 fkx20
  have Ex20 : FunC K "how_many_values" s_how_many_values fx20 (PySem.W.fnOf "how_many_values" "how_many_values" (defArgs s_how_many_values) (defBody s_how_many_values) (defScope s_how_many_values) .none eVx20 edx20 epx20 eax20 (.ref hx20) etx20) hx20 := ⟨⟨_, _, _, _, _, _, _, _, rfl, flx20, fcx20⟩, fkx20⟩
  have bx20 := Fx20.binds (ps := ["sort"]) fun _ _ _ _ _ _ us hl => match us, hl with | [_], _ => rfl
  have mx20 := PySem.W.mg_of X G fax20
  have Fx21 := fun_mk (st := s__law_power) flx21 fcx21 fkx21
  have Ex21 : FunC K "_law_power" s__law_power fx21 (PySem.W.fnOf "_law_power" "_law_power" (defArgs s__law_power) (defBody s__law_power) (defScope s__law_power) .none eVx21 edx21 epx21 eax21 (.ref hx21) etx21) hx21 := ⟨⟨_, _, _, _, _, _, _, _, rfl, flx21, fcx21⟩, fkx21⟩
  have bx21 := Fx21.binds (ps := ["base", "many"]) fun _ _ _ _ _ _ us hl => match us, hl with | [_, _], _ => rfl
  have mx21 := PySem.W.mg_of X G fax21
  have Fx22 := fun_mk (st := s__law_cell_at) flx22 fcx22 fkx22
  have Ex22 : FunC K "_law_cell_at" s__law_cell_at fx22 (PySem.W.fnOf "_law_cell_at" "_law_cell_at" (defArgs s__law_cell_at) (defBody s__law_cell_at) (defScope s__law_cell_at) .none eVx22 edx22 epx22 eax22 (.ref hx22) etx22) hx22 := ⟨⟨_, _, _, _, _, _, _, _, rfl, flx22, fcx22⟩, fkx22⟩
  have bx22 := Fx22.binds (ps := ["script", "k"]) fun _ _ _ _ _ _ us hl => match us, hl with | [_, _], _ => rfl
  have mx22 := PySem.W.mg_of X G fax22
  have Fx23 := fun_mk (st := s__law_draw) flx23 fcx23 fkx23
  have Ex23 : FunC K "_law_draw" s__law_draw fx23 (PySem.W.fnOf "_law_draw" "_law_draw" (defArgs s__law_draw) (defBody s__law_draw) (defScope s__law_draw) .none eVx23 edx23 epx23 eax23 (.ref hx23) etx23) hx23 := ⟨⟨_, _, _, _, _, _, _, _, rfl, flx23, fcx23⟩, fkx23⟩
  have bx23 := Fx23.binds (ps := ["cell", "k", "bound"]) fun _ _ _ _ _ _ us hl => match us, hl with | [_, _, _], _ => rfl
  have mx23 := PySem.W.mg_of X G fax23
  have Fx24 := fun_mk (st := s__law_number) flx24 fcx24 fkx24
  have Ex24 : FunC K "_law_number" s__law_number fx24 (PySem.W.fnOf "_law_number" "_law_number" (defArgs s__law_number) (defBody s__law_number) (defScope s__law_number) .none eVx24 edx24 epx24 eax24 (.ref hx24) etx24) hx24 := ⟨⟨_, _, _, _, _, _, _, _, rfl, flx24, fcx24⟩, fkx24⟩
  have bx24 := Fx24.binds (ps := ["cell", "k", "bound"]) fun _ _ _ _ _ _ us hl => match us, hl with | [_, _, _], _ => rfl
  have mx24 := PySem.W.mg_of X G fax24
  have Fx25 := fun_mk (st := s__law_next) flx25 fcx25 fkx25
  have Ex25 : FunC K "_law_next" s__law_next fx25 (PySem.W.fnOf "_law_next" "_law_next" (defArgs s__law_next) (defBody s__law_next) (defScope s__law_next) .none eVx25 edx25 epx25 eax25 (.ref hx25) etx25) hx25 := ⟨⟨_, _, _, _, _, _, _, _, rfl, flx25, fcx25⟩, fkx25⟩
  have bx25 := Fx25.binds (ps := ["draw", "bound"]) fun _ _ _ _ _ _ us hl => match us, hl with | [_, _], _ => rfl
  have mx25 := PySem.W.mg_of X G fax25
  have Fx26 := fun_mk (st := s__law_pick) flx26 fcx26 fkx26
  have Ex26 : FunC K "_law_pick" s__law_pick fx26 (PySem.W.fnOf "_law_pick" "_law_pick" (defArgs s__law_pick) (defBody s__law_pick) (defScope s__law_pick) .none eVx26 edx26 epx26 eax26 (.ref hx26) etx26) hx26 := ⟨⟨_, _, _, _, _, _, _, _, rfl, flx26, fcx26⟩, fkx26⟩
  have bx26 := Fx26.binds (ps := ["draw", "things"]) fun _ _ _ _ _ _ us hl => match us, hl with | [_, _], _ => rfl
  have mx26 := PySem.W.mg_of X G fax26
  have Fx27 := fun_mk (st := s__law_sort) flx27 fcx27 fkx27
  have Ex27 : FunC K "_law_sort" s__law_sort fx27 (PySem.W.fnOf "_law_sort" "_law_sort" (defArgs s__law_sort) (defBody s__law_sort) (defScope s__law_sort) .none eVx27 edx27 epx27 eax27 (.ref hx27) etx27) hx27 := ⟨⟨_, _, _, _, _, _, _, _, rfl, flx27, fcx27⟩, fkx27⟩
  have bx27 := Fx27.binds (ps := ["draw", "deep"]) fun _ _ _ _ _ _ us hl => match us, hl with | [_, _], _ => rfl
  have mx27 := PySem.W.mg_of X G fax27
  have Fx28 := fun_mk (st := s__law_ints) flx28 fcx28 fkx28
  have Ex28 : FunC K "_law_ints" s__law_ints fx28 (PySem.W.fnOf "_law_ints" "_law_ints" (defArgs s__law_ints) (defBody s__law_ints) (defScope s__law_ints) .none eVx28 edx28 epx28 eax28 (.ref hx28) etx28) hx28 := ⟨⟨_, _, _, _, _, _, _, _, rfl, flx28, fcx28⟩, fkx28⟩
  have bx28 := Fx28.binds (ps := ["sort", "most"]) fun _ _ _ _ _ _ us hl => match us, hl with | [_, _], _ => rfl
  have mx28 := PySem.W.mg_of X G fax28
  have Fx29 := fun_mk (st := s__law_lots) flx29 fcx29 fkx29
  have Ex29 : FunC K "_law_lots" s__law_lots fx29 (PySem.W.fnOf "_law_lots" "_law_lots" (defArgs s__law_lots) (defBody s__law_lots) (defScope s__law_lots) .none eVx29 edx29 epx29 eax29 (.ref hx29) etx29) hx29 := ⟨⟨_, _, _, _, _, _, _, _, rfl, flx29, fcx29⟩, fkx29⟩
  have bx29 := Fx29.binds (ps := ["things", "least", "most", "cap"]) fun _ _ _ _ _ _ us hl => match us, hl with | [_, _, _, _], _ => rfl
  have mx29 := PySem.W.mg_of X G fax29
  have Fx30 := fun_mk (st := s__law_values) flx30 fcx30 fkx30
  have Ex30 : FunC K "_law_values" s__law_values fx30 (PySem.W.fnOf "_law_values" "_law_values" (defArgs s__law_values) (defBody s__law_values) (defScope s__law_values) .none eVx30 edx30 epx30 eax30 (.ref hx30) etx30) hx30 := ⟨⟨_, _, _, _, _, _, _, _, rfl, flx30, fcx30⟩, fkx30⟩
  have bx30 := Fx30.binds (ps := ["sort", "cap"]) fun _ _ _ _ _ _ us hl => match us, hl with | [_, _], _ => rfl
  have mx30 := PySem.W.mg_of X G fax30
  have Fx31 := fun_mk (st := s__law_many) flx31 fcx31 fkx31
  have Ex31 : FunC K "_law_many" s__law_many fx31 (PySem.W.fnOf "_law_many" "_law_many" (defArgs s__law_many) (defBody s__law_many) (defScope s__law_many) .none eVx31 edx31 epx31 eax31 (.ref hx31) etx31) hx31 := ⟨⟨_, _, _, _, _, _, _, _, rfl, flx31, fcx31⟩, fkx31⟩
  have bx31 := Fx31.binds (ps := ["sort"]) fun _ _ _ _ _ _ us hl => match us, hl with | [_], _ => rfl
  have mx31 := PySem.W.mg_of X G fax31
  have Fx32 := fun_mk (st := s__law_wrong) flx32 fcx32 fkx32
  have Ex32 : FunC K "_law_wrong" s__law_wrong fx32 (PySem.W.fnOf "_law_wrong" "_law_wrong" (defArgs s__law_wrong) (defBody s__law_wrong) (defScope s__law_wrong) .none eVx32 edx32 epx32 eax32 (.ref hx32) etx32) hx32 := ⟨⟨_, _, _, _, _, _, _, _, rfl, flx32, fcx32⟩, fkx32⟩
  have bx32 := Fx32.binds (ps := []) fun _ _ _ _ _ _ us hl => match us, hl with | [], _ => rfl
  have mx32 := PySem.W.mg_of X G fax32
  have Fx33 := fun_mk (st := s__law_odd) flx33 fcx33 fkx33
  have Ex33 : FunC K "_law_odd" s__law_odd fx33 (PySem.W.fnOf "_law_odd" "_law_odd" (defArgs s__law_odd) (defBody s__law_odd) (defScope s__law_odd) .none eVx33 edx33 epx33 eax33 (.ref hx33) etx33) hx33 := ⟨⟨_, _, _, _, _, _, _, _, rfl, flx33, fcx33⟩, fkx33⟩
  have bx33 := Fx33.binds (ps := ["sort"]) fun _ _ _ _ _ _ us hl => match us, hl with | [_], _ => rfl
  have mx33 := PySem.W.mg_of X G fax33
  have Fx34 := fun_mk (st := s__law_refuses_known) flx34 fcx34 fkx34
  have Ex34 : FunC K "_law_refuses_known" s__law_refuses_known fx34 (PySem.W.fnOf "_law_refuses_known" "_law_refuses_known" (defArgs s__law_refuses_known) (defBody s__law_refuses_known) (defScope s__law_refuses_known) .none eVx34 edx34 epx34 eax34 (.ref hx34) etx34) hx34 := ⟨⟨_, _, _, _, _, _, _, _, rfl, flx34, fcx34⟩, fkx34⟩
  have bx34 := Fx34.binds (ps := []) fun _ _ _ _ _ _ us hl => match us, hl with | [], _ => rfl
  have mx34 := PySem.W.mg_of X G fax34
  have Fx35 := fun_mk (st := s_check) flx35 fcx35 fkx35
  have Ex35 : FunC K "check_sort" s_check fx35 (PySem.W.fnOf "check_sort" "check_sort" (defArgs s_check) (defBody s_check) (defScope s_check) .none eVx35 edx35 epx35 eax35 (.ref hx35) etx35) hx35 := ⟨⟨_, _, _, _, _, _, _, _, rfl, flx35, fcx35⟩, fkx35⟩
  have bx35 := Fx35.binds (ps := ["thing"]) fun _ _ _ _ _ _ us hl => match us, hl with | [_], _ => rfl
  have mx35 := PySem.W.mg_of X G fax35
  have Fx36 := fun_mk (st := s_law) flx36 fcx36 fkx36
  have Ex36 : FunC K "law" s_law fa (PySem.W.fnOf "law" "law" (defArgs s_law) (defBody s_law) (defScope s_law) .none eVx36 edx36 epx36 eax36 (.ref hx36) etx36) hx36 := ⟨⟨_, _, _, _, _, _, _, _, rfl, flx36, fcx36⟩, fkx36⟩
  have z_all := PySem.W.mg_none_of X G n_all
  have z_any := PySem.W.mg_none_of X G n_any
  have z_bool := PySem.W.mg_none_of X G n_bool
  have z_enumerate := PySem.W.mg_none_of X G n_enumerate
  have z_int := PySem.W.mg_none_of X G n_int
  have z_isinstance := PySem.W.mg_none_of X G n_isinstance
  have z_len := PySem.W.mg_none_of X G n_len
  have z_list := PySem.W.mg_none_of X G n_list
  have z_min := PySem.W.mg_none_of X G n_min
  have z_range := PySem.W.mg_none_of X G n_range
  have z_str := PySem.W.mg_none_of X G n_str
  have z_sum := PySem.W.mg_none_of X G n_sum
  have z_tuple := PySem.W.mg_none_of X G n_tuple
  have mc_DEEPEST_SORT := PySem.W.mg_of X G c_DEEPEST_SORT
  have mc_GREATEST_BOUND := PySem.W.mg_of X G c_GREATEST_BOUND
  have mc_MOST_SORTS := PySem.W.mg_of X G c_MOST_SORTS
  have mc_SIGNS := PySem.W.mg_of X G c_SIGNS
  refine ⟨PySem.W.fnOf "law" "law" (defArgs s_law) (defBody s_law) (defScope s_law) .none eVx36 edx36 epx36 eax36 (.ref hx36) etx36, cs, spLaw K (tabsOf cs), ?hT, ?nT, ?C, fun s v => .of_eq rfl, fun H a ns _ _ hH hS => ⟨a, ns, rfl, hS, ?tabs, fun _ => rfl⟩, fun base _ _ TBs => ?main⟩
  case hT =>
    intro p hp
    simp only [cs, List.mem_cons, List.not_mem_nil, or_false] at hp
    rcases hp with rfl | rfl | rfl | rfl
    · exact (hTab "are_ascending" (by decide) _ _ tbx5).2
    · exact (hTab "has_only" (by decide) _ _ tbx14).2
    · exact (hTab "is_text" (by decide) _ _ tbx2).2
    · exact (hTab "is_value" (by decide) _ _ tbx16).2
  case nT =>
    intro p hp
    simp only [cs, List.mem_cons, List.not_mem_nil, or_false] at hp
    rcases hp with rfl | rfl | rfl | rfl
    · exact ntx5
    · exact ntx14
    · exact ntx2
    · exact ntx16
  case C =>
    intro p hp
    simp only [cs, List.mem_cons, List.not_mem_nil, or_false] at hp
    rcases hp with rfl | rfl | rfl | rfl
    · exact (hTab "are_ascending" (by decide) _ _ tbx5).1
    · exact (hTab "has_only" (by decide) _ _ tbx14).1
    · exact (hTab "is_text" (by decide) _ _ tbx2).1
    · exact (hTab "is_value" (by decide) _ _ tbx16).1
  case tabs =>
    intro P hP
    obtain ⟨q, hq, rfl⟩ := List.mem_map.mp hP
    exact ⟨#[], hH q hq, triples_nil⟩
  case main =>
    have TBx5 : TabB base mg hx5 Ptx5 := let t := TBs (hx5, Ptx5) (by simp [cs]); ⟨t.code, t.bm, t.gP⟩
    have hPx5 : Ptx5 ∈ tabsOf cs := by simp [cs, tabsOf]
    have TBx14 : TabB base mg hx14 Ptx14 := let t := TBs (hx14, Ptx14) (by simp [cs]); ⟨t.code, t.bm, t.gP⟩
    have hPx14 : Ptx14 ∈ tabsOf cs := by simp [cs, tabsOf]
    have TBx2 : TabB base mg hx2 Ptx2 := let t := TBs (hx2, Ptx2) (by simp [cs]); ⟨t.code, t.bm, t.gP⟩
    have hPx2 : Ptx2 ∈ tabsOf cs := by simp [cs, tabsOf]
    have TBx16 : TabB base mg hx16 Ptx16 := let t := TBs (hx16, Ptx16) (by simp [cs]); ⟨t.code, t.bm, t.gP⟩
    have hPx16 : Ptx16 ∈ tabsOf cs := by simp [cs, tabsOf]
    have Kx0 := fun d => ok_is_integer (P := l.prog) (w := w) (mg := mg) (base := base) (p := pmT K (tabsOf cs) d) (hK := rfl) (F := Ex0) (z_isinstance := z_isinstance) (z_int := z_int) (z_bool := z_bool)
    have Kx1 := fun d => ok_is_number (P := l.prog) (w := w) (mg := mg) (base := base) (p := pmT K (tabsOf cs) d) (hK := rfl) (F := Ex1) (G_is_integer := Kx0 d) (m_is_integer := mx0) (k_is_integer := fkx0) (b_is_integer := bx0)
    have Kx2 := fun d => ok_is_text (P := l.prog) (w := w) (mg := mg) (base := base) (p := pmT K (tabsOf cs) d) (hK := rfl) (F := Ex2) (z_isinstance := z_isinstance) (z_str := z_str) (z_len := z_len) (z_all := z_all) (m_SIGNS := mc_SIGNS) (r_SIGNS := ⟨_, rfl⟩) (hP := hPx2) (TB := TBx2)
    have Kx3 := fun d => ok_is_tuple_of (P := l.prog) (w := w) (mg := mg) (base := base) (p := pmT K (tabsOf cs) d) (hK := rfl) (F := Ex3) (z_isinstance := z_isinstance) (z_tuple := z_tuple) (z_len := z_len)
    have Kx4 := fun d => ok_is_pair (P := l.prog) (w := w) (mg := mg) (base := base) (p := pmT K (tabsOf cs) d) (hK := rfl) (F := Ex4) (G_is_tuple_of := Kx3 d) (m_is_tuple_of := mx3) (k_is_tuple_of := fkx3) (b_is_tuple_of := bx3)
    have Kx5 := fun d => ok_are_ascending (P := l.prog) (w := w) (mg := mg) (base := base) (p := pmT K (tabsOf cs) d) (hK := rfl) (F := Ex5) (z_all := z_all) (z_range := z_range) (z_len := z_len) (hP := hPx5) (TB := TBx5)
    have Kx6 := fun d => ok_are_lengths (P := l.prog) (w := w) (mg := mg) (base := base) (p := pmT K (tabsOf cs) d) (hK := rfl) (F := Ex6) (G_is_number := Kx1 d) (m_is_number := mx1) (k_is_number := fkx1) (b_is_number := bx1)
    have Kx7 := fun d => ok_are_word_signs (P := l.prog) (w := w) (mg := mg) (base := base) (p := pmT K (tabsOf cs) d) (hK := rfl) (F := Ex7) (G_is_text := Kx2 d) (m_is_text := mx2) (k_is_text := fkx2) (b_is_text := bx2) (G_are_ascending := Kx5 d) (m_are_ascending := mx5) (k_are_ascending := fkx5) (b_are_ascending := bx5)
    have Kx8 := fun d => ok_is_bound (P := l.prog) (w := w) (mg := mg) (base := base) (p := pmT K (tabsOf cs) d) (hK := rfl) (F := Ex8) (m_GREATEST_BOUND := mc_GREATEST_BOUND) (r_GREATEST_BOUND := ⟨_, rfl⟩) (G_is_number := Kx1 d) (m_is_number := mx1) (k_is_number := fkx1) (b_is_number := bx1)
    have Kx9 := fun d => ok_is_plain_sort (P := l.prog) (w := w) (mg := mg) (base := base) (p := pmT K (tabsOf cs) d) (hK := rfl) (F := Ex9) (z_len := z_len) (G_is_number := Kx1 d) (m_is_number := mx1) (k_is_number := fkx1) (b_is_number := bx1) (G_are_word_signs := Kx7 d) (m_are_word_signs := mx7) (k_are_word_signs := fkx7) (b_are_word_signs := bx7) (G_are_lengths := Kx6 d) (m_are_lengths := mx6) (k_are_lengths := fkx6) (b_are_lengths := bx6) (G_is_bound := Kx8 d) (m_is_bound := mx8) (k_is_bound := fkx8) (b_is_bound := bx8)
    have Kgx10 := fun d => okn_count_sorts (P := l.prog) (w := w) (mg := mg) (base := base) (p := pmT K (tabsOf cs) d) (hK := rfl) (F_count_sorts := Ex10) (m_count_sorts := mx10) (k_count_sorts := fkx10) (b_count_sorts := bx10) (F_count_within := Ex11) (m_count_within := mx11) (k_count_within := fkx11) (b_count_within := bx11) (z_isinstance := z_isinstance) (z_str := z_str) (z_len := z_len) (G_is_tuple_of := Kx3 d) (m_is_tuple_of := mx3) (k_is_tuple_of := fkx3) (b_is_tuple_of := bx3) (G_is_plain_sort := Kx9 d) (m_is_plain_sort := mx9) (k_is_plain_sort := fkx9) (b_is_plain_sort := bx9) (G_are_lengths := Kx6 d) (m_are_lengths := mx6) (k_are_lengths := fkx6) (b_are_lengths := bx6) 12
    have Kx10 := fun d => (Kgx10 d).1
    have Kx11 := fun d => (Kgx10 d).2
    have Kx12 := fun d => ok_is_sort (P := l.prog) (w := w) (mg := mg) (base := base) (p := pmT K (tabsOf cs) d) (hK := rfl) (F := Ex12) (m_DEEPEST_SORT := mc_DEEPEST_SORT) (r_DEEPEST_SORT := ⟨_, rfl⟩) (m_MOST_SORTS := mc_MOST_SORTS) (r_MOST_SORTS := ⟨_, rfl⟩) (G_count_sorts := Kx10 d) (m_count_sorts := mx10) (k_count_sorts := fkx10) (b_count_sorts := bx10)
    have Kx13 := fun d => ok_is_between (P := l.prog) (w := w) (mg := mg) (base := base) (p := pmT K (tabsOf cs) d) (hK := rfl) (F := Ex13) 
    have Kx14 := fun d => ok_has_only (P := l.prog) (w := w) (mg := mg) (base := base) (p := pmT K (tabsOf cs) d) (hK := rfl) (F := Ex14) (z_all := z_all) (hP := hPx14) (TB := TBx14)
    have Kx15 := fun d => ok_is_some (P := l.prog) (w := w) (mg := mg) (base := base) (p := pmT K (tabsOf cs) d) (hK := rfl) (F := Ex15) (z_isinstance := z_isinstance) (z_str := z_str) (G_is_pair := Kx4 d) (m_is_pair := mx4) (k_is_pair := fkx4) (b_is_pair := bx4)
    have Kgx16 := fun d => okn_is_value (P := l.prog) (w := w) (mg := mg) (base := base) (p := pmT K (tabsOf cs) d) (hK := rfl) (F_is_value := Ex16) (m_is_value := mx16) (k_is_value := fkx16) (b_is_value := bx16) (z_isinstance := z_isinstance) (z_str := z_str) (z_len := z_len) (z_tuple := z_tuple) (z_all := z_all) (z_range := z_range) (hP_is_value := hPx16) (TB_is_value := TBx16) (G_is_integer := Kx0 d) (m_is_integer := mx0) (k_is_integer := fkx0) (b_is_integer := bx0) (G_is_between := Kx13 d) (m_is_between := mx13) (k_is_between := fkx13) (b_is_between := bx13) (G_has_only := Kx14 d) (m_has_only := mx14) (k_has_only := fkx14) (b_has_only := bx14) (G_is_number := Kx1 d) (m_is_number := mx1) (k_is_number := fkx1) (b_is_number := bx1) (G_is_some := Kx15 d) (m_is_some := mx15) (k_is_some := fkx15) (b_is_some := bx15) (G_is_pair := Kx4 d) (m_is_pair := mx4) (k_is_pair := fkx4) (b_is_pair := bx4) 12
    have Kx16 := fun d => (Kgx16 d)
    have Kx17 := fun d => ok_count_rows (P := l.prog) (w := w) (mg := mg) (base := base) (p := pmT K (tabsOf cs) d) (hK := rfl) (F := Ex17) (z_range := z_range)
    have Kx18 := fun d => ok_add_counts (P := l.prog) (w := w) (mg := mg) (base := base) (p := pmT K (tabsOf cs) d) (hK := rfl) (F := Ex18) (z_sum := z_sum)
    have Kx19 := fun d => ok_multiply_counts (P := l.prog) (w := w) (mg := mg) (base := base) (p := pmT K (tabsOf cs) d) (hK := rfl) (F := Ex19) 
    have Kgx20 := fun d => okn_how_many_values (P := l.prog) (w := w) (mg := mg) (base := base) (p := pmT K (tabsOf cs) d) (hK := rfl) (F_how_many_values := Ex20) (m_how_many_values := mx20) (k_how_many_values := fkx20) (b_how_many_values := bx20) (z_len := z_len) (G_count_rows := Kx17 d) (m_count_rows := mx17) (k_count_rows := fkx17) (b_count_rows := bx17) (G_add_counts := Kx18 d) (m_add_counts := mx18) (k_add_counts := fkx18) (b_add_counts := bx18) (G_multiply_counts := Kx19 d) (m_multiply_counts := mx19) (k_multiply_counts := fkx19) (b_multiply_counts := bx19) 12
    have Kx20 := fun d => (Kgx20 d)
    have Kx21 := fun d => ok__law_power (P := l.prog) (w := w) (mg := mg) (base := base) (p := pmT K (tabsOf cs) d) (hK := rfl) (F := Ex21) (z_range := z_range)
    have Kx22 := fun d => ok__law_cell_at (P := l.prog) (w := w) (mg := mg) (base := base) (p := pmT K (tabsOf cs) d) (hK := rfl) (F := Ex22) (z_len := z_len)
    have Kx23 := fun d => ok__law_draw (P := l.prog) (w := w) (mg := mg) (base := base) (p := pmT K (tabsOf cs) d) (hK := rfl) (F := Ex23) (z_int := z_int)
    have Kx24 := fun d => ok__law_number (P := l.prog) (w := w) (mg := mg) (base := base) (p := pmT K (tabsOf cs) d) (hK := rfl) (F := Ex24) (z_range := z_range) (z_int := z_int) (G__law_draw := Kx23 d) (m__law_draw := mx23) (k__law_draw := fkx23) (b__law_draw := bx23)
    have Kx25 := fun d => ok__law_next (P := l.prog) (w := w) (mg := mg) (base := base) (p := pmT K (tabsOf cs) d) (hK := rfl) (F := Ex25) (z_int := z_int) (G__law_cell_at := Kx22 d) (m__law_cell_at := mx22) (k__law_cell_at := fkx22) (b__law_cell_at := bx22) (G__law_number := Kx24 d) (m__law_number := mx24) (k__law_number := fkx24) (b__law_number := bx24)
    have Kx26 := fun d => ok__law_pick (P := l.prog) (w := w) (mg := mg) (base := base) (p := pmT K (tabsOf cs) d) (hK := rfl) (F := Ex26) (z_len := z_len) (G__law_next := Kx25 d) (m__law_next := mx25) (k__law_next := fkx25) (b__law_next := bx25)
    have Kgx27 := fun d => okn__law_sort (P := l.prog) (w := w) (mg := mg) (base := base) (p := pmT K (tabsOf cs) d) (hK := rfl) (F__law_sort := Ex27) (m__law_sort := mx27) (k__law_sort := fkx27) (b__law_sort := bx27) (z_tuple := z_tuple) (z_range := z_range) (G__law_next := Kx25 d) (m__law_next := mx25) (k__law_next := fkx25) (b__law_next := bx25) (G__law_pick := Kx26 d) (m__law_pick := mx26) (k__law_pick := fkx26) (b__law_pick := bx26) 12
    have Kx27 := fun d => (Kgx27 d)
    have Kx28 := fun d => ok__law_ints (P := l.prog) (w := w) (mg := mg) (base := base) (p := pmT K (tabsOf cs) d) (hK := rfl) (F := Ex28) (z_range := z_range)
    have Kx29 := fun d => ok__law_lots (P := l.prog) (w := w) (mg := mg) (base := base) (p := pmT K (tabsOf cs) d) (hK := rfl) (F := Ex29) (z_range := z_range) (z_min := z_min) (z_sum := z_sum)
    have Kgx30 := fun d => okn__law_values (P := l.prog) (w := w) (mg := mg) (base := base) (p := pmT K (tabsOf cs) d) (hK := rfl) (F__law_values := Ex30) (m__law_values := mx30) (k__law_values := fkx30) (b__law_values := bx30) (z_list := z_list) (z_range := z_range) (z_sum := z_sum) (z_enumerate := z_enumerate) (G__law_ints := Kx28 d) (m__law_ints := mx28) (k__law_ints := fkx28) (b__law_ints := bx28) (G__law_lots := Kx29 d) (m__law_lots := mx29) (k__law_lots := fkx29) (b__law_lots := bx29) 12
    have Kx30 := fun d => (Kgx30 d)
    have Kgx31 := fun d => okn__law_many (P := l.prog) (w := w) (mg := mg) (base := base) (p := pmT K (tabsOf cs) d) (hK := rfl) (F__law_many := Ex31) (m__law_many := mx31) (k__law_many := fkx31) (b__law_many := bx31) (z_len := z_len) (z_sum := z_sum) (z_range := z_range) (G__law_power := Kx21 d) (m__law_power := mx21) (k__law_power := fkx21) (b__law_power := bx21) 12
    have Kx31 := fun d => (Kgx31 d)
    have Kx32 := fun d => ok__law_wrong (P := l.prog) (w := w) (mg := mg) (base := base) (p := pmT K (tabsOf cs) d) (hK := rfl) (F := Ex32) 
    have Kx33 := fun d => ok__law_odd (P := l.prog) (w := w) (mg := mg) (base := base) (p := pmT K (tabsOf cs) d) (hK := rfl) (F := Ex33) (z_len := z_len) (z_list := z_list)
    have Kx34 := fun d => ok__law_refuses_known (P := l.prog) (w := w) (mg := mg) (base := base) (p := pmT K (tabsOf cs) d) (hK := rfl) (F := Ex34) (z_any := z_any) (z_all := z_all) (G_is_sort := Kx12 d) (m_is_sort := mx12) (k_is_sort := fkx12) (b_is_sort := bx12) (G_is_value := Kx16 d) (m_is_value := mx16) (k_is_value := fkx16) (b_is_value := bx16)
    have Hx0 := fun d => okH_is_integer (P := l.prog) (w := w) (mg := mg) (base := base) (p := pmT K (tabsOf cs) d) (hK := rfl) (F := Ex0) (z_isinstance := z_isinstance) (z_int := z_int) (z_bool := z_bool)
    have Hx1 := fun d => okH_is_number (P := l.prog) (w := w) (mg := mg) (base := base) (p := pmT K (tabsOf cs) d) (hK := rfl) (F := Ex1) (G_is_integer := Hx0 d) (m_is_integer := mx0) (k_is_integer := fkx0) (b_is_integer := bx0)
    have Hx6 := fun d => okH_are_lengths (P := l.prog) (w := w) (mg := mg) (base := base) (p := pmT K (tabsOf cs) d) (hK := rfl) (F := Ex6) (G_is_number := Hx1 d) (m_is_number := mx1) (k_is_number := fkx1) (b_is_number := bx1)
    have Hx3 := fun d => okH_is_tuple_of (P := l.prog) (w := w) (mg := mg) (base := base) (p := pmT K (tabsOf cs) d) (hK := rfl) (F := Ex3) (z_isinstance := z_isinstance) (z_tuple := z_tuple) (z_len := z_len)
    have Hx2 := fun d => okH_is_text (P := l.prog) (w := w) (mg := mg) (base := base) (p := pmT K (tabsOf cs) d) (hK := rfl) (F := Ex2) (z_isinstance := z_isinstance) (z_str := z_str) (z_len := z_len) (z_all := z_all) (m_SIGNS := mc_SIGNS) (r_SIGNS := ⟨_, rfl⟩) (hP := hPx2) (TB := TBx2)
    have Hx5 := fun d => okH_are_ascending (P := l.prog) (w := w) (mg := mg) (base := base) (p := pmT K (tabsOf cs) d) (hK := rfl) (F := Ex5) (z_all := z_all) (z_range := z_range) (z_len := z_len) (hP := hPx5) (TB := TBx5)
    have Hx7 := fun d => okH_are_word_signs (P := l.prog) (w := w) (mg := mg) (base := base) (p := pmT K (tabsOf cs) d) (hK := rfl) (F := Ex7) (G_is_text := Hx2 d) (m_is_text := mx2) (k_is_text := fkx2) (b_is_text := bx2) (G_are_ascending := Hx5 d) (m_are_ascending := mx5) (k_are_ascending := fkx5) (b_are_ascending := bx5)
    have Hx8 := fun d => okH_is_bound (P := l.prog) (w := w) (mg := mg) (base := base) (p := pmT K (tabsOf cs) d) (hK := rfl) (F := Ex8) (m_GREATEST_BOUND := mc_GREATEST_BOUND) (r_GREATEST_BOUND := ⟨_, rfl⟩) (G_is_number := Hx1 d) (m_is_number := mx1) (k_is_number := fkx1) (b_is_number := bx1)
    have Hx9 := fun d => okH_is_plain_sort (P := l.prog) (w := w) (mg := mg) (base := base) (p := pmT K (tabsOf cs) d) (hK := rfl) (F := Ex9) (z_len := z_len) (G_is_number := Hx1 d) (m_is_number := mx1) (k_is_number := fkx1) (b_is_number := bx1) (G_are_word_signs := Hx7 d) (m_are_word_signs := mx7) (k_are_word_signs := fkx7) (b_are_word_signs := bx7) (G_are_lengths := Hx6 d) (m_are_lengths := mx6) (k_are_lengths := fkx6) (b_are_lengths := bx6) (G_is_bound := Hx8 d) (m_is_bound := mx8) (k_is_bound := fkx8) (b_is_bound := bx8)
    have Hgx10 := fun d => oknH_count_sorts (P := l.prog) (w := w) (mg := mg) (base := base) (p := pmT K (tabsOf cs) d) (hK := rfl) (F_count_sorts := Ex10) (m_count_sorts := mx10) (k_count_sorts := fkx10) (b_count_sorts := bx10) (F_count_within := Ex11) (m_count_within := mx11) (k_count_within := fkx11) (b_count_within := bx11) (z_isinstance := z_isinstance) (z_str := z_str) (z_len := z_len) (G_is_tuple_of := Hx3 d) (m_is_tuple_of := mx3) (k_is_tuple_of := fkx3) (b_is_tuple_of := bx3) (G_is_plain_sort := Hx9 d) (m_is_plain_sort := mx9) (k_is_plain_sort := fkx9) (b_is_plain_sort := bx9) (G_are_lengths := Hx6 d) (m_are_lengths := mx6) (k_are_lengths := fkx6) (b_are_lengths := bx6) 12
    have Hx10 := fun d => (Hgx10 d).1
    have Hx11 := fun d => (Hgx10 d).2
    have Hx12 := fun d => okH_is_sort (P := l.prog) (w := w) (mg := mg) (base := base) (p := pmT K (tabsOf cs) d) (hK := rfl) (F := Ex12) (m_DEEPEST_SORT := mc_DEEPEST_SORT) (r_DEEPEST_SORT := ⟨_, rfl⟩) (m_MOST_SORTS := mc_MOST_SORTS) (r_MOST_SORTS := ⟨_, rfl⟩) (G_count_sorts := Hx10 d) (m_count_sorts := mx10) (k_count_sorts := fkx10) (b_count_sorts := bx10)
    have KC := fun d => ok_check (P := l.prog) (w := w) (mg := mg) (base := base) (p := pmT K (tabsOf cs) d) rfl Ex35 T (by decide) (Kx12 d) mx12 fkx12 bx12
    exact ok_law (LV := 60) Ex36 T z_len z_all z_any z_isinstance KC (by decide) mx35 fkx35 bx35 (by decide) Kx34 mx34 fkx34 bx34 (by decide) Kx27 mx27 fkx27 bx27 (by decide) Kx12 mx12 fkx12 bx12 (by decide) Kx20 mx20 fkx20 bx20 (by decide) Kx31 mx31 fkx31 bx31 (by decide) Kx30 mx30 fkx30 bx30 (by decide) Kx16 mx16 fkx16 bx16 (by decide) Kx33 mx33 fkx33 bx33 (by decide) Kx32 mx32 fkx32 bx32 Hx12 (by decide)
end K01
set_option linter.all false
set_option maxRecDepth 100000
set_option maxHeartbeats 2000000
namespace K01
open PySem PySem.Spec PyProof.Rows L2 GxR GA EXO FL HX L2H HotX XX
abbrev tabNames : List Str := ["are_ascending", "has_only", "is_text", "is_value"]
theorem walk {l : PySem.W.OpenLaw} {q : Program} {loose : List Str} {XP : (Str → Option Value) → Heap → Prop} {YP : World → Heap → Prop} {d : DefRec} {K : Params → PySem.W.Frag} (hn : l.most = some 63) (hdf : d.params.defaults = [])
    (hY : ∀ (w : World) (h : Heap), YP w h → (K w.params).In h) (hrec : ∀ x ∈ tabNames, ((recsOf q).find? (fun e => e.name == x)).isSome = true)
    (F : ∀ (w : World) (mg : Str → Option Value) (fa : Addr) (h : Heap), (K w.params).In h → h.Ns mainGlobals mg → mg d.name = some (.ref fa) →
      (∀ x ∈ tabNames, ∀ c P, PySem.W.tabIn (K w.params) x = some (c, P) → PySem.W.CodeHd h c P ∧ h.get? P = some (PySem.W.tabObj #[])) → LamX.LawAtS l w (K w.params) L2.CX0 61 63 "script" mg fa h) :
    PySem.W.WalkO q loose XP YP l.row.toRowW d [] (fun f vs => PySem.call f vs) := by
  refine Att.attach_callB hn hdf fun w s₀ s₁ mg mb fa o pm cd doc a vs ns G Y ho hd hcd hmg hobj hints hlen hbits hg => ?_
  have KX := hY w _ Y
  obtain ⟨fd, cs, sp, hT, nT, C, hb, hsp, hF⟩ := F w mg fa _ KX G.T.g hmg fun x hx c P ht => by
    obtain ⟨e, he⟩ := Option.isSome_iff_exists.mp (hrec x hx)
    exact PySem.W.tab_of G.T KX he ht
  exact LamX.law_callTs KX G.T.g G.T.b G.T.builtins G.T.nolimit hg hT nT C G.T.bmain hobj hints (Nat.le_trans hlen (by decide)) ⟨rfl, by decide, by decide⟩ hF hb (fun H hH hS => hsp H a ns hlen hbits hH hS) fun H e s' z => z
end K01
open PySem PySem.W PyProof.Rows
set_option maxRecDepth 100000 in
set_option maxHeartbeats 0 in
theorem PySem.Challenge.cw_readagain_k01_taken_sorts_holds : PySem.Challenge.rw_readagain_k01_taken_sorts.Holds := by
  w_on; o_law; k_head; (case hw => w_witness2)
  k_fill
  refine K01.walk (l := PySem.Challenge.rw_readagain_k01_taken_sorts) rfl rfl (fun w h Y => PySem.W.kIn_of Y) ?R ?F
  case R =>
    intro x hx
    simp only [K01.tabNames, List.mem_cons, List.not_mem_nil, or_false] at hx
    rcases hx with rfl | rfl | rfl | rfl <;> kernel_rfl
  case F =>
    intro w mg fa h KX G hmg hTab
    refine' K01.all_mk KX G hmg hTab ?aCF ?aC0 ?hn ?htk ?ini0 ?ovr0 ?sa0 ?ga0 ?gg0 ?exC0 ?hd0 ?kC0 ?cl0 ?ha0 ?mo0 ?iC0 ?tC0 ?no0 ?nf0 ?l0 ?c0 ?kF0 ?ty0 ?te0 ?fax0 ?flx0 ?fcx0 ?fkx0 ?fax1 ?flx1 ?fcx1 ?fkx1 ?fax2 ?flx2 ?fcx2 ?fkx2 ?fax3 ?flx3 ?fcx3 ?fkx3 ?fax4 ?flx4 ?fcx4 ?fkx4 ?fax5 ?flx5 ?fcx5 ?fkx5 ?fax6 ?flx6 ?fcx6 ?fkx6 ?fax7 ?flx7 ?fcx7 ?fkx7 ?fax8 ?flx8 ?fcx8 ?fkx8 ?fax9 ?flx9 ?fcx9 ?fkx9 ?fax10 ?flx10 ?fcx10 ?fkx10 ?fax11 ?flx11 ?fcx11 ?fkx11 ?fax12 ?flx12 ?fcx12 ?fkx12 ?fax13 ?flx13 ?fcx13 ?fkx13 ?fax14 ?flx14 ?fcx14 ?fkx14 ?fax15 ?flx15 ?fcx15 ?fkx15 ?fax16 ?flx16 ?fcx16 ?fkx16 ?fax17 ?flx17 ?fcx17 ?fkx17 ?fax18 ?flx18 ?fcx18 ?fkx18 ?fax19 ?flx19 ?fcx19 ?fkx19 ?fax20 ?flx20 ?fcx20 ?fkx20 ?fax21 ?flx21 ?fcx21 ?fkx21 ?fax22 ?flx22 ?fcx22 ?fkx22 ?fax23 ?flx23 ?fcx23 ?fkx23 ?fax24 ?flx24 ?fcx24 ?fkx24 ?fax25 ?flx25 ?fcx25 ?fkx25 ?fax26 ?flx26 ?fcx26 ?fkx26 ?fax27 ?flx27 ?fcx27 ?fkx27 ?fax28 ?flx28 ?fcx28 ?fkx28 ?fax29 ?flx29 ?fcx29 ?fkx29 ?fax30 ?flx30 ?fcx30 ?fkx30 ?fax31 ?flx31 ?fcx31 ?fkx31 ?fax32 ?flx32 ?fcx32 ?fkx32 ?fax33 ?flx33 ?fcx33 ?fkx33 ?fax34 ?flx34 ?fcx34 ?fkx34 ?fax35 ?flx35 ?fcx35 ?fkx35 ?fax36 ?flx36 ?fcx36 ?fkx36 ?n_all ?n_any ?n_bool ?n_enumerate ?n_int ?n_isinstance ?n_len ?n_list ?n_min ?n_range ?n_str ?n_sum ?n_tuple ?c_DEEPEST_SORT ?c_GREATEST_BOUND ?c_MOST_SORTS ?c_SIGNS ?klx5 ?kvx5 ?ntx5 ?klx14 ?kvx14 ?ntx14 ?klx2 ?kvx2 ?ntx2 ?klx16 ?kvx16 ?ntx16
    (case aCF => k_is)
    (case aC0 => k_is)
    (case hn => k_is)
    (case htk => k_is)
    (case ini0 => kx_is)
    (case ovr0 => kx_is)
    (case sa0 => k_is)
    (case ga0 => k_is)
    (case gg0 => k_is)
    (case exC0 => k_is)
    (case hd0 => k_is)
    (case kC0 => k_is)
    (case cl0 => k_is)
    (case ha0 => k_is)
    (case mo0 => k_is)
    (case iC0 => k_is)
    (case tC0 => k_is)
    (case no0 => k_is)
    (case nf0 => k_is)
    (case l0 => k_is)
    (case c0 => k_is)
    (case kF0 => kit_is)
    (case ty0 => k_is)
    (case te0 => first | k_is | kit_is | kernel_rfl)
    (case fax0 => k_is)
    (case flx0 => k_is)
    (case fcx0 => k_is)
    (case fkx0 => k_is)
    (case fax1 => k_is)
    (case flx1 => k_is)
    (case fcx1 => k_is)
    (case fkx1 => k_is)
    (case fax2 => k_is)
    (case flx2 => k_is)
    (case fcx2 => k_is)
    (case fkx2 => k_is)
    (case fax3 => k_is)
    (case flx3 => k_is)
    (case fcx3 => k_is)
    (case fkx3 => k_is)
    (case fax4 => k_is)
    (case flx4 => k_is)
    (case fcx4 => k_is)
    (case fkx4 => k_is)
    (case fax5 => k_is)
    (case flx5 => k_is)
    (case fcx5 => k_is)
    (case fkx5 => k_is)
    (case fax6 => k_is)
    (case flx6 => k_is)
    (case fcx6 => k_is)
    (case fkx6 => k_is)
    (case fax7 => k_is)
    (case flx7 => k_is)
    (case fcx7 => k_is)
    (case fkx7 => k_is)
    (case fax8 => k_is)
    (case flx8 => k_is)
    (case fcx8 => k_is)
    (case fkx8 => k_is)
    (case fax9 => k_is)
    (case flx9 => k_is)
    (case fcx9 => k_is)
    (case fkx9 => k_is)
    (case fax10 => k_is)
    (case flx10 => k_is)
    (case fcx10 => k_is)
    (case fkx10 => k_is)
    (case fax11 => k_is)
    (case flx11 => k_is)
    (case fcx11 => k_is)
    (case fkx11 => k_is)
    (case fax12 => k_is)
    (case flx12 => k_is)
    (case fcx12 => k_is)
    (case fkx12 => k_is)
    (case fax13 => k_is)
    (case flx13 => k_is)
    (case fcx13 => k_is)
    (case fkx13 => k_is)
    (case fax14 => k_is)
    (case flx14 => k_is)
    (case fcx14 => k_is)
    (case fkx14 => k_is)
    (case fax15 => k_is)
    (case flx15 => k_is)
    (case fcx15 => k_is)
    (case fkx15 => k_is)
    (case fax16 => k_is)
    (case flx16 => k_is)
    (case fcx16 => k_is)
    (case fkx16 => k_is)
    (case fax17 => k_is)
    (case flx17 => k_is)
    (case fcx17 => k_is)
    (case fkx17 => k_is)
    (case fax18 => k_is)
    (case flx18 => k_is)
    (case fcx18 => k_is)
    (case fkx18 => k_is)
    (case fax19 => k_is)
    (case flx19 => k_is)
    (case fcx19 => k_is)
    (case fkx19 => k_is)
    (case fax20 => k_is)
    (case flx20 => k_is)
    (case fcx20 => k_is)
    (case fkx20 => k_is)
    (case fax21 => k_is)
    (case flx21 => k_is)
    (case fcx21 => k_is)
    (case fkx21 => k_is)
    (case fax22 => k_is)
    (case flx22 => k_is)
    (case fcx22 => k_is)
    (case fkx22 => k_is)
    (case fax23 => k_is)
    (case flx23 => k_is)
    (case fcx23 => k_is)
    (case fkx23 => k_is)
    (case fax24 => k_is)
    (case flx24 => k_is)
    (case fcx24 => k_is)
    (case fkx24 => k_is)
    (case fax25 => k_is)
    (case flx25 => k_is)
    (case fcx25 => k_is)
    (case fkx25 => k_is)
    (case fax26 => k_is)
    (case flx26 => k_is)
    (case fcx26 => k_is)
    (case fkx26 => k_is)
    (case fax27 => k_is)
    (case flx27 => k_is)
    (case fcx27 => k_is)
    (case fkx27 => k_is)
    (case fax28 => k_is)
    (case flx28 => k_is)
    (case fcx28 => k_is)
    (case fkx28 => k_is)
    (case fax29 => k_is)
    (case flx29 => k_is)
    (case fcx29 => k_is)
    (case fkx29 => k_is)
    (case fax30 => k_is)
    (case flx30 => k_is)
    (case fcx30 => k_is)
    (case fkx30 => k_is)
    (case fax31 => k_is)
    (case flx31 => k_is)
    (case fcx31 => k_is)
    (case fkx31 => k_is)
    (case fax32 => k_is)
    (case flx32 => k_is)
    (case fcx32 => k_is)
    (case fkx32 => k_is)
    (case fax33 => k_is)
    (case flx33 => k_is)
    (case fcx33 => k_is)
    (case fkx33 => k_is)
    (case fax34 => k_is)
    (case flx34 => k_is)
    (case fcx34 => k_is)
    (case fkx34 => k_is)
    (case fax35 => k_is)
    (case flx35 => k_is)
    (case fcx35 => k_is)
    (case fkx35 => k_is)
    (case fax36 => k_is)
    (case flx36 => k_is)
    (case fcx36 => k_is)
    (case fkx36 => k_is)
    (case n_all => k_is)
    (case n_any => k_is)
    (case n_bool => k_is)
    (case n_enumerate => k_is)
    (case n_int => k_is)
    (case n_isinstance => k_is)
    (case n_len => k_is)
    (case n_list => k_is)
    (case n_min => k_is)
    (case n_range => k_is)
    (case n_str => k_is)
    (case n_sum => k_is)
    (case n_tuple => k_is)
    (case c_DEEPEST_SORT => k_is)
    (case c_GREATEST_BOUND => k_is)
    (case c_MOST_SORTS => k_is)
    (case c_SIGNS => k_is)
    (case klx5 => k_is)
    (case kvx5 => rfl)
    (case ntx5 => first | k_is | kernel_rfl)
    (case klx14 => k_is)
    (case kvx14 => rfl)
    (case ntx14 => first | k_is | kernel_rfl)
    (case klx2 => k_is)
    (case kvx2 => rfl)
    (case ntx2 => first | k_is | kernel_rfl)
    (case klx16 => k_is)
    (case kvx16 => rfl)
    (case ntx16 => first | k_is | kernel_rfl)
