import PyProof.Rows.All
import Wide.All
import OpenK.AllK
import Wide.FinOn
import HandS.ForMost
import HandS.IsInst
import HandS.Style
import HandS.WideBits
import HandS.RaiseMore
import PyProof.ReprRoads
import PyProof.Rows.ReprR
import HandS.GenYield
import HandS.GenList
import HandS.Walk
import HandS.Evl
import HandS.More
import HandS.Star
import HandS.Property
import HandS.ClsMeth
import HandS.SetFor
import HandS.Strs
import KE.GoesEnum
import OpenK.KEqL
import KE.KEqDeep
import HandS.RevRange
import KE.GoesZip
import OpenK.KMeth
import HandS.NamedTup0
import PyProof.InstNe
import HandS.Deep
import HandS.Conv
import HandS.FStr
import PyProof.ReprNest
import PyProof.ReprBulk
import PyProof.StrHeap
import HandS.Comp
import KE.KLam
import OpenK.KOps
import OpenK.KMore
import HandS.Dict
import HandS.Iter
import HandS.ListItems
import PySem.Challenge.RW_cutshows_k15_all_partitions
set_option Elab.async false
set_option linter.all false
set_option maxRecDepth 100000
set_option maxHeartbeats 8100000
/-! ### generators that sleep while other code runs: what is promised wherever they are exchanged for such as cannot be woken holds with themselves, and they stay as they are -/
namespace Jg
open PySem
open Sem (wp)

/-- a sleeper that cannot be woken: it looks the same -/
def dull : GenState → GenState
  | .suspended _ l c p fs cl => .suspended (fun _ => .unsupported "dull") l c p fs cl
  | x => x
def isS : GenState → Bool
  | .suspended .. => true
  | _ => false
theorem dull_seen (x : GenState) : (dull x).seen = x.seen := by cases x <;> rfl
theorem dull_bare (x : GenState) : (dull x).bare = x.bare := by cases x <;> rfl
theorem dull_isS (x : GenState) : isS (dull x) = isS x := by cases x <;> rfl
/-- no frame of a generator -/
def noGen (fs : List Frame) : Prop := ∀ F ∈ fs, match F with | .gen .. => False | _ => True
theorem noGen_nil : noGen [] := fun _ h => by simp at h
theorem noGen_app {a b : List Frame} (ha : noGen a) (hb : noGen b) : noGen (a ++ b) := fun F h => (List.mem_append.mp h).elim (ha F) (hb F)
theorem noGen_split {fs : List Frame} (h : splitAtGen fs = none) : noGen fs := by
  induction fs with
  | nil => exact noGen_nil
  | cons F fs ih =>
    cases F with
    | gen g k l c p => simp [splitAtGen] at h
    | ret k hd gd l c p kp =>
      have h2 : splitAtGen fs = none := by
        simp only [splitAtGen] at h
        cases e : splitAtGen fs with
        | none => rfl
        | some x => rw [e] at h; simp at h
      intro G hG
      rcases List.mem_cons.mp hG with rfl | hG
      · trivial
      · exact ih h2 G hG
/-- frames but for those of the sleepers -/
def okF (P : Nat → Prop) (fs : List Frame) : Prop := ∀ F ∈ fs, match F with | .gen g .. => ¬ P g | _ => True
theorem okF_of {P : Nat → Prop} {fs : List Frame} (h : noGen fs) : okF P fs := fun F hF => by
  have := h F hF
  cases F with
  | gen => exact this.elim
  | ret => trivial
theorem okF_nil {P : Nat → Prop} : okF P [] := fun _ h => by simp at h
theorem okF_tail {P : Nat → Prop} {F : Frame} {fs : List Frame} (h : okF P (F :: fs)) : okF P fs := fun G hG => h G (List.mem_cons_of_mem _ hG)
theorem split_ok {P : Nat → Prop} : ∀ {fs pre : List Frame} {g : Nat} {k : GenResult → Sem PySem.Fin} {c : Code} {p : Pos} {rest : List Frame}, splitAtGen fs = some (pre, (g, k, c, p), rest) → okF P fs → noGen pre ∧ ¬ P g ∧ okF P rest := by
  intro fs
  induction fs with
  | nil => intro pre g k c p rest h; simp [splitAtGen] at h
  | cons F fs ih =>
    intro pre g k c p rest h ho
    cases F with
    | gen g' k' l' c' p' =>
      simp only [splitAtGen, Option.some.injEq, Prod.mk.injEq] at h
      obtain ⟨rfl, ⟨rfl, rfl, rfl, rfl⟩, rfl⟩ := h
      exact ⟨noGen_nil, ho _ List.mem_cons_self, okF_tail ho⟩
    | ret k' hd gd l' c' p' kp =>
      simp only [splitAtGen] at h
      cases e : splitAtGen fs with
      | none => rw [e] at h; simp at h
      | some x =>
        obtain ⟨pre', b, r'⟩ := x
        obtain ⟨g1, k1, c1, p1⟩ := b
        rw [e] at h
        simp only [Option.map_some, Option.some.injEq, Prod.mk.injEq] at h
        obtain ⟨rfl, ⟨rfl, rfl, rfl, rfl⟩, rfl⟩ := h
        obtain ⟨a, b, c⟩ := ih e (okF_tail ho)
        refine ⟨fun G hG => ?_, b, c⟩
        rcases List.mem_cons.mp hG with rfl | hG
        · trivial
        · exact a G hG

/-- the sleepers of G: the places where G has one -/
def Slp (G : Array GenState) (g : Nat) : Prop := ∃ x, G[g]? = some x ∧ isS x = true
/-- s is t with the sleepers of G themselves -/
structure Rel (G : Array GenState) (s t : Shared) : Prop where
  heap : s.heap = t.heap
  drawn : s.drawn = t.drawn
  toks : s.toks = t.toks
  os : s.os = t.os
  size : s.gens.size = t.gens.size
  slp : ∀ (g : Nat) (x : GenState), G[g]? = some x → isS x = true → s.gens[g]? = some x ∧ t.gens[g]? = some (dull x)
  oth : ∀ (g : Nat), ¬ Slp G g → s.gens[g]? = t.gens[g]? ∧ ∀ k l c p fs cl, t.gens[g]? = some (.suspended k l c p fs cl) → noGen fs

variable {G : Array GenState} {s t : Shared}
theorem Rel.with (r : Rel G s t) (h : Heap) (d : Drawn) (k : Nat) (o : OsState) : Rel G { s with heap := h, drawn := d, toks := k, os := o } { t with heap := h, drawn := d, toks := k, os := o } :=
  ⟨rfl, rfl, rfl, rfl, r.size, r.slp, r.oth⟩
theorem setGen_ne {s : Shared} {g i : Nat} {x : GenState} (h : i ≠ g) : (s.setGen g x).gens[i]? = s.gens[i]? := by
  show (s.gens.setIfInBounds g x)[i]? = _
  rw [Array.getElem?_setIfInBounds_ne (Ne.symm h)]
theorem setGen_sz {s : Shared} {g : Nat} {x : GenState} : (s.setGen g x).gens.size = s.gens.size := by
  show (s.gens.setIfInBounds g x).size = _
  simp
theorem setGen_eq {s : Shared} {g : Nat} {x : GenState} : (s.setGen g x).gens[g]? = if g < s.gens.size then some x else none := by
  show (s.gens.setIfInBounds g x)[g]? = _
  rw [Array.getElem?_setIfInBounds_self]
def okG (x : GenState) : Prop := ∀ k l c p fs cl, x = .suspended k l c p fs cl → noGen fs
theorem Rel.setGen (r : Rel G s t) {g : Nat} {x : GenState} (hg : ¬ Slp G g) (hx : okG x) : Rel G (s.setGen g x) (t.setGen g x) where
  heap := r.heap
  drawn := r.drawn
  toks := r.toks
  os := r.os
  size := by rw [setGen_sz, setGen_sz]; exact r.size
  slp := fun i y hi hy => by
    have ne : i ≠ g := fun e => hg (e ▸ ⟨y, hi, hy⟩)
    rw [setGen_ne ne, setGen_ne ne]
    exact r.slp i y hi hy
  oth := fun i hi => by
    by_cases e : i = g
    · subst e
      rw [setGen_eq, setGen_eq, r.size]
      refine ⟨rfl, fun k l c p fs cl h => ?_⟩
      split at h
      · exact hx k l c p fs cl (Option.some.inj h)
      · cases h
    · rw [setGen_ne e, setGen_ne e]
      exact r.oth i hi
theorem Rel.push (r : Rel G s t) (hsz : G.size ≤ t.gens.size) (c : Code) : Rel G { s with gens := s.gens.push (.fresh c) } { t with gens := t.gens.push (.fresh c) } where
  heap := r.heap
  drawn := r.drawn
  toks := r.toks
  os := r.os
  size := by simp [r.size]
  slp := fun i y hi hy => by
    have lt : i < G.size := (Array.getElem?_eq_some_iff.mp hi).1
    obtain ⟨a, b⟩ := r.slp i y hi hy
    have l1 : i < t.gens.size := Nat.lt_of_lt_of_le lt hsz
    have l2 : i < s.gens.size := by rw [r.size]; exact l1
    refine ⟨?_, ?_⟩
    · show (s.gens.push _)[i]? = _
      rw [Array.getElem?_push]
      rw [if_neg (Nat.ne_of_lt l2)]; exact a
    · show (t.gens.push _)[i]? = _
      rw [Array.getElem?_push]
      rw [if_neg (Nat.ne_of_lt l1)]; exact b
  oth := fun i hi => by
    obtain ⟨a, b⟩ := r.oth i hi
    refine ⟨?_, fun k l c' p fs cl h => ?_⟩
    · show (s.gens.push _)[i]? = (t.gens.push _)[i]?
      rw [Array.getElem?_push, Array.getElem?_push, r.size, a]
    · have h' : (t.gens.push (.fresh c))[i]? = some (.suspended k l c' p fs cl) := h
      rw [Array.getElem?_push] at h'
      split at h'
      · cases h'
      · exact b k l c' p fs cl h'

theorem runs_unsup {M : Model} {Γ : Ctx} {p : Pos} {w : String} {t : Sem PySem.Fin} {fs : List Frame} {s : Shared} {e : End} {s' : Shared} (h : Runs M Γ p t fs s e s') : t ≠ .unsupported w := by
  induction h with
  | segRet _ _ ih _ => exact ih
  | segGen _ _ ih _ => exact ih
  | segSuspOut _ _ ih => exact ih
  | segSuspGen _ _ _ _ ih _ => exact ih
  | _ => intro h; cases h
def okE : End → Prop
  | .ret _ => True
  | .susp _ _ _ _ _ _ fs => noGen fs
theorem okG_end {e : End} (h : okE e) : okG e.genState := by
  cases e with
  | ret _ => intro k l c p fs cl h; cases h
  | susp v g l k c p fs =>
    intro k' l' c' p' fs' cl' h'
    cases h'
    exact h
theorem Rel.nslp (r : Rel G s t) {g : Nat} {x : GenState} (hg : t.gens[g]? = some x) (hn : isS x = false) : ¬ Slp G g := fun ⟨y, hx, hy⟩ => by
  obtain ⟨_, h2⟩ := r.slp g y hx hy
  rw [hg] at h2
  have := congrArg isS (Option.some.inj h2)
  rw [dull_isS, hy, hn] at this
  cases this
theorem Rel.nslp2 (r : Rel G s t) {g : Nat} {k : Resume → Sem PySem.Fin} {l c p fs cl} (hg : t.gens[g]? = some (.suspended k l c p fs cl)) (rr : Resume) (hk : ∀ w, k rr ≠ .unsupported w) : ¬ Slp G g := fun ⟨y, hx, hy⟩ => by
  obtain ⟨_, h2⟩ := r.slp g y hx hy
  rw [hg] at h2
  cases y with
  | suspended k' l' c' p' fs' cl' =>
    cases Option.some.inj h2
    exact hk _ rfl
  | _ => cases hy
/-- in step: what runs with the dull ones runs with the sleepers themselves -/
theorem lock {M : Model} {Γ : Ctx} {p : Pos} {tm : Sem PySem.Fin} {fs : List Frame} {t : Shared} {e : End} {t' : Shared} (h : Runs M Γ p tm fs t e t') :
    ∀ s, G.size ≤ t.gens.size → Rel G s t → okF (Slp G) fs → G.size ≤ t'.gens.size ∧ okE e ∧ ∃ s', Runs M Γ p tm fs s e s' ∧ Rel G s' t' := by
  induction h with
  | done => intro s hz r ho; exact ⟨hz, trivial, s, .done, r⟩
  | raise => intro s hz r ho; exact ⟨hz, trivial, s, .raise, r⟩
  | again hq _ ih => intro s hz r ho; obtain ⟨z, o, s', a, b⟩ := ih s hz r ho; exact ⟨z, o, s', .again hq a, b⟩
  | rule _ ih => intro s hz r ho; obtain ⟨z, o, s', a, b⟩ := ih s hz r ho; exact ⟨z, o, s', .rule a, b⟩
  | «at» _ ih => intro s hz r ho; obtain ⟨z, o, s', a, b⟩ := ih s hz r ho; exact ⟨z, o, s', .at a, b⟩
  | load hl _ ih => intro s hz r ho; obtain ⟨z, o, s', a, b⟩ := ih s hz r ho; exact ⟨z, o, s', .load (by rw [r.heap]; exact hl) a, b⟩
  | update hl _ ih =>
    intro s hz r ho
    obtain ⟨z, o, s', a, b⟩ := ih { s with heap := s.heap.update _ _ } hz ⟨by rw [r.heap], r.drawn, r.toks, r.os, r.size, r.slp, r.oth⟩ ho
    exact ⟨z, o, s', .update (by rw [r.heap]; exact hl) a, b⟩
  | loadIfAlive _ ih => intro s hz r ho; obtain ⟨z, o, s', a, b⟩ := ih s hz r ho; exact ⟨z, o, s', .loadIfAlive (by rw [r.heap]; exact a), b⟩
  | point _ ih => intro s hz r ho; obtain ⟨z, o, s', a, b⟩ := ih s hz r ho; exact ⟨z, o, s', .point a, b⟩
  | alloc _ ih =>
    intro s hz r ho
    obtain ⟨sh, sg, sd, st, so⟩ := s
    obtain rfl : sh = _ := r.heap
    obtain ⟨z, o, s', a, b⟩ := ih ⟨_, sg, sd, st, so⟩ hz ⟨rfl, r.drawn, r.toks, r.os, r.size, r.slp, r.oth⟩ ho
    exact ⟨z, o, s', .alloc a, b⟩
  | fresh _ ih =>
    intro s hz r ho
    obtain ⟨sh, sg, sd, st, so⟩ := s
    obtain rfl : st = _ := r.toks
    obtain ⟨z, o, s', a, b⟩ := ih { heap := sh, gens := sg, drawn := sd, toks := Shared.toks _ + 1, os := so } hz ⟨r.heap, r.drawn, rfl, r.os, r.size, r.slp, r.oth⟩ ho
    exact ⟨z, o, s', .fresh a, b⟩
  | ask _ ih => intro s hz r ho; obtain ⟨z, o, s', a, b⟩ := ih s hz r ho; exact ⟨z, o, s', .ask a, b⟩
  | choose hn _ ih =>
    intro s hz r ho
    obtain ⟨sh, sg, sd, st, so⟩ := s
    obtain rfl : sd = _ := r.drawn
    obtain ⟨z, o, s', a, b⟩ := ih { heap := sh, gens := sg, drawn := Drawn.bump (Shared.drawn _) _, toks := st, os := so } hz ⟨r.heap, rfl, r.toks, r.os, r.size, r.slp, r.oth⟩ ho
    exact ⟨z, o, s', .choose hn a, b⟩
  | os _ ih =>
    intro s hz r ho
    obtain ⟨sh, sg, sd, st, so⟩ := s
    obtain rfl : so = _ := r.os
    obtain ⟨z, o, s', a, b⟩ := ih { heap := sh, gens := sg, drawn := sd, toks := st, os := (Os.step (Shared.os _) _).1 } hz ⟨r.heap, r.drawn, r.toks, rfl, r.size, r.slp, r.oth⟩ ho
    exact ⟨z, o, s', .os a, b⟩
  | handled _ ih => intro s hz r ho; obtain ⟨z, o, s', a, b⟩ := ih s hz r ho; exact ⟨z, o, s', .handled a, b⟩
  | genState hg _ ih =>
    intro s hz r ho
    obtain ⟨z, o, s', a, b⟩ := ih s hz r ho
    rcases Classical.em (Slp G _) with hs | hs
    rotate_left
    · exact ⟨z, o, s', .genState ((r.oth _ hs).1.trans hg) a, b⟩
    · obtain ⟨x, hx, hy⟩ := hs
      obtain ⟨h1, h2⟩ := r.slp _ x hx hy
      rw [hg] at h2
      cases h2
      exact ⟨z, o, s', .genState h1 (by rw [dull_seen] at a; exact a), b⟩
  | stack _ ih => intro s hz r ho; obtain ⟨z, o, s', a, b⟩ := ih s hz r ho; exact ⟨z, o, s', .stack a, b⟩
  | thread _ ih => intro s hz r ho; obtain ⟨z, o, s', a, b⟩ := ih s hz r ho; exact ⟨z, o, s', .thread a, b⟩
  | newGen _ ih =>
    intro s hz r ho
    obtain ⟨z, o, s', a, b⟩ := ih { s with gens := s.gens.push _ } (by simp; omega) (r.push hz _) ho
    exact ⟨z, o, s', .newGen (by rw [r.size]; exact a), b⟩
  | call _ _ ih1 ih2 =>
    intro s hz r ho
    obtain ⟨z1, o1, s1, a1, b1⟩ := ih1 s hz r okF_nil
    obtain ⟨z2, o2, s2, a2, b2⟩ := ih2 s1 z1 b1 okF_nil
    exact ⟨z2, o2, s2, .call a1 a2, b2⟩
  | callSusp _ ih =>
    intro s hz r ho
    obtain ⟨z1, o1, s1, a1, b1⟩ := ih s hz r okF_nil
    exact ⟨z1, noGen_app o1 (fun F hF => by
      have e : F = _ := List.mem_singleton.mp hF
      rw [e]; trivial), s1, .callSusp a1, b1⟩
  | yield => intro s hz r ho; exact ⟨hz, noGen_nil, s, .yield, r⟩
  | resumeFresh hg _ hq _ ih1 ih2 =>
    intro s hz r ho
    have hs := r.nslp hg rfl
    obtain ⟨z1, o1, s1, a1, b1⟩ := ih1 _ (by rw [setGen_sz]; exact hz) (r.setGen (x := .running) hs (fun _ _ _ _ _ _ h => by cases h)) okF_nil
    obtain ⟨z2, o2, s2, a2, b2⟩ := ih2 _ (by rw [setGen_sz]; exact z1) (b1.setGen hs (okG_end o1)) okF_nil
    exact ⟨z2, o2, s2, .resumeFresh ((r.oth _ hs).1.trans hg) a1 hq a2, b2⟩
  | resumeSuspended hg hrun hq _ ih1 ih2 =>
    intro s hz r ho
    have hs := r.nslp2 hg _ fun w e => runs_unsup hrun e
    have hng := (r.oth _ hs).2 _ _ _ _ _ _ hg
    obtain ⟨z1, o1, s1, a1, b1⟩ := ih1 _ (by rw [setGen_sz]; exact hz) (r.setGen (x := .running) hs (fun _ _ _ _ _ _ h => by cases h)) (okF_of hng)
    obtain ⟨z2, o2, s2, a2, b2⟩ := ih2 _ (by rw [setGen_sz]; exact z1) (b1.setGen hs (okG_end o1)) okF_nil
    exact ⟨z2, o2, s2, .resumeSuspended ((r.oth _ hs).1.trans hg) a1 hq a2, b2⟩
  | resumeJustStarted hg hv _ ih =>
    intro s hz r ho
    have hs := r.nslp hg rfl
    obtain ⟨z, o, s', a, b⟩ := ih s hz r ho
    exact ⟨z, o, s', .resumeJustStarted ((r.oth _ hs).1.trans hg) hv a, b⟩
  | resumeThrowFresh hg _ ih =>
    intro s hz r ho
    have hs := r.nslp hg rfl
    obtain ⟨z, o, s', a, b⟩ := ih _ (by rw [setGen_sz]; exact hz) (r.setGen (x := .finished) hs (fun _ _ _ _ _ _ h => by cases h)) okF_nil
    exact ⟨z, o, s', .resumeThrowFresh ((r.oth _ hs).1.trans hg) a, b⟩
  | resumeRunning hg _ ih =>
    intro s hz r ho
    have hs := r.nslp hg rfl
    obtain ⟨z, o, s', a, b⟩ := ih s hz r ho
    exact ⟨z, o, s', .resumeRunning ((r.oth _ hs).1.trans hg) a, b⟩
  | resumeFinished hg _ ih =>
    intro s hz r ho
    have hs := r.nslp hg rfl
    obtain ⟨z, o, s', a, b⟩ := ih s hz r ho
    exact ⟨z, o, s', .resumeFinished ((r.oth _ hs).1.trans hg) a, b⟩
  | segRet _ _ ih1 ih2 =>
    intro s hz r ho
    obtain ⟨z1, o1, s1, a1, b1⟩ := ih1 s hz r okF_nil
    obtain ⟨z2, o2, s2, a2, b2⟩ := ih2 s1 z1 b1 (okF_tail ho)
    exact ⟨z2, o2, s2, .segRet a1 a2, b2⟩
  | segGen _ _ ih1 ih2 =>
    intro s hz r ho
    obtain ⟨z1, o1, s1, a1, b1⟩ := ih1 s hz r okF_nil
    have hg := ho _ List.mem_cons_self
    obtain ⟨z2, o2, s2, a2, b2⟩ := ih2 _ (by rw [setGen_sz]; exact z1) (b1.setGen hg (fun _ _ _ _ _ _ h => by cases h)) (okF_tail ho)
    exact ⟨z2, o2, s2, .segGen a1 a2, b2⟩
  | segSuspOut hsp _ ih =>
    intro s hz r ho
    obtain ⟨z1, o1, s1, a1, b1⟩ := ih s hz r okF_nil
    exact ⟨z1, noGen_app o1 (noGen_split hsp), s1, .segSuspOut hsp a1, b1⟩
  | segSuspGen hsp _ hq _ ih1 ih2 =>
    intro s hz r ho
    obtain ⟨z1, o1, s1, a1, b1⟩ := ih1 s hz r okF_nil
    obtain ⟨hp, hg, hr⟩ := split_ok hsp ho
    obtain ⟨z2, o2, s2, a2, b2⟩ := ih2 _ (by rw [setGen_sz]; exact z1) (b1.setGen hg (okG_end (noGen_app o1 hp))) hr
    exact ⟨z2, o2, s2, .segSuspGen hsp a1 hq a2, b2⟩

theorem lock_code {M : Model} {Γ : Ctx} {R : Result → Shared → Prop} {p : Pos} (hz : G.size ≤ t.gens.size) (r : Rel G s t) (h : wpCode M Γ R p t) : wpCode M Γ (fun x s' => ∃ t', G.size ≤ t'.gens.size ∧ Rel G s' t' ∧ R x t') p s := by
  obtain ⟨x, t', hr, q⟩ := h
  obtain ⟨z, _, s', a, b⟩ := lock hr s hz r okF_nil
  exact ⟨x, s', a, t', z, b, q⟩
theorem lock_wp {α : Type} {M : Model} {Γ : Ctx} (m : Sem α) {Q : α → Pos → Shared → Prop} {E : Value → Pos → Shared → Prop} : ∀ {p : Pos} {s t : Shared}, G.size ≤ t.gens.size → Rel G s t → wp M Γ m Q E p t →
    wp M Γ m (fun a p' s' => ∃ t', G.size ≤ t'.gens.size ∧ Rel G s' t' ∧ Q a p' t') (fun e p' s' => ∃ t', G.size ≤ t'.gens.size ∧ Rel G s' t' ∧ E e p' t') p s := by
  induction m with
  | pure a => intro p s t hz r h; exact ⟨t, hz, r, h⟩
  | raise x => intro p s t hz r h; exact ⟨t, hz, r, h⟩
  | unsupported what => intro p s t hz r h; exact h.elim
  | finish x => intro p s t hz r h; exact h.elim
  | register a k => intro p s t hz r h; exact h.elim
  | yield v g l k => intro p s t hz r h; exact h.elim
  | fork c k => intro p s t hz r h; exact h.elim
  | await a f d l k => intro p s t hz r h; exact h.elim
  | rule tag k ih => intro p s t hz r h; exact ih () hz r h
  | «at» p' k ih => intro p s t hz r h; exact ih () hz r h
  | load a part k ih => intro p s t hz r h; obtain ⟨o, ho, h⟩ := h; exact ⟨o, by rw [r.heap]; exact ho, ih o hz r h⟩
  | update a part f k ih =>
    intro p s t hz r h; obtain ⟨ho, h⟩ := h
    refine ⟨by rw [r.heap]; exact ho, ?_⟩
    exact ih () (s := { s with heap := s.heap.update a f }) (t := { t with heap := t.heap.update a f }) hz ⟨by rw [r.heap], r.drawn, r.toks, r.os, r.size, r.slp, r.oth⟩ h
  | alloc o k ih =>
    intro p s t hz r h
    obtain ⟨sh, sg, sd, st, so⟩ := s
    obtain rfl : sh = _ := r.heap
    exact ih _ (s := ⟨t.heap.push o, sg, sd, st, so⟩) (t := { t with heap := t.heap.push o }) hz ⟨rfl, r.drawn, r.toks, r.os, r.size, r.slp, r.oth⟩ h
  | loadIfAlive a k ih =>
    intro p s t hz r h
    obtain ⟨sh, sg, sd, st, so⟩ := s
    obtain rfl : sh = _ := r.heap
    exact ih _ hz r h
  | point l k ih => intro p s t hz r h; exact ih () hz r h
  | fresh k ih =>
    intro p s t hz r h
    obtain ⟨sh, sg, sd, st, so⟩ := s
    obtain rfl : st = _ := r.toks
    exact ih _ (s := ⟨sh, sg, sd, t.toks + 1, so⟩) (t := { t with toks := t.toks + 1 }) hz ⟨r.heap, r.drawn, rfl, r.os, r.size, r.slp, r.oth⟩ h
  | ask k ih => intro p s t hz r h; exact ih _ hz r h
  | choose src n k ih =>
    intro p s t hz r h
    obtain ⟨hn, h⟩ := h
    obtain ⟨sh, sg, sd, st, so⟩ := s
    obtain rfl : sd = _ := r.drawn
    exact ⟨hn, ih _ (s := ⟨sh, sg, t.drawn.bump src, st, so⟩) (t := { t with drawn := t.drawn.bump src }) hz ⟨r.heap, rfl, r.toks, r.os, r.size, r.slp, r.oth⟩ h⟩
  | os q l k ih =>
    intro p s t hz r h
    obtain ⟨sh, sg, sd, st, so⟩ := s
    obtain rfl : so = _ := r.os
    exact ih _ (s := ⟨sh, sg, sd, st, (Os.step t.os q).1⟩) (t := { t with os := (Os.step t.os q).1 }) hz ⟨r.heap, r.drawn, r.toks, rfl, r.size, r.slp, r.oth⟩ h
  | call c h g l k ih =>
    intro p s t hz r hw
    obtain ⟨x, t1, hr, hw⟩ := hw
    obtain ⟨z, _, s1, a, b⟩ := lock hr s hz r okF_nil
    exact ⟨x, s1, a, ih x z b hw⟩
  | handled own k ih => intro p s t hz r h; exact ih _ hz r h
  | newGen c k ih =>
    intro p s t hz r h
    have h' : wp M Γ (k t.gens.size) Q E p { t with gens := t.gens.push (.fresh c) } := h
    have := ih _ (s := { s with gens := s.gens.push (.fresh c) }) (by simp; omega) (r.push hz c) h'
    rw [← r.size] at this
    exact this
  | genState g k ih =>
    intro p s t hz r h
    obtain ⟨st, hg, h⟩ := h
    rcases Classical.em (Slp G g) with hs | hs
    · obtain ⟨x, hx, hy⟩ := hs
      obtain ⟨h1, h2⟩ := r.slp _ x hx hy
      rw [hg] at h2
      cases h2
      exact ⟨x, h1, by rw [dull_seen] at h; exact ih _ hz r h⟩
    · exact ⟨st, (r.oth _ hs).1.trans hg, ih _ hz r h⟩
  | resume g rr l k ih =>
    intro p s t hz r h
    obtain ⟨res, t1, hw, h⟩ := h
    have key : ∃ s1, Wakes M Γ p g rr s res s1 ∧ G.size ≤ t1.gens.size ∧ Rel G s1 t1 := by
      unfold Wakes at hw
      cases hg : t.gens[g]? with
      | none => rw [hg] at hw; exact hw.elim
      | some x =>
        rw [hg] at hw
        have go : ∀ hs : ¬ Slp G g, s.gens[g]? = some x := fun hs => (r.oth _ hs).1.trans hg
        unfold Wakes
        cases x with
        | fresh c =>
          have hs := r.nslp hg rfl
          rw [go hs]
          dsimp only at hw ⊢
          cases rr with
          | send v =>
            by_cases hv : v = .none
            · subst hv
              obtain ⟨e1, t2, hr, hq, rfl, rfl⟩ := hw
              obtain ⟨z1, o1, s1, a1, b1⟩ := lock hr _ (by rw [setGen_sz]; exact hz) (r.setGen (x := .running) hs (fun _ _ _ _ _ _ h => by cases h)) okF_nil
              exact ⟨_, ⟨e1, s1, a1, hq, rfl, rfl⟩, by rw [setGen_sz]; exact z1, b1.setGen hs (okG_end o1)⟩
            · have hw' : res = .justStarted ∧ t1 = t := by
                revert hw
                cases v <;> first | (exact absurd rfl hv) | exact id
              obtain ⟨rfl, rfl⟩ := hw'
              refine ⟨s, ?_, hz, r⟩
              cases v <;> first | (exact absurd rfl hv) | exact ⟨rfl, rfl⟩
          | throw e =>
            obtain ⟨rfl, rfl⟩ := hw
            exact ⟨_, ⟨rfl, rfl⟩, by rw [setGen_sz]; exact hz, r.setGen hs (fun _ _ _ _ _ _ h => by cases h)⟩
        | suspended k0 l0 c0 p0 fs0 cl0 =>
          dsimp only at hw
          obtain ⟨e1, t2, hr, hq, rfl, rfl⟩ := hw
          have hs := r.nslp2 hg rr fun w e => runs_unsup hr e
          have hng := (r.oth _ hs).2 _ _ _ _ _ _ hg
          rw [go hs]
          dsimp only
          obtain ⟨z1, o1, s1, a1, b1⟩ := lock hr _ (by rw [setGen_sz]; exact hz) (r.setGen (x := .running) hs (fun _ _ _ _ _ _ h => by cases h)) (okF_of hng)
          exact ⟨_, ⟨e1, s1, a1, hq, rfl, rfl⟩, by rw [setGen_sz]; exact z1, b1.setGen hs (okG_end o1)⟩
        | running =>
          have hs := r.nslp hg rfl
          rw [go hs]
          obtain ⟨rfl, rfl⟩ := hw
          exact ⟨s, ⟨rfl, rfl⟩, hz, r⟩
        | finished =>
          have hs := r.nslp hg rfl
          rw [go hs]
          obtain ⟨rfl, rfl⟩ := hw
          exact ⟨s, ⟨rfl, rfl⟩, hz, r⟩
    obtain ⟨s1, a, z, b⟩ := key
    exact ⟨res, s1, a, ih res z b h⟩
  | stack k ih => intro p s t hz r h; exact ih _ hz r h
  | thread k ih => intro p s t hz r h; exact ih _ hz r h

/-- s with its sleepers made dull -/
def dulled (s : Shared) : Shared := { s with gens := s.gens.map dull }
theorem rel_dulled : Rel s.gens s (dulled s) where
  heap := rfl
  drawn := rfl
  toks := rfl
  os := rfl
  size := by simp [dulled]
  slp := fun g x hg _ => ⟨hg, by simp [dulled, hg]⟩
  oth := fun g hg => by
    cases e : s.gens[g]? with
    | none => refine ⟨by simp [dulled, e], fun k l c p fs cl h => ?_⟩; simp [dulled, e] at h
    | some x =>
      have hx : isS x = false := by
        cases q : isS x with
        | false => rfl
        | true => exact absurd ⟨x, e, q⟩ hg
      have hd : dull x = x := by cases x <;> first | rfl | cases hx
      refine ⟨by simp [dulled, e, hd], fun k l c p fs cl h => ?_⟩
      have h' : some (dull x) = some (GenState.suspended k l c p fs cl) := by
        have : (dulled s).gens[g]? = some (dull x) := by simp [dulled, e]
        rw [← this]; exact h
      rw [hd] at h'
      cases Option.some.inj h'
      cases hx
/-- what sleeps in s sleeps on: as it is promised of the dulled one -/
theorem wpAny_asleep {α : Type} {M : Model} {A : Around} {m : Sem α} {Q : α → Shared → Prop} {E : Value → Shared → Prop} {s : Shared} (h : wpAny M A m Q E (dulled s)) :
    wpAny M A m (fun a s' => ∃ t', Rel s.gens s' t' ∧ Q a t') (fun e s' => ∃ t', Rel s.gens s' t' ∧ E e t') s := fun Γ p hΓ => by
  have := lock_wp m (s := s) (t := dulled s) (by simp [dulled]) rel_dulled (h Γ p hΓ)
  exact Sem.wp_mono M Γ m (fun a _ s' ⟨t', _, r, q⟩ => ⟨t', r, q⟩) (fun e _ s' ⟨t', _, r, q⟩ => ⟨t', r, q⟩) p s this
end Jg
namespace Jc
open PySem PySem.Spec L2
open PyProof.Rows hiding St

/-! ### the pot of a law: two ints in a list; hidden behind one word, so that a draw leaves the heap as it was -/
def potPhi (p : Addr) : Heap → Prop := fun h => ∃ (a b : Int) (t u : Tok) (n : Nat), 0 ≤ a ∧ 0 ≤ b ∧ b < 2147483587 ∧
  h.get? p = some { cls := .type "list", data := .seq #[.int a t, .int b u] n }
abbrev Pot (H : Hp) (p : Addr) : Prop := H p = some (.ext (potPhi p))
section
variable {X : Cx} {pins : List (Addr × Obj)} {σ : St} {H : Hp} {s : Shared} {p : Addr}
theorem two_le : 2 ≤ sizeLine := by rw [sizeLine_eq]; decide
theorem pot_open (I : Inv X pins σ H s) (h : Pot H p) : ∃ a b : Int, 0 ≤ a ∧ 0 ≤ b ∧ b < 2147483587 ∧ Inv X pins σ (upd H p (.lst [.int a, .int b])) s := by
  obtain ⟨⟨a, b, t, u, n, ha, hb, hb2, hg⟩, _, _⟩ := (show ObjOk X.prog X.w H s.heap p (.ext (potPhi p)) from I.hok p _ h)
  refine ⟨a, b, ha, hb, hb2, ?_⟩
  exact I.write (x := p) (e := p) (h' := s.heap) (t' := s.toks) (by rw [h]; trivial) (.inl rfl) (fun _ _ _ e => e) ⟨_, hg⟩
    ⟨two_le, [.int a t, .int b u], n, .cons ⟨_, rfl⟩ (.cons ⟨_, rfl⟩ .nil), hg⟩
theorem pot_shut (I : Inv X pins σ H s) {a b : Int} (h : H p = some (.lst [.int a, .int b])) (ha : 0 ≤ a) (hb : 0 ≤ b) (hb2 : b < 2147483587) : Inv X pins σ (upd H p (.ext (potPhi p))) s := by
  obtain ⟨_, its, n, r, hg⟩ := (show ObjOk X.prog X.w H s.heap p (.lst [.int a, .int b]) from I.hok p _ h)
  obtain ⟨u1, u2, e, ⟨t, r1⟩, ⟨u, r2⟩⟩ := vals2 r
  subst e r1 r2
  refine I.write (x := p) (e := p) (h' := s.heap) (t' := s.toks) (by rw [h]; trivial) (.inl rfl) (fun _ _ _ e => e) ⟨_, hg⟩ ⟨⟨a, b, t, u, n, ha, hb, hb2, hg⟩, ⟨_, hg⟩, ?_⟩
  rintro h1 h2 ⟨a', b', t', u', n', c1, c2, c3, c4⟩ k
  exact ⟨a', b', t', u', n', c1, c2, c3, k _ c4⟩
end
section
variable {X : Cx}
/-- a block, its pot laid open first -/
theorem pss_pot {body : List Stmt} {t : TS} (h : PSs X body t) : PSs X body (fun D σ H => ∃ p, Pot H p ∧ ∀ a b : Int, 0 ≤ a → 0 ≤ b → b < 2147483587 → t D σ (upd H p (.lst [.int a, .int b]))) := by
  refine ⟨fun pins s σ H D I ht => ?_⟩
  obtain ⟨p, hp, k⟩ := ht
  obtain ⟨a, b, ha, hb, hb2, I2⟩ := pot_open I hp
  exact h.run pins s σ _ D I2 (k a b ha hb hb2)
/-- behind an expression a list of two ints is hidden as a pot -/
theorem pe_pot {e : Expr} {t : TE} (h : PE X e t) : PE X e (fun σ H Q => t σ H fun v H1 => ∃ (p : Addr) (a b : Int), H1 p = some (.lst [.int a, .int b]) ∧ 0 ≤ a ∧ 0 ≤ b ∧ b < 2147483587 ∧ Q v (upd H1 p (.ext (potPhi p)))) := by
  refine ⟨fun pins s σ H Q I ht => ?_⟩
  refine thn (h.run pins s σ H _ I ht) fun u s1 ⟨v, H1, I1, r1, p, a, b, e1, ha, hb, hb2, q⟩ => ?_
  exact ⟨v, _, pot_shut I1 e1 ha hb hb2, r1, q⟩
end

/-! ### a def that is called where no repr is under way -/
structure FnG (P : Program) (w : World) (K : PySem.W.Frag) (mg : Str → Option Value) (base : Heap) (k : Nat) (f : Addr) (fd : FuncData) (ps : List Str) (sp : Sp) : Prop where
  lenG : ∀ vs H Q E, sp vs H Q E → vs.length = ps.length
  runG : ∀ (A : Around) (outer : List Env) (s : Shared) (H : Hp) (args : Args) (us : List Value) (vs : List V) (Q : VK), Room k A → A.guards = some [] →
    Env0 P w K mg base A outer s H → BindsTo s fd args (ps.zip us) → Vals vs us → sp vs H Q E0 → codeAny (model P w) A (.call (.ref f) args) (CR CX0 outer P w H s Q E0) s
section
variable {P : Program} {w : World} {K : PySem.W.Frag} {mg : Str → Option Value} {base : Heap}
theorem FnG.of {k : Nat} {f : Addr} {fd : FuncData} {ps : List Str} {sp : Sp} (F : FnOk P w K mg base CX0 k f fd ps sp) : FnG P w K mg base k f fd ps sp :=
  ⟨F.len, fun A outer s H args us vs Q hr _ e b r h => F.run A outer s H args us vs Q E0 hr e b r h⟩
theorem fnG_of {x qual : Str} {st : Stmt} {f : Addr} {fd : FuncData} {N ps : List Str} {k : Nat} {sp : Sp} (F : Fun K x qual st f fd) (S : FnScope N ps (defScope st)) (len : ∀ vs H Q E, sp vs H Q E → vs.length = ps.length)
    (hkind : ∀ us : List Value, us.length = ps.length → ((ps.zip us).all fun y => (defScope st).names.lookup y.1 == some .local || (defScope st).names.lookup y.1 == some .cell) = true)
    (body : ∀ (cdv : Value) (A : Around) (outer : List Env) (s : Shared) (H : Hp) (vs : List V) (Q : VK), Room k (A.deeper (envOfC qual (defScope st) s.heap.objs.size f cdv)) → A.guards = some [] → sp vs H Q E0 →
      ∃ t, PSs (cxOf CX0 P w K mg base N qual (defScope st) f cdv A outer s H E0).nox (defBody st) t ∧ t { nx := fun _ H' => Q .non H', rt := Q } (start N vs) H) :
    FnG P w K mg base (k + 1) f fd ps sp := by
  obtain ⟨oc, od, kV, doc, pm, an, cdv, ct, osl, rfl, lk, hcd⟩ := F.ex
  refine ⟨len, fun A outer s H args us vs Q hr hg e0 hb r h => ?_⟩
  have hl := len _ _ _ _ h
  have hlu : us.length = ps.length := r.length.symm.trans hl
  have KX : K.In s.heap := e0.mod.kin.keeps fun b o e => (e0.bs b o e).1
  have lim : s.heap.NoLimit := e0.mod.nolimit.keeps fun b o e => (e0.bs b o e).1
  obtain ⟨t, ht, q⟩ := body cdv A outer s H vs Q (hr.deeper _) hg h
  refine Att.call_fn KX lim lk hcd hr.depth hb (hkind us hlu) (fun s1 ic => ?_) S.co S.gen S.kind
  have I : Inv (cxOf CX0 P w K mg base N qual (defScope st) f cdv A outer s H E0) [] (start N vs) H s1 := inv_start S hr.hd e0 hl r ic
  refine wpAny_mono (ht.nox.run [] s1 (start N vs) H _ I q) (fun fl s2 z => ?_) fun _ _ z => z
  match fl, z with
  | .ret u, ⟨v, σ2, H2, J, rv, q2⟩ => exact ⟨v, H2, J.os, J.bare, J.base, J.hok, rv, q2⟩
  | .next, ⟨σ2, H2, J, q2⟩ => exact ⟨.non, H2, J.os, J.bare, J.base, J.hok, rfl, q2⟩
  | .brk, ⟨_, _, _, q2⟩ => exact q2.elim
  | .cont, ⟨_, _, _, q2⟩ => exact q2.elim
end

/-! ### a def of the module as its callers see it -/
structure Own (P : Program) (w : World) (K : PySem.W.Frag) (mg : Str → Option Value) (base : Heap) (x : Str) (k : Nat) (ps : List Str) (sp : Sp) : Prop where
  ex : ∃ (f : Addr) (fd : FuncData), FnG P w K mg base k f fd ps sp ∧ mg x = some (.ref f) ∧ PySem.W.keepIn K (.ref f) = true ∧
    (∀ (s : Shared) (us : List Value), us.length = ps.length → BindsTo s fd ⟨us, []⟩ (ps.zip us)) ∧
    (∀ (s : Shared) (u : Value), ps.length = 1 → BindsTo s fd ⟨[], ps.zip [u]⟩ (ps.zip [u]))
def tOwn (sp : Sp) (t : TA) : TE := fun σ H Q => t σ H fun vs H1 => sp vs H1 Q E0
section
variable {X : Cx} {k j : Nat} {x : Str} {ps : List Str} {sp : Sp} {p pos : Pos} {e : Expr} {es : List Expr} {t : TA} {kws : List Keyword}
theorem run_own {pins : List (Addr × Obj)} {σ : L2.St} {H : Hp} {s : Shared} {Q : VK} {f : Addr} {fd : FuncData} {args : Args} {us : List Value} {vs : List V} (G : FnG X.prog X.w X.K X.mg X.base k f fd ps sp) (hr : Room k X.A) (hq : X.A.guards = some [])
    (I : Inv X pins σ H s) (b : BindsTo s fd args (ps.zip us)) (r : Vals vs us) (h : sp vs H Q E0) : wpAny (model X.prog X.w) X.A (call (.ref f) args.pos args.kw) (EP X pins σ Q) X.xe s := by
  refine wpAny_call (codeAny_mono (G.runG X.A X.stack s H args us vs Q hr hq I.env0 b r h) fun rs s2 z => ?_)
  match rs, z with
  | .ok (.ret u), z => exact I.after z
  | .ok .next, z => exact z.elim
  | .ok .brk, z => exact z.elim
  | .ok .cont, z => exact z.elim
  | .error _, z => exact z.elim
theorem pe_own (c : Own X.prog X.w X.K X.mg X.base x k ps sp) (hr : Room j X.A) (hq : X.A.guards = some []) (hj : k ≤ j) (ha : PA X (e :: es) t) (hg : Gl X x := by rfl) (hdb : (x == ("__debug__" : Str)) = false := by decide)
    (he : starEach (e :: es) X.env = (false, eval e X.env) :: starEach es X.env := by rfl) (hpl : (backTo pos (starEach es X.env)).any (·.1) = false := by rfl) : PE X (.Call (.Name x p) (e :: es) [] pos) (tOwn sp t) := by
  obtain ⟨f, fd, G, hm, hk, hb, _⟩ := c.ex
  refine ⟨fun pins s σ H Q I h => wpAny_Call_Name_kw (ld_glob I hg hm ?_ hdb)⟩
  refine PySem.W.callWith_K (h₀ := X.base) I.ok.mod.kin hk (thn (ha.run pos pins s σ H _ I h) fun us s1 z => ?_) he hpl
  obtain ⟨vs, H1, I1, r, q⟩ := z
  exact ⟨I1.kIn, run_own (args := ⟨us, []⟩) G (hr.mono hj) hq I1 (hb s1 us (r.length.symm.trans (G.lenG _ _ _ _ q))) r q⟩
/-- f(a = e), the one parameter by its name -/
theorem pe_ownK {a : Str} {tk : TA} (c : Own X.prog X.w X.K X.mg X.base x k [a] sp) (hr : Room j X.A) (hq : X.A.guards = some []) (hj : k ≤ j) (hkw : PK X kws tk) (hg : Gl X x := by rfl) (hdb : (x == ("__debug__" : Str)) = false := by decide)
    (hall : (backToKw pos (keywordEach kws X.env)).all (·.1.isSome) = true := by rfl) (hks : (backToKw pos (keywordEach kws X.env)).filterMap (·.1) = [a] := by rfl)
    (hpl : ((backTo pos (starEach [] X.env)).any (·.1) || (backToKw pos (keywordEach kws X.env)).any (·.1.isNone)) = false := by rfl) : PE X (.Call (.Name x p) [] kws pos) (tOwn sp tk) := by
  obtain ⟨f, fd, G, hm, hk, _, hb⟩ := c.ex
  refine ⟨fun pins s σ H Q I h => wpAny_Call_Name_kw (ld_glob I hg hm ?_ hdb)⟩
  refine PySem.W.callWith_KW0 (h₀ := X.base) I.ok.mod.kin hk hall (thn (hkw.run pos pins s σ H _ I h) fun ws s1 z => ?_) hpl
  obtain ⟨vs, H1, I1, r, q⟩ := z
  refine ⟨I1.kIn, ?_⟩
  rw [hks]
  have l1 : vs.length = 1 := G.lenG _ _ _ _ q
  obtain ⟨u, rfl⟩ : ∃ u, ws = [u] := by
    have l2 : ws.length = 1 := r.length.symm.trans l1
    match ws, l2 with
    | [u], _ => exact ⟨u, rfl⟩
  exact run_own (args := ⟨[], [(a, u)]⟩) G (hr.mono hj) hq I1 (hb s1 u rfl) r q
end

/-! ### repr -/
def rRepr (K : PySem.W.Frag) : List V → Hp → VK → Prop := fun xs H Q => ∃ v d, xs = [v] ∧ Dp K H v d ∧ d.showable = true ∧ d.hasDict = false ∧ d.depth ≤ 60 ∧ d.shown.length ≤ sizeLine ∧ Q (.str d.shown) H
theorem call_repr {X : Cx} (hq : X.A.guards = some []) (hu : X.A.units + 64 < cLine) : CallR X (.builtin "repr") (rRepr X.K) := by
  intro pins s σ H xs us Q I r h
  obtain ⟨v, d, rfl, hd, hs, hn, hdep, hsz, q⟩ := h
  obtain ⟨u, rfl, rv⟩ := vals1 r
  have back : ∀ (h2 : Heap) (x : Tok) (tk : Nat), (∀ b o, s.heap.get? b = some o → h2.get? b = some o) → EP X pins σ Q (.str d.shown x) { s with heap := h2, toks := tk } := fun h2 x tk k => ⟨.str d.shown, H, I.kept k, ⟨_, rfl⟩, q⟩
  obtain ⟨as, rd⟩ := Dp.reads I d v u hd rv
  cases hd with
  | non => cases rv; exact P.repr_of_none (back _ _ _ fun _ _ e => e)
  | bl b =>
    cases rv
    have e : PyData.shown (.bool b) = (if b then ("True" : Str) else "False") := by cases b <;> rfl
    rw [e] at back
    exact P.repr_of_bool (by cases b <;> exact back _ _ _ fun _ _ e => e)
  | int i =>
    obtain ⟨t, rfl⟩ := rv
    exact P.repr_of_int (by simpa [PyData.showable] using hs) (back _ _ _ fun _ _ e => e)
  | str z =>
    obtain ⟨t, rfl⟩ := rv
    exact P.repr_of_str (back _ _ _ fun _ _ e => e) hsz
  | lst _ _ =>
    cases rv
    exact repr_of_reads' rd hs (PyData.noDict_hsm hn) hq (by omega) (fun _ _ e => e) (fun h2 x tk k => back h2 x tk k) hsz
  | tup _ _ =>
    cases rv
    exact repr_of_reads' rd hs (PyData.noDict_hsm hn) hq (by omega) (fun _ _ e => e) (fun h2 x tk k => back h2 x tk k) hsz

/-! ### the built-in names that the texts use -/
theorem bo_len : bootBuiltins "len" = some (.builtin "len") := by decide +kernel
theorem bo_abs : bootBuiltins "abs" = some (.builtin "abs") := by decide +kernel
theorem bo_max : bootBuiltins "max" = some (.builtin "max") := by decide +kernel
theorem bo_min : bootBuiltins "min" = some (.builtin "min") := by decide +kernel
theorem bo_divmod : bootBuiltins "divmod" = some (.builtin "divmod") := by decide +kernel
theorem bo_repr : bootBuiltins "repr" = some (.builtin "repr") := by decide +kernel
theorem bo_isinstance : bootBuiltins "isinstance" = some (.builtin "isinstance") := by decide +kernel
theorem bo_all : bootBuiltins "all" = some (.builtin "all") := by decide +kernel
theorem bo_any : bootBuiltins "any" = some (.builtin "any") := by decide +kernel
theorem bo_sum : bootBuiltins "sum" = some (.builtin "sum") := by decide +kernel
theorem bo_sorted : bootBuiltins "sorted" = some (.builtin "sorted") := by decide +kernel
theorem bo_int : bootBuiltins "int" = some (.type "int") := by decide +kernel
theorem bo_str : bootBuiltins "str" = some (.type "str") := by decide +kernel
theorem bo_bool : bootBuiltins "bool" = some (.type "bool") := by decide +kernel
theorem bo_list : bootBuiltins "list" = some (.type "list") := by decide +kernel
theorem bo_tuple : bootBuiltins "tuple" = some (.type "tuple") := by decide +kernel
theorem bo_dict : bootBuiltins "dict" = some (.type "dict") := by decide +kernel
theorem bo_set : bootBuiltins "set" = some (.type "set") := by decide +kernel
theorem bo_range : bootBuiltins "range" = some (.type "range") := by decide +kernel
theorem bo_enumerate : bootBuiltins "enumerate" = some (.type "enumerate") := by decide +kernel
theorem bo_zip : bootBuiltins "zip" = some (.type "zip") := by decide +kernel
theorem bo_reversed : bootBuiltins "reversed" = some (.type "reversed") := by decide +kernel
structure Blt (mg : Str → Option Value) : Prop where
  len : mg "len" = none
  abs : mg "abs" = none
  max : mg "max" = none
  min : mg "min" = none
  divmod : mg "divmod" = none
  repr : mg "repr" = none
  isinstance : mg "isinstance" = none
  all : mg "all" = none
  any : mg "any" = none
  sum : mg "sum" = none
  sorted : mg "sorted" = none
  int : mg "int" = none
  str : mg "str" = none
  bool : mg "bool" = none
  list : mg "list" = none
  tuple : mg "tuple" = none
  dict : mg "dict" = none
  set : mg "set" = none
  range : mg "range" = none
  enumerate : mg "enumerate" = none
  zip : mg "zip" = none
  reversed : mg "reversed" = none

/-! ### the law's own helpers: what they promise -/
def spDraw : Sp := fun vs H Q _ => ∃ (p : Addr) (n : Int), vs = [.ref p, .int n] ∧ Pot H p ∧ 0 < n ∧ n < 1073741824 ∧ ∀ (d : Int) (H2 : Hp), 0 ≤ d → d < n → Same H H2 → Q (.int d) H2
def spPick (K : PySem.W.Frag) : Sp := fun vs H Q _ => ∃ (p l : Addr) (xs : List V), vs = [.ref p, .ref l] ∧ Pot H p ∧ SqL K H l xs ∧ 0 < xs.length ∧ xs.length ≤ 1000 ∧ ∀ (i : Nat) (v : V) (H2 : Hp), xs[i]? = some v → Same H H2 → Q v H2
def spPot (K : PySem.W.Frag) : Sp := fun vs H Q _ => ∃ (a : Addr) (ns : List Int) (k : Nat), vs = [.ref a, .int (k : Int)] ∧ SqL K H a (ns.map V.int) ∧ k < 100 ∧
  ∀ (p : Addr) (x y : Int), H p = none → 0 ≤ x → 0 ≤ y → y < 2147483587 → Q (.ref p) (upd H p (.lst [.int x, .int y]))
theorem same_new {H : Hp} {p : Addr} {o : HO} (h : H p = none) : Same H (upd H p o) := fun b u e => by
  rw [upd_ne (ne_of_none e h)]
  exact e
theorem same_mut {H H2 : Hp} {p : Addr} {o : HO} (s : Same H H2) (h : H p = none) : Same H (upd H2 p o) := fun b u e => by
  rw [upd_ne (ne_of_none e h)]
  exact s b u e
theorem same_back {H H2 : Hp} {p : Addr} {o : HO} (h : H p = some o) (s : ∀ b u, b ≠ p → H b = some u → H2 b = some u) : Same H (upd H2 p o) := fun b u e => by
  by_cases hb : b = p
  · subst hb
    rw [h] at e
    rw [upd_same, ← e]
  · rw [upd_ne hb]
    exact s b u hb e
end Jc
/-! ### a generator of one's own def that a for walks: it sleeps while the body runs own code -/
namespace Jg
open PySem PySem.Spec L2 Jc
open PyProof.Rows hiding St
open GenW (setGen_size)

/-! the heap that a segment of the generator starts from: the base and the frames that run, below the generator's own frame -/
def frO : Obj := { cls := .none, data := .freed }
def zB (base : Heap) (fr : List Addr) (L : Nat) (h : Heap) : Heap :=
  ⟨Array.ofFn fun i : Fin L => if (base.get? i.1).isSome = true ∨ i.1 ∈ fr then (h.get? i.1).getD frO else frO, h.life⟩
theorem zB_size {base : Heap} {fr : List Addr} {L : Nat} {h : Heap} : (zB base fr L h).objs.size = L := by simp [zB]
theorem zB_some {base : Heap} {fr : List Addr} {L : Nat} {h : Heap} {b : Addr} {o : Obj} : (zB base fr L h).get? b = some o ↔ b < L ∧ ((base.get? b).isSome = true ∨ b ∈ fr) ∧ h.get? b = some o := by
  rw [Heap.get?_some_iff]
  by_cases hb : b < L
  · have e : (zB base fr L h).objs[b]? = some (if (base.get? b).isSome = true ∨ b ∈ fr then (h.get? b).getD frO else frO) := by
      simp [zB, hb]
    rw [e]
    by_cases hc : (base.get? b).isSome = true ∨ b ∈ fr
    · rw [if_pos hc]
      cases q : h.get? b with
      | none => exact ⟨fun ⟨a, c⟩ => (by cases Option.some.inj a; cases c), fun ⟨_, _, z⟩ => (by cases z)⟩
      | some u =>
        refine ⟨fun ⟨a, c⟩ => ⟨hb, hc, (by cases Option.some.inj a; rfl)⟩, fun ⟨_, _, z⟩ => ?_⟩
        cases Option.some.inj z
        exact ⟨rfl, (Heap.get?_some_iff.mp q).2⟩
    · rw [if_neg hc]
      exact ⟨fun ⟨a, c⟩ => (by cases Option.some.inj a; cases c), fun ⟨_, z, _⟩ => absurd z hc⟩
  · refine ⟨fun ⟨a, _⟩ => ?_, fun z => absurd z.1 hb⟩
    have := (Array.getElem?_eq_some_iff.mp a).1
    rw [zB_size] at this
    exact absurd this hb

/-- the context of a segment -/
def zC (X : Cx) (N : List Str) (qual : Str) (scope : Scope) (f : Addr) (cd : Value) (L : Addr) (s : Shared) : Cx where
  prog := X.prog
  w := X.w
  K := X.K
  mg := X.mg
  base := X.base
  A := X.A.in1.deeper (envOfC qual scope L f cd)
  N := N
  s_0 := { s with heap := zB X.base (frs X.stack) L s.heap }
  H_0 := fun _ => none
  env := envOfC qual scope L f cd
  outer := X.stack
  stack := envOfC qual scope L f cd :: X.stack
  ex := []
  calm := true
  fn := fun _ => true
  pn := []
  xe := fun _ _ => False

/-- a list of the generator's own, as it stands -/
def LstOf (o : Obj) (xs : List V) : Prop := xs.length ≤ sizeLine ∧ ∃ (its : List Value) (n : Nat), Vals xs its ∧ o = { cls := .type "list", data := .seq its.toArray n }
/-- what a segment tracks: the generator's own lists, to be read; all else as it stands -/
def zH (X : Cx) (L : Addr) (fl : List (Addr × Obj × List V)) (s : Shared) : Hp := fun b =>
  match fl.lookup b with
  | some p => some (.frz p.1 (.lst p.2))
  | none => if b = L ∨ (X.base.get? b).isSome = true ∨ b ∈ frs X.stack then none else if (s.heap.get? b).isSome = true then some (.ext fun h => h.get? b = s.heap.get? b) else none

theorem lookup_mem {α : Type} {l : List (Addr × α)} {b : Addr} {p : α} (h : l.lookup b = some p) : (b, p) ∈ l := by
  induction l with
  | nil => simp at h
  | cons x l ih =>
    obtain ⟨c, q⟩ := x
    simp only [List.lookup] at h
    split at h
    · rename_i e
      have e' : b = c := by simpa using e
      cases Option.some.inj h
      rw [e']
      exact List.mem_cons_self
    · exact List.mem_cons_of_mem _ (ih h)
structure ScZ (N : List Str) (scope : Scope) (L : Addr) : Prop where
  kind : scope.kind = .function
  cells : cellsFrom (L + 1) scope.names [] = []
  loc : ∀ x, scope.names.lookup x ≠ some .cell ∧ scope.names.lookup x ≠ some .free
section
variable {X : Cx} {pins : List (Addr × Obj)} {σ₁ σ : L2.St} {H₁ Hg : Hp} {s s₁ : Shared} {N : List Str} {qual : Str} {scope : Scope} {f L : Addr} {cd : Value} {fl : List (Addr × Obj × List V)}
theorem frs_none (I : Inv X pins σ₁ H₁ s) {b : Addr} (hb : b ∈ frs X.stack) : ∃ o, s.heap.get? b = some o := by
  obtain ⟨_, o, ho, _⟩ := I.stack.mem hb
  exact ⟨o, ho⟩
/-- a segment may begin -/
theorem zInv (I : Inv X pins σ₁ H₁ s) (hc : X.A.handled = none) (S : ScZ N scope L) (hL : ∀ b ∈ frs X.stack, b < L) (hb : X.base.objs.size ≤ L) {m : Str → Option Value} (hn : s.heap.Ns L m) (hlen : σ.length = N.length)
    (hσ : ∀ (i : Nat) (x : Str) (v : V), N[i]? = some x → σ[i]? = some (some v) → Vis scope x → ∃ u, RelV v u ∧ scope.names.lookup x = some .local ∧ m x = some u)
    (hfl : ∀ p ∈ fl, p.1 ≠ L ∧ X.base.get? p.1 = none ∧ p.1 ∉ frs X.stack ∧ s.heap.get? p.1 = some p.2.1 ∧ LstOf p.2.1 p.2.2) :
    Inv (zC X N qual scope f cd L s) [] σ (zH X L fl s) s := by
  have hbl : ∀ b o, X.base.get? b = some o → b < L := fun b o e => Nat.lt_of_lt_of_le (Heap.lt_size e) hb
  have nofl : ∀ {b : Addr}, (b = L ∨ (X.base.get? b).isSome = true ∨ b ∈ frs X.stack) → fl.lookup b = none := fun {b} hb => by
    cases q : fl.lookup b with
    | none => rfl
    | some p =>
      obtain ⟨h1, h2, h3, _⟩ := hfl _ (lookup_mem q)
      rcases hb with z | z | z
      · exact absurd z h1
      · rw [show X.base.get? b = none from h2] at z; cases z
      · exact absurd z h3
  have zno : ∀ {b : Addr}, (b = L ∨ (X.base.get? b).isSome = true ∨ b ∈ frs X.stack) → zH X L fl s b = none := fun {b} hb => by
    unfold zH
    rw [nofl hb]
    show (if _ then _ else _) = _
    rw [if_pos hb]
  have fun' : ∀ l : List Env, (∀ b ∈ frs l, b ∈ frs X.stack) → s.heap.FunFrames X.base l → (zB X.base (frs X.stack) L s.heap).FunFrames X.base l := by
    intro l
    induction l with
    | nil => intro _ _; trivial
    | cons env r ih =>
      intro hs hl
      obtain ⟨hk, ⟨L', o, hf, hn', ho, hd⟩, hr⟩ := hl
      have hm : L' ∈ frs X.stack := hs L' (by unfold frs; rw [List.filterMap_cons, hf]; exact List.mem_cons_self)
      exact ⟨hk, ⟨L', o, hf, hn', zB_some.mpr ⟨hL L' hm, .inr hm, ho⟩, hd⟩, ih (fun b hb => hs b (by unfold frs; rw [List.filterMap_cons, hf]; exact List.mem_cons_of_mem _ hb)) hr⟩
  have noC : ∀ {x c}, (envOfC qual scope L f cd).cells.lookup x = some c → False := fun {x c} h => by
    rw [show (envOfC qual scope L f cd).cells = [] from S.cells] at h
    simp at h
  refine ⟨⟨I.ok.mod, S.kind, rfl, rfl, ?_, fun x y c h _ => (noC h).elim, fun x h => ?_, fun x c _ h => (noC h).elim, fun _ => hc, Around.frames_deeper I.ok.frames, .inr ⟨rfl, rfl⟩, fun b z => ?_, fun b o e => ⟨zB_some.mpr ⟨hbl b o e, .inl (Option.isSome_iff_exists.mpr ⟨o, e⟩), I.bk b o e⟩, rfl⟩, ?_, fun b o _ z => ?_, fun b z => ?_, fun' _ (fun _ h => h) I.stack, fun _ _ => rfl⟩,
    rfl, I.bare, ⟨fun b o e _ _ _ => (zB_some.mp e).2.2, fun b o e _ _ _ => ⟨o.slots, (zB_some.mp e).2.2⟩, fun b o e _ _ => zno (.inr (zB_some.mp e).2.1), fun b o e _ => ⟨o, (zB_some.mp e).2.2⟩, fun b xs e => (by cases e), fun b o u e => (by cases e), fun b ps e => (by cases e)⟩,
    ⟨m, hn, fun i x v h1 h2 h3 => ?_⟩, fun x c h => (noC h).elim, zno (.inl rfl), fun x c h => (noC h).elim, fun p hp => ?_, fun b u e => ?_, hlen⟩
  · exact Nat.le_of_eq zB_size
  · have h' : scope.names.lookup x = some .cell ∨ scope.names.lookup x = some .free := h
    rcases h' with z | z
    · exact absurd z (S.loc x).1
    · exact absurd z (S.loc x).2
  · exact absurd (show b ∈ ([] : List Addr) from z) (by simp)
  · show X.base.objs.size ≤ (zB X.base (frs X.stack) L s.heap).objs.size
    rw [zB_size]; exact hb
  · exact absurd (show b ∈ ([] : List Addr) from z) (by simp)
  · exact absurd (show b ∈ ([] : List Addr) from z) (by simp)
  · obtain ⟨u, r, hx, hm⟩ := hσ i x v h1 h2 h3
    exact ⟨u, r, .inl ⟨hx, hm⟩⟩
  · exact absurd (show p ∈ ([] : List (Addr × Obj)) from hp) (by simp)
  · show ObjOk X.prog X.w _ s.heap b u
    unfold zH at e
    cases q : fl.lookup b with
    | some p =>
      rw [q] at e
      cases Option.some.inj e
      obtain ⟨_, _, _, h4, h5, its, n, r, h6⟩ := hfl _ (lookup_mem q)
      exact ⟨h4, h5, its, n, r, by rw [← h6]; exact h4⟩
    | none =>
      rw [q] at e
      have e' : (if b = L ∨ (X.base.get? b).isSome = true ∨ b ∈ frs X.stack then none else if (s.heap.get? b).isSome = true then some (HO.ext fun h => h.get? b = s.heap.get? b) else none) = some u := e
      split at e'
      · cases e'
      · split at e'
        · rename_i hsome
          cases Option.some.inj e'
          obtain ⟨o, ho⟩ := Option.isSome_iff_exists.mp hsome
          exact ⟨rfl, ⟨o, ho⟩, fun h1 h2 p k => by rw [ho] at p ⊢; exact k o p⟩
        · cases e'
/-- what a segment tracks of what stood there ahead of it -/
theorem zH_old {b : Addr} {o : Obj} (e : s.heap.get? b = some o) (h1 : b ≠ L) (h2 : ¬ ((X.base.get? b).isSome = true ∨ b ∈ frs X.stack)) : (∃ o' xs, zH X L fl s b = some (.frz o' (.lst xs))) ∨ zH X L fl s b = some (.ext fun h => h.get? b = s.heap.get? b) := by
  unfold zH
  cases q : fl.lookup b with
  | some p => exact .inl ⟨p.1, p.2, rfl⟩
  | none =>
    refine .inr ?_
    show (if _ then _ else _) = _
    rw [if_neg (fun z => z.elim h1 h2), if_pos (by rw [e]; rfl)]
def Fresh : HO → Prop
  | .ext _ => False
  | .frz _ _ => False
  | _ => True
theorem znew (J : Inv (zC X N qual scope f cd L s) [] σ Hg s₁) (hs : Same (zH X L fl s) Hg) (hfl : ∀ p ∈ fl, s.heap.get? p.1 = some p.2.1) (hL : ∀ b ∈ frs X.stack, b < L) (hb : X.base.objs.size ≤ L) {b : Addr} {u : HO} (e : Hg b = some u) (hf : Fresh u) : s.heap.get? b = none := by
  cases q : s.heap.get? b with
  | none => rfl
  | some o =>
    exfalso
    by_cases h1 : b = L
    · have h2 : Hg L = none := J.free
      rw [h1] at e
      rw [h2] at e; cases e
    · by_cases h2 : (X.base.get? b).isSome = true ∨ b ∈ frs X.stack
      · have lt : b < L := by
          rcases h2 with z | z
          · obtain ⟨o', ho'⟩ := Option.isSome_iff_exists.mp z
            exact Nat.lt_of_lt_of_le (Heap.lt_size ho') hb
          · exact hL b z
        have h3 : Hg b = none := J.base.free b o (zB_some.mpr ⟨lt, h2, q⟩) rfl (show b ∉ ([] : List Addr) by simp)
        rw [h3] at e; cases e
      · rcases zH_old (fl := fl) q h1 h2 with ⟨o', xs, z⟩ | z
        · rw [hs _ _ z] at e; cases Option.some.inj e; exact hf
        · rw [hs _ _ z] at e; cases Option.some.inj e; exact hf
/-- behind a segment: all that stood there stands, but for the generator's frame -/
theorem zUn (J : Inv (zC X N qual scope f cd L s) [] σ Hg s₁) (hs : Same (zH X L fl s) Hg) (hfl : ∀ p ∈ fl, s.heap.get? p.1 = some p.2.1) (hL : ∀ b ∈ frs X.stack, b < L) (hb : X.base.objs.size ≤ L) {Hn : Hp} (hN : ∀ b u, Hn b = some u → s.heap.get? b = none) :
    Un (frs X.stack) [L] (fun _ => none) Hn s.heap s₁.heap := by
  have old : ∀ b o, s.heap.get? b = some o → b ≠ L → ¬ ((X.base.get? b).isSome = true ∨ b ∈ frs X.stack) → s₁.heap.get? b = some o := fun b o e h1 h2 => by
    rcases hz : fl.lookup b with _ | p
    · rcases zH_old (fl := fl) e h1 h2 with ⟨o', xs, z⟩ | z
      · unfold zH at z
        rw [hz] at z
        have z' : (if b = L ∨ (X.base.get? b).isSome = true ∨ b ∈ frs X.stack then none else if (s.heap.get? b).isSome = true then some (HO.ext fun h => h.get? b = s.heap.get? b) else none) = some (.frz o' (.lst xs)) := z
        rw [if_neg (fun z => z.elim h1 h2), if_pos (by rw [e]; rfl)] at z'
        cases z'
      · obtain ⟨z1, _⟩ := (show ObjOk X.prog X.w Hg s₁.heap b (.ext _) from J.hok b _ (hs _ _ z))
        rw [← e]; exact z1
    · have z : zH X L fl s b = some (.frz p.1 (.lst p.2)) := by unfold zH; rw [hz]
      obtain ⟨z1, _⟩ := (show ObjOk X.prog X.w Hg s₁.heap b (.frz p.1 (.lst p.2)) from J.hok b _ (hs _ _ z))
      have := hfl _ (lookup_mem hz)
      rw [show s.heap.get? b = some p.1 from this] at e
      cases Option.some.inj e
      exact z1
  have low : ∀ {b : Addr}, ((X.base.get? b).isSome = true ∨ b ∈ frs X.stack) → b < L := fun {b} h2 => by
    rcases h2 with z | z
    · obtain ⟨o', ho'⟩ := Option.isSome_iff_exists.mp z
      exact Nat.lt_of_lt_of_le (Heap.lt_size ho') hb
    · exact hL b z
  have nx : ∀ {b : Addr}, b ∉ [L] → b ≠ L := fun {b} h z => h (by rw [z]; exact List.mem_singleton.mpr rfl)
  refine ⟨fun b o e _ h1 h2 => ?_, fun b o e _ h1 h2 => ?_, fun b o e _ h2 => ?_, fun b o e h2 => ?_, fun b xs e => (by cases e), fun b o u e => (by cases e), fun b ps e => (by cases e)⟩
  · by_cases h3 : (X.base.get? b).isSome = true ∨ b ∈ frs X.stack
    · exact J.base.keep b o (zB_some.mpr ⟨low h3, h3, e⟩) rfl h1 (show b ∉ ([] : List Addr) by simp)
    · exact old b o e (nx h2) h3
  · exact J.base.slot b o (zB_some.mpr ⟨hL b h1, .inr h1, e⟩) rfl h1 (show b ∉ ([] : List Addr) by simp)
  · cases q : Hn b with
    | none => rfl
    | some u => rw [hN b u q] at e; cases e
  · by_cases h3 : (X.base.get? b).isSome = true ∨ b ∈ frs X.stack
    · exact J.base.there b o (zB_some.mpr ⟨low h3, h3, e⟩) (show b ∉ ([] : List Addr) by simp)
    · exact ⟨o, old b o e (nx h2) h3⟩
end
end Jg
/-! ### for x in g(..): the generator sleeps while the body runs -/
namespace Jg
open PySem PySem.Spec L2 Jc
open PyProof.Rows hiding St
open GenW (setGen_size)

/-- what a generator hands over, put to what is tracked -/
def mrg (H Hn : Hp) : Hp := fun b => match Hn b with
  | some u => some u
  | none => H b
theorem mrg_new {H Hn : Hp} {b : Addr} {u : HO} (e : Hn b = some u) : mrg H Hn b = some u := by unfold mrg; rw [e]
theorem mrg_old {H Hn : Hp} {b : Addr} (e : Hn b = none) : mrg H Hn b = H b := by unfold mrg; rw [e]
theorem dict_there {h : Heap} {a : Addr} {m : Str → Option Value} (x : h.Ns1 a m) : ∃ o, h.get? a = some o := let ⟨o, _, _, e, _⟩ := x; ⟨o, e⟩
theorem ok_there {P : Program} {w : World} {H : Hp} {h : Heap} {a : Addr} {o : HO} (x : ObjOk P w H h a o) : ∃ ob, h.get? a = some ob := by
  cases o with
  | lst xs => obtain ⟨_, _, _, _, e⟩ := x; exact ⟨_, e⟩
  | tup xs => obtain ⟨_, _, _, o, e, _⟩ := x; exact ⟨_, e⟩
  | dK kvs => obtain ⟨_, _, _, _, o, _, _, e, _⟩ := x; exact ⟨_, e⟩
  | dT kvs => obtain ⟨_, _, _, _, o, _, _, e, _⟩ := x; exact ⟨_, e⟩
  | set S n => obtain ⟨o, _, _, _, e, _⟩ := x; exact ⟨_, e⟩
  | ins C dx fs => obtain ⟨_, _, _, e, _⟩ := x; exact ⟨_, e⟩
  | own y => exact x
  | xd fs => obtain ⟨_, n, _⟩ := x; exact dict_there n
  | rng lo hi => obtain ⟨_, _, _, e⟩ := x; exact ⟨_, e⟩
  | frz ob u => obtain ⟨e, _⟩ := x; exact ⟨_, e⟩
  | tbl ps => exact ⟨_, x⟩
  | met f y => exact ⟨_, x⟩
  | ext φ => exact x.2.1
section
variable {X : Cx} {pins : List (Addr × Obj)} {σ : L2.St} {H Hn : Hp} {s s₁ : Shared} {L : Addr}
theorem Inv.none_of (I : Inv X pins σ H s) {b : Addr} (e : s.heap.get? b = none) : H b = none := by
  cases q : H b with
  | none => rfl
  | some u =>
    obtain ⟨o, ho⟩ := ok_there (I.hok b u q)
    rw [e] at ho; cases ho
/-- what may turn at L -/
def TurnOk (X : Cx) (pins : List (Addr × Obj)) (L : Addr) : Prop := (L ∈ X.ex ∨ X.s_0.heap.objs.size ≤ L) ∧ L ≠ X.env.locals ∧ (∀ x c, X.env.cells.lookup x = some c → c ≠ L) ∧ ∀ p ∈ X.pn ++ pins, p.1 ≠ L
theorem Inv.mrg (I : Inv X pins σ H s) (os : s₁.os = s.os) (hb : AllBare s₁.gens) (un : Un (frs X.stack) [L] (fun _ => none) Hn s.heap s₁.heap) (hok : HOk X.prog X.w Hn s₁.heap) (hL : H L = none) (ht : TurnOk X pins L) : Inv X pins σ (mrg H Hn) s₁ := by
  have nL : ∀ {b u}, H b = some u → b ≠ L := fun {b u} e z => by rw [z, hL] at e; cases e
  have no : ∀ {b u}, H b = some u → Hn b = none := fun {b u} e => by
    obtain ⟨o, ho⟩ := ok_there (I.hok b u e)
    exact un.free b o ho rfl fun z => nL e (List.mem_singleton.mp z)
  have old : ∀ {b u}, H b = some u → Jg.mrg H Hn b = some u := fun {b u} e => by rw [mrg_old (no e)]; exact e
  refine I.call' (ch := [L]) os ⟨fun b o e n h1 h2 => un.keep b o e rfl h1 h2, fun b o e n h1 h2 => un.slot b o e rfl h1 h2, fun b o e n h2 => ?_, fun b o e h2 => un.there b o e h2, fun b xs e => old e, fun b o u e => old e, fun b ps e => ⟨#[], by rw [old e]; simp⟩⟩ (fun b u e => ?_) hb fun b z => ?_
  · rw [mrg_old (un.free b o e rfl h2)]; exact n
  · cases q : Hn b with
    | some u' =>
      rw [mrg_new q] at e
      cases Option.some.inj e
      exact (hok b u q).stay (fun _ _ _ z => z) (fun c z => mrg_new z) fun c xs z => mrg_new z
    | none =>
      rw [mrg_old q] at e
      refine (I.hok b u e).stay (fun c v hc z => ?_) (fun c z => old z) fun c xs z => old z
      have tr : ∃ u', H c = some u' := by
        rcases hc with hc | hc
        · exact ⟨u, by rw [hc]; exact e⟩
        · exact ⟨_, hc⟩
      obtain ⟨u', hu'⟩ := tr
      exact un.keep c v z rfl (fun hm => by rw [I.stkFree c hm] at hu'; cases hu') fun hm => nL hu' (List.mem_singleton.mp hm)
  · rw [List.mem_singleton.mp z]; exact ht
theorem Inv.regen (I : Inv X pins σ H s) {t : Shared} (h1 : t.heap = s.heap) (h2 : t.os = s.os) (hb : AllBare t.gens) : Inv X pins σ H t := by
  obtain ⟨th, tg, td, tt, to⟩ := t
  obtain rfl : th = _ := h1
  obtain rfl : to = _ := h2
  exact ⟨I.ok, I.os, hb, I.base, I.loc, I.cell, I.free, I.freeC, I.pin, I.hok, I.len⟩
end

theorem bare_dulled {s : Shared} (h : AllBare s.gens) : AllBare (dulled s).gens := fun y hy => by
  obtain ⟨z, hz, e⟩ := Array.mem_map.mp (show y ∈ s.gens.map dull from hy)
  rw [← e, dull_bare]; exact h z hz
theorem Rel.bare {G : Array GenState} {s t : Shared} (r : Rel G s t) (hG : AllBare G) (ht : AllBare t.gens) : AllBare s.gens := fun y hy => by
  obtain ⟨i, hi, e⟩ := Array.mem_iff_getElem.mp hy
  have ei : s.gens[i]? = some y := by rw [Array.getElem?_eq_getElem hi, e]
  rcases Classical.em (Slp G i) with hs | hs
  · obtain ⟨x, hx, hxs⟩ := hs
    have := (r.slp i x hx hxs).1
    rw [ei] at this
    cases Option.some.inj this
    exact hG y (Array.mem_of_getElem? hx)
  · have := (r.oth i hs).1
    rw [ei] at this
    exact ht y (Array.mem_of_getElem? this.symm)

/-! ### the protocol: what is handed over, what sleeps on -/
/-- the generator's own objects at fp are as they stand wherever the caller's state is as it should be -/
def Wake (X : Cx) (fp : List (Addr × Obj)) (s : Shared) : Prop := ∃ pins σ H, Inv X (pins ++ fp) σ H s
/-- an item: what it is by the number of turns that are left -/
def YP (X : Cx) (a L : Addr) (Vy : Nat → V → Hp → Prop) : Protocol := fun n s₀ v s₁ kap =>
  ∃ (x : V) (Hn : Hp) (fp : List (Addr × Obj)), RelV x v ∧ s₁.os = s₀.os ∧ AllBare s₁.gens ∧ Un (frs X.stack) [L] (fun _ => none) Hn s₀.heap s₁.heap ∧ HOk X.prog X.w Hn s₁.heap ∧ Vy n x Hn ∧
    (∀ p ∈ fp, s₁.heap.get? p.1 = some p.2 ∧ Hn p.1 = none ∧ (p.1 = a ∨ p.1 = L ∨ s₀.heap.get? p.1 = none) ∧ ∀ v, p.2.data ≠ .cell v) ∧ (∃ o, (a, o) ∈ fp) ∧ (∃ o, (L, o) ∈ fp) ∧
    ∀ s'' z, (z = Value.none ∨ z = .bool true) → Wake X fp s'' → kap (.send z) s''
def FP (X : Cx) (L : Addr) : Nat → Shared → Shared → Prop := fun n s₀ s₁ => n = 0 ∧ s₁.os = s₀.os ∧ AllBare s₁.gens ∧ Un (frs X.stack) [L] (fun _ => none) (fun _ => none) s₀.heap s₁.heap
abbrev RP (X : Cx) (L : Addr) : GenEnd := fun n s₀ r s₁ => ((r = .ok (.ret .none) ∨ r = .ok .next) ∧ FP X L n s₀ s₁) ∨ ∃ e, r = .error e ∧ False
/-- a generator that has n items more -/
structure Asleep (X : Cx) (pins : List (Addr × Obj)) (Vy : Nat → V → Hp → Prop) (n : Nat) (a : Addr) (g : Nat) (L : Addr) (fp : List (Addr × Obj)) (s : Shared) : Prop where
  gen : s.heap.IsGen a g
  inA : ∃ o, (a, o) ∈ fp
  inL : ∃ o, (L, o) ∈ fp
  ne : a ≠ L
  tok : TurnOk X pins L
  ex : ∃ gs, s.gens[g]? = some gs ∧ ∀ s'', Wake X fp s'' → gs.Goes (model X.prog X.w) X.A.in1 (RP X L) (YP X a L Vy) n (.send .none) s''
abbrev TGm := L2.St → Hp → (Nat → (Nat → V → Hp → Prop) → Hp → Prop) → Prop
/-- an expression whose value is a generator that has not begun -/
structure PGm (X : Cx) (e : Expr) (tg : TGm) : Prop where
  run : ∀ (pins : List (Addr × Obj)) (s : Shared) (σ : L2.St) (H : Hp) (R : Nat → (Nat → V → Hp → Prop) → Hp → Prop), Inv X pins σ H s → tg σ H R →
    wpAny (model X.prog X.w) X.A (eval e X.env) (fun u s' => ∃ n Vy H1 a g L fp, u = .ref a ∧ Inv X (pins ++ fp) σ H1 s' ∧ Asleep X pins Vy n a g L fp s' ∧ R n Vy H1) X.xe s
/-- n items; the turn i hands over what Vy tells of n - 1 - i -/
def Itg (n : Nat) (Vy : Nat → V → Hp → Prop) : L2.It := ⟨fun i _ => i < n, fun i H x H' => ∃ Hn, Vy (n - 1 - i) x Hn ∧ H' = mrg H Hn ∧ ∀ b u, Hn b = some u → H b = none, fun i _ => i = n⟩
def iGen (tg : TGm) : TI := fun σ H R => tg σ H fun n Vy H1 => R (Itg n Vy) H1

theorem Wake.regen {X : Cx} {fp : List (Addr × Obj)} {s t : Shared} (h : Wake X fp s) (h1 : t.heap = s.heap) (h2 : t.os = s.os) (hb : AllBare t.gens) : Wake X fp t := by
  obtain ⟨pins, σ, H, I⟩ := h
  exact ⟨pins, σ, H, Inv.regen I h1 h2 hb⟩
section
variable {X : Cx} {tg : Expr}
theorem ps_forG {iter : Expr} {body : List Stmt} {wi : TGm} {g : TG} {tb : TS} {pos : Pos} (hc : X.calm = true) (hd : X.A.depth < recursionLimit) (hxe : ∀ e s, ¬ X.xe e s) (hi : PGm X iter wi) (hg : PG X tg g) (hb : PSs X body tb)
    (hs : ∀ x, foldedSetIterable iter X.env x = pure x := by intro _; rfl) : PS X (.For tg iter body [] pos) (tFor (iGen wi) g tb) := by
  have hxe' : X.xe = fun _ _ => False := by
    funext e s
    exact propext ⟨fun z => hxe e s z, fun z => z.elim⟩
  have hp : PassesOwn (model X.prog X.w) X.A X.env X.xe := by rw [hxe']; exact .never
  refine ⟨fun pins s σ H D I h => ?_⟩
  refine wpAny_For (thn (hi.run pins s σ H _ I h) fun v s1 h1 => ?_) hs
  obtain ⟨N, Vy, H1, a, g', L, fp, rfl, I1, Z1, W, ⟨m0, w0⟩, turn⟩ := h1
  refine wpAny_pyIter_gen Z1.gen ?_
  refine codeAny_forLoop_any (fun n s' => ∃ i σ' H' fp', i ≤ N ∧ Inv X (pins ++ fp') σ' H' s' ∧ Asleep X pins Vy (N - i) a g' L fp' s' ∧ W i n σ' H') ?_ m0 ⟨0, σ, H1, fp, Nat.zero_le _, I1, Z1, w0⟩
  rintro n s3 ⟨i, σ3, H3, fp3, hi3, I3, Z3, w3⟩
  obtain ⟨gs, hgs, hgo⟩ := Z3.ex
  have hlt : g' < s3.gens.size := (Array.getElem?_eq_some_iff.mp hgs).1
  have w3' : Wake X fp3 (s3.setGen g' .running) := Wake.regen ⟨pins, σ3, H3, I3⟩ rfl rfl (allBare_setGen I3.bare rfl)
  obtain ⟨oa, hoa⟩ := Z3.inA
  obtain ⟨oL, hoL⟩ := Z3.inL
  have pa := I3.pin (a, oa) (List.mem_append_right _ (List.mem_append_right _ hoa))
  have pL := I3.pin (L, oL) (List.mem_append_right _ (List.mem_append_right _ hoL))
  have I3u : Inv X pins σ3 H3 s3 := I3.unpinned
  -- behind an end of the generator's run
  have back : ∀ {s4 : Shared} {Hn : Hp}, s4.os = s3.os → AllBare s4.gens → Un (frs X.stack) [L] (fun _ => none) Hn s3.heap s4.heap → HOk X.prog X.w Hn s4.heap → Inv X pins σ3 (mrg H3 Hn) s4 := fun {s4 Hn} o b u k => Inv.mrg I3u o b u k pL.2.1 Z3.tok
  have naS : a ∉ frs X.stack := fun hm => by
    rcases List.mem_cons.mp (I3.stkSub a hm) with z | z
    · exact pa.2.2.1 z
    · exact pa.2.2.2.1 z
  rcases turn i n σ3 H3 w3 with ⟨stop, qn⟩ | ⟨go, M, hM, step⟩
  · have hi' : i = N := stop
    have h0 : N - i = 0 := by omega
    rw [h0] at hgo
    refine wpAny_passesOwn hp (next_genG (Er := fun _ _ => False) (I3.ok.hd hc) I3.nolimit hd Z3.gen hgs (hgo _ w3') (fun v s4 gs' _ hy => ?_) (fun s4 hF h' hk => ?_) fun _ _ z => z.elim)
    · exfalso
      obtain ⟨x, Hn, fp', _, ho, hbb, un, hok, _, hfp, _, _, hk⟩ := hy
      have I4 : Inv X pins σ3 (mrg H3 Hn) s4 := back ho hbb un hok
      refine hk s4 .none (.inl rfl) ⟨pins, σ3, mrg H3 Hn, I4.pins_of fun p hpp => ?_⟩
      rcases List.mem_append.mp hpp with z | z
      · exact I4.pin p (List.mem_append_right _ z)
      · obtain ⟨q1, q2, q3, q4⟩ := hfp p z
        refine ⟨q1, ?_, ?_, ?_, q4⟩
        · rw [mrg_old q2]
          rcases q3 with e | e | e
          · rw [e]; exact pa.2.1
          · rw [e]; exact pL.2.1
          · exact Inv.none_of I3u e
        · rcases q3 with e | e | e
          · rw [e]; exact pa.2.2.1
          · rw [e]; exact pL.2.2.1
          · rintro e'
            obtain ⟨m, ⟨o, _, _, ho', _⟩, _⟩ := I3.loc
            rw [← e'] at ho'
            rw [show s3.heap.get? p.1 = none from e] at ho'; cases ho'
        · rcases q3 with e | e | e
          · rw [e]; exact pa.2.2.2.1
          · rw [e]; exact pL.2.2.2.1
          · intro hm
            obtain ⟨_, o, ho', _⟩ := I3.funs.mem hm
            rw [show s3.heap.get? p.1 = none from e] at ho'; cases ho'
    · obtain ⟨_, ho, hbb, un⟩ := hF
      have I4 : Inv X pins σ3 (mrg H3 fun _ => none) s4 := back ho hbb un fun b u e => by cases e
      have I5 : Inv X pins σ3 H3 { s4.setGen g' .finished with heap := h' } := by
        have e : mrg H3 (fun _ => none) = H3 := rfl
        rw [e] at I4
        exact (Inv.regen I4 (t := s4.setGen g' .finished) rfl rfl (allBare_setGen hbb rfl)).kept hk
      exact wpAny_execs_nil ⟨σ3, H3, I5, qn⟩
  · have hi' : i < N := go
    obtain ⟨m, hm⟩ : ∃ m, N - i = m + 1 := ⟨N - i - 1, by omega⟩
    rw [hm] at hgo
    refine wpAny_passesOwn hp (GenW.wpAny_gsz (n := g' + 1) hlt (next_genG (Er := fun _ _ => False) (I3.ok.hd hc) I3.nolimit hd Z3.gen hgs (hgo _ w3') (fun v s4 gs' hbare hy => ?_) (fun s4 hF h' hk => ?_) fun _ _ z => z.elim))
    rotate_left
    · exact absurd hF.1 (by omega)
    · intro hsz
      obtain ⟨x, Hn, fp', rx, ho, hbb, un, hok, vy, hfp, inA, inL, hk⟩ := hy
      have hsz4 : g' < s4.gens.size := by
        have q : (s4.setGen g' gs').gens.size = s4.gens.size := setGen_sz
        rw [q] at hsz; omega
      have I4 : Inv X pins σ3 (mrg H3 Hn) s4 := back ho hbb un hok
      have I4p : Inv X (pins ++ fp') σ3 (mrg H3 Hn) (s4.setGen g' gs') := by
        refine Inv.regen (I4.pins_of fun p hpp => ?_) rfl rfl (allBare_setGen hbb hbare)
        rcases List.mem_append.mp hpp with z | z
        · exact I4.pin p (List.mem_append_right _ z)
        · obtain ⟨q1, q2, q3, q4⟩ := hfp p z
          refine ⟨q1, ?_, ?_, ?_, q4⟩
          · rw [mrg_old q2]
            rcases q3 with e | e | e
            · rw [e]; exact pa.2.1
            · rw [e]; exact pL.2.1
            · exact Inv.none_of I3u e
          · rcases q3 with e | e | e
            · rw [e]; exact pa.2.2.1
            · rw [e]; exact pL.2.2.1
            · rintro e'
              obtain ⟨m, ⟨o, _, _, ho', _⟩, _⟩ := I3.loc
              rw [← e'] at ho'
              rw [show s3.heap.get? p.1 = none from e] at ho'; cases ho'
          · rcases q3 with e | e | e
            · rw [e]; exact pa.2.2.2.1
            · rw [e]; exact pL.2.2.2.1
            · intro hm
              obtain ⟨_, o, ho', _⟩ := I3.funs.mem hm
              rw [show s3.heap.get? p.1 = none from e] at ho'; cases ho'
      have hisS : isS gs' = true := by
        cases gs' with
        | suspended => rfl
        | fresh c =>
          have := (hk _ (.bool true) (.inr rfl) ⟨pins, σ3, _, I4p⟩).1
          cases this
        | running => exact (hk _ .none (.inl rfl) ⟨pins, σ3, _, I4p⟩).elim
        | finished => exact (hk _ .none (.inl rfl) ⟨pins, σ3, _, I4p⟩).elim
      -- the generator's object is as it was
      obtain ⟨og, nm, qn, hog, gc, gd, gsl⟩ := id Z3.gen
      have e4 : (s4.setGen g' gs').heap.get? a = some og := un.keep a og hog rfl naS (by simp [Z3.ne])
      obtain ⟨oa', hoa'⟩ := inA
      have eqo : oa' = og := by
        have := (I4p.pin (a, oa') (List.mem_append_right _ (List.mem_append_right _ hoa'))).1
        rw [e4] at this
        exact (Option.some.inj this).symm
      subst eqo
      have hgs4 : (s4.setGen g' gs').gens[g']? = some gs' := setGen_at hsz4
      have asleep : ∀ {s5 : Shared} {σ5 : L2.St} {H5 : Hp}, Inv X (pins ++ fp') σ5 H5 s5 → s5.gens[g']? = some gs' → Asleep X pins Vy m a g' L fp' s5 := fun {s5 σ5 H5} I5 h5 =>
        ⟨⟨oa', nm, qn, (I5.pin (a, oa') (List.mem_append_right _ (List.mem_append_right _ hoa'))).1, gc, gd, gsl⟩, ⟨oa', hoa'⟩, inL, Z3.ne, Z3.tok, gs', h5, fun s'' hw => hk s'' .none (.inl rfl) hw⟩
      refine go_of (s := s4.setGen g' gs') e4 gc gd (by decide) ?_
      have vy' : Vy (N - 1 - i) x Hn := by
        have e : N - 1 - i = m + 1 - 1 := by omega
        rw [e]; exact vy
      have fresh : ∀ b u, Hn b = some u → H3 b = none := fun b u e => by
        cases q : H3 b with
        | none => rfl
        | some u' =>
          exfalso
          obtain ⟨o, ho'⟩ := ok_there (I3.hok b u' q)
          by_cases hbL : b = L
          · rw [hbL, pL.2.1] at q; cases q
          · have := un.free b o ho' rfl (by simp [hbL])
            rw [this] at e; cases e
      have q4 := step x (mrg H3 Hn) ⟨Hn, vy', rfl, fresh⟩
      -- the target
      have I4d : Inv X (pins ++ fp') σ3 (mrg H3 Hn) (dulled (s4.setGen g' gs')) := Inv.regen I4p rfl rfl (bare_dulled I4p.bare)
      refine wpAny_mono (wpAny_asleep (hg.run _ _ σ3 _ x v _ I4d rx q4)) (fun _ s6 h6 => ?_) fun e s6 ⟨t, _, z⟩ => (hxe e t z).elim
      obtain ⟨t6, r6, σ6, H6, J6, q6⟩ := h6
      have I6 : Inv X (pins ++ fp') σ6 H6 s6 := Inv.regen J6 r6.heap r6.os (r6.bare I4p.bare J6.bare)
      have hgs6 : s6.gens[g']? = some gs' := (r6.slp g' gs' hgs4 hisS).1
      -- the body
      have I6d : Inv X (pins ++ fp') σ6 H6 (dulled s6) := Inv.regen I6 rfl rfl (bare_dulled I6.bare)
      refine wpAny_mono (wpAny_asleep (hb.run _ _ σ6 H6 _ I6d q6)) (fun f s7 h7 => ?_) fun e s6 ⟨t, _, z⟩ => (hxe e t z).elim
      obtain ⟨t7, r7, q7⟩ := h7
      have hgs7 : s7.gens[g']? = some gs' := (r7.slp g' gs' hgs6 hisS).1
      have again : ∀ {σ7 : L2.St} {H7 : Hp}, Inv X (pins ++ fp') σ7 H7 t7 → M σ7 H7 → ∃ m', m' < n ∧ ∃ i σ' H' fp', i ≤ N ∧ Inv X (pins ++ fp') σ' H' s7 ∧ Asleep X pins Vy (N - i) a g' L fp' s7 ∧ W i m' σ' H' := fun {σ7 H7} J7 n7 => by
        obtain ⟨m', hm', w7⟩ := hM σ7 H7 n7
        have I7 : Inv X (pins ++ fp') σ7 H7 s7 := Inv.regen J7 r7.heap r7.os (r7.bare I6.bare J7.bare)
        refine ⟨m', hm', i + 1, σ7, H7, fp', hi', I7, ?_, w7⟩
        have e : N - (i + 1) = m := by omega
        rw [e]
        exact asleep I7 hgs7
      cases f with
      | next => obtain ⟨σ7, H7, J7, n7⟩ := q7; exact again J7 n7
      | cont => obtain ⟨σ7, H7, J7, n7⟩ := q7; exact again J7 n7
      | brk => obtain ⟨σ7, H7, J7, q7⟩ := q7; exact ⟨σ7, H7, (Inv.regen J7 r7.heap r7.os (r7.bare I6.bare J7.bare)).unpinned, q7⟩
      | ret v => obtain ⟨x7, σ7, H7, J7, r8, q7⟩ := q7; exact ⟨x7, σ7, H7, (Inv.regen J7 r7.heap r7.os (r7.bare I6.bare J7.bare)).unpinned, r8, q7⟩
end
end Jg
namespace Jc
open PySem PySem.Spec L2
open PyProof.Rows hiding St
/-- a comprehension without a test, its elements flat values told by R -/
theorem lc_flat {J : It} {n : Nat} {G : Hp → Prop} {Y : Nat → Hp → V → Hp → Prop} (w : Walk J n G Y) {g : TG} {te : TE} {vs : List Nat} {σ : L2.St} {H1 : Hp} {D : Addr} {Qd : Hp → Prop} (R : Nat → V → Prop) (hn : n < 1000000) (hD : H1 D = none)
    (hG : ∀ H2, Same H1 H2 → G H2)
    (hs : ∀ i x H H2 (k : V → Hp → Prop), i < n → Same H1 H → Y i H x H2 → (∀ y H4, Same H H4 → R i y → k y H4) → g x (wipe σ vs) H2 fun σ2 H3 => wipe σ2 vs = wipe σ vs ∧ te σ2 H3 k)
    (hd : ∀ ys H2, ys.length = n → (∀ i y, ys[i]? = some y → R i y) → Same H1 H2 → H2 D = some (.lst ys) → Qd H2) :
    ∃ W : Nat → Nat → Hp → Prop, (∃ m, W 0 m (upd H1 D (.lst []))) ∧ ∀ i m H, W i m H →
      (J.stop i H ∧ Qd H) ∨ (J.go i H ∧ ∃ Nx : Hp → Prop, (∀ H', Nx H' → ∃ m', m' < m ∧ W (i + 1) m' H') ∧ ∀ x H', J.yld i H x H' → g x (wipe σ vs) H' fun σ2 H2 => wipe σ2 vs = wipe σ vs ∧ tYes σ2 H2 fun b H3 =>
        if b = true then te σ2 H3 fun y H4 => ∃ acc, H4 D = some (.lst acc) ∧ acc.length < sizeLine ∧ Nx (upd H4 D (.lst (acc ++ [y]))) else Nx H3) := by
  refine lc_it w (fun i H => Same H1 H ∧ ∃ ys : List V, ys.length = i ∧ (∀ j y, ys[j]? = some y → R j y) ∧ H D = some (.lst ys)) ⟨same_new hD, [], rfl, fun j y e => by simp at e, upd_same⟩ (fun i H _ p => hG H p.1) ?_ ?_
  · rintro i x H H2 hi ⟨s1, ys, hl, hR, hy⟩ y
    refine hs i x H H2 _ hi s1 y fun z H4 s4 r => ⟨ys, s4 _ _ hy, Nat.lt_of_lt_of_le (show ys.length < 1000000 by omega) (by rw [sizeLine_eq]; decide), same_mut (s1.trans s4) hD, ys ++ [z], by rw [List.length_append, hl]; rfl, fun j u e => ?_, upd_same⟩
    by_cases hj : j < ys.length
    · rw [List.getElem?_append_left hj] at e
      exact hR j u e
    · have hj2 : j = ys.length := by
        have := (List.getElem?_eq_some_iff.mp e).1
        rw [List.length_append] at this
        simp at this
        omega
      subst hj2
      rw [List.getElem?_append_right (Nat.le_refl _)] at e
      simp at e
      subst e
      rw [hl]
      exact r
  · rintro H ⟨s1, ys, hl, hR, hy⟩
    exact hd ys H hl hR s1 hy
theorem all_eq {α : Type} {xs ys : List α} (hl : xs.length = ys.length) (h : ∀ (i : Nat) x y, xs[i]? = some x → ys[i]? = some y → x = y) : xs = ys := by
  refine List.ext_getElem? fun i => ?_
  by_cases hi : i < xs.length
  · rw [List.getElem?_eq_getElem hi, List.getElem?_eq_getElem (hl ▸ hi)]
    exact congrArg some (h i _ _ (List.getElem?_eq_getElem hi) (List.getElem?_eq_getElem (hl ▸ hi)))
  · rw [List.getElem?_eq_none (by omega), List.getElem?_eq_none (by omega)]
end Jc
namespace Jc
open PySem PySem.Spec L2
open PyProof.Rows hiding St
/-! ### defs and methods as their callers see them, whatever is under way -/
structure OwnK (P : Program) (w : World) (K : PySem.W.Frag) (mg : Str → Option Value) (base : Heap) (x : Str) (k : Nat) (ps : List Str) (sp : Sp) : Prop where
  ex : ∃ (f : Addr) (fd : FuncData), FnOk P w K mg base CX0 k f fd ps sp ∧ mg x = some (.ref f) ∧ PySem.W.keepIn K (.ref f) = true ∧ Binds K fd ps []
structure OwnM (P : Program) (w : World) (K : PySem.W.Frag) (mg : Str → Option Value) (base : Heap) (C : Addr) (m : Str) (k : Nat) (sp : Sp) : Prop where
  ex : ∃ f : Addr, Meth K C m f ∧ FnR P w K mg base CX0 k f sp
structure OwnM0 (P : Program) (w : World) (K : PySem.W.Frag) (mg : Str → Option Value) (base : Heap) (C : Addr) (m : Str) (k : Nat) (sp : Sp) : Prop where
  ex : ∃ (f : Addr) (fd : FuncData), Meth K C m f ∧ FnOk P w K mg base CX0 k f fd ["self"] sp ∧ Binds K fd ["self"] []
structure OwnI (P : Program) (w : World) (K : PySem.W.Frag) (mg : Str → Option Value) (base : Heap) (C : Addr) (k : Nat) (sp : Sp) : Prop where
  ex : ∃ f : Addr, Mk K C f ∧ FnR P w K mg base CX0 k f sp
structure PC (K : PySem.W.Frag) (mg : Str → Option Value) (C : Addr) : Prop where
  cl : Cls K C
  na : NoAttr K C "_classes"
  mc : mg "Partition" = some (.ref C)
section
variable {X : Cx} {k j : Nat} {C : Addr} {x m : Str} {ps : List Str} {sp : Sp} {p pos apos : Pos} {e o : Expr} {es : List Expr} {t : TA} {ta : TE}
theorem pe_ownk (c : OwnK X.prog X.w X.K X.mg X.base x k ps sp) (hr : Room j X.A) (hj : k ≤ j) (ha : PA X (e :: es) t) (hg : Gl X x := by rfl) (hdb : (x == ("__debug__" : Str)) = false := by decide)
    (he : starEach (e :: es) X.env = (false, eval e X.env) :: starEach es X.env := by rfl) (hpl : (backTo pos (starEach es X.env)).any (·.1) = false := by rfl) : PE X (.Call (.Name x p) (e :: es) [] pos) (tOwn sp t) := by
  obtain ⟨f, fd, F, hm, hk, hb⟩ := c.ex
  have h := pe_call F (hr.mono hj) hg hm hk hb .nil (pass0 (X := X)) ha (p := p) (pos := pos) hdb he hpl
  refine ⟨fun pins s σ H Q I q => h.run pins s σ H Q I ?_⟩
  have e2 : (fun (vs : List V) (H1 : Hp) => sp (vs ++ []) H1 Q E0) = fun vs H1 => sp vs H1 Q E0 := by
    funext vs H1
    rw [List.append_nil]
  show t σ H (fun (vs : List V) (H1 : Hp) => sp (vs ++ []) H1 Q E0)
  rw [e2]
  exact q
theorem pe_om {pl : Sem Bool} (he : PE X o ta) (c : Cls X.K C) (h : OwnM X.prog X.w X.K X.mg X.base C m k sp) (hr : Room j X.A) (hj : k ≤ j) (ha : PA X (e :: es) t)
    (hst : starEach (e :: es) X.env = (false, eval e X.env) :: starEach es X.env := by rfl) (hpl : (backTo pos (starEach es X.env)).any (·.1) = false := by rfl)
    (ht : eval (.Call (.Attribute o m apos) (e :: es) [] pos) X.env =
      (eval o X.env >>= fun ov => standAt apos.atName >>= fun _ => holding [ov] (getMethod ov m pl) >>= fun r => callWith pos r.1 r.2 (backTo pos (starEach (e :: es) X.env)) (backToKw pos (keywordEach [] X.env))) := by rfl) :
    PE X (.Call (.Attribute o m apos) (e :: es) [] pos) (tMethR C m sp E0 ta t) := by
  obtain ⟨f, hm, F⟩ := h.ex
  exact pe_methR (pl := pl) he c hm F (hr.mono hj) pass0 ha hst hpl ht
theorem pe_om0 {pl : Sem Bool} (he : PE X o ta) (c : Cls X.K C) (h : OwnM0 X.prog X.w X.K X.mg X.base C m k sp) (hr : Room j X.A) (hj : k ≤ j)
    (ht : eval (.Call (.Attribute o m apos) [] [] pos) X.env =
      (eval o X.env >>= fun ov => standAt apos.atName >>= fun _ => holding [ov] (getMethod ov m pl) >>= fun r => callWith pos r.1 r.2 (backTo pos (starEach [] X.env)) (backToKw pos (keywordEach [] X.env))) := by rfl) :
    PE X (.Call (.Attribute o m apos) [] [] pos) (tMeth C m sp [] E0 ta tNil) := by
  obtain ⟨f, fd, hm, F, hb⟩ := h.ex
  exact pe_meth0 (pl := pl) he c hm F (hr.mono hj) hb .nil pass0 ht
theorem pe_oi (M : OwnI X.prog X.w X.K X.mg X.base C k sp) (hr : Room j X.A) (hj : k + 1 ≤ j) (hm : X.mg x = some (.ref C)) (ha : PA X (e :: es) t) (hg : Gl X x := by rfl) (hdb : (x == ("__debug__" : Str)) = false := by decide)
    (he : starEach (e :: es) X.env = (false, eval e X.env) :: starEach es X.env := by rfl) (hpl : (backTo pos (starEach es X.env)).any (·.1) = false := by rfl) : PE X (.Call (.Name x p) (e :: es) [] pos) (StX.tMakeR C sp E0 t) := by
  obtain ⟨f, hM, F⟩ := M.ex
  exact StX.pe_makeR hM F (hr.mono hj) hg hm pass0 ha hdb he hpl
end
end Jc
namespace Jc
open PySem PySem.Spec L2
open PyProof.Rows hiding St
/-! ### max of a tuple of ints -/
def rMaxT (K : PySem.W.Frag) : List V → Hp → VK → Prop := fun vs H Q => ∃ (a : Addr) (ns : List Int), vs = [V.ref a] ∧ SqT K H a (ns.map V.int) ∧ 0 < ns.length ∧ ∀ m, m ∈ ns → (∀ y, y ∈ ns → y ≤ m) → Q (.int m) H
section
variable {P : Program} {w : World} {A : Around} {E : Value → Shared → Prop} {s : Shared} {l : Addr}
theorem maxT_raw {its : List Value} {ns : List Int} {Q : Value → Shared → Prop} (hh : A.handled = none) (hl : s.heap.IsTuple l its.toArray) (hi : IntsAre its ns) (hne : 0 < ns.length)
    (h : ∀ h' tk M t', (∀ b o, s.heap.get? b = some o → h'.get? b = some o) → M ∈ ns → (∀ a, a ∈ ns → a ≤ M) → Q (.int M t') { s with heap := h', toks := tk }) : wpAny (model P w) A (call (.builtin "max") [.ref l]) Q E s := by
  obtain ⟨xs, e⟩ := hi.allInts.items
  have hn : numsOf (intItems xs).toList = ns := by rw [← e]; exact hi.numsOf
  rw [nums_intItems] at hn
  subst hn
  rw [e] at hl
  have h0 : 0 < xs.size := by simpa using hne
  have hlt : l < s.heap.objs.size := by
    obtain ⟨_, z, _⟩ := hl
    exact Heap.lt_size z
  refine call_max_walk (wpAny_pyIter_tuple hl ⟨s.heap.objs.size, [s.heap.objs.size, l], [s.heap.objs.size], (intItems xs).size, _, _, _, rfl, Walks.tuple (A := A.in1) hh _ l (Nat.ne_of_lt hlt) (intItems xs), ⟨⟨_, Heap.get?_push_size _ rfl, rfl, rfl⟩, hl.push _⟩, ?_, by simpa [intItems] using h0, CmpOf.ints_gt (numAt xs) (fun _ _ => intItems_at), fun v h' tk hP hk => ?_⟩)
  · intro b hb
    show b < (s.heap.push _).objs.size
    rw [Heap.size_push]
    simp only [List.mem_cons, List.not_mem_nil, or_false] at hb
    rcases hb with z | z
    · rw [z]; exact Nat.lt_succ_self _
    · rw [z]; exact Nat.lt_succ_of_lt hlt
  · have hv : (intItems xs)[argBest (fun i j => decide (numAt xs i > numAt xs j)) (xs.size - 1)]? = some v := by simpa [intItems] using hP
    obtain ⟨t, rfl⟩ := intItems_at hv
    obtain ⟨h1, h2⟩ := argBest_gt (numAt xs) (xs.size - 1)
    refine h h' tk _ t (fun b o z => hk b o (fun hm => ?_) (Heap.get?_push_of_some _ z)) ?_ fun a ha => ?_
    · rw [List.mem_singleton.mp hm] at z
      exact absurd (Heap.lt_size z) (Nat.lt_irrefl _)
    · rw [numAt_eq]
      exact PySem.getD_mem (by rw [List.length_map, Array.length_toList]; omega)
    · obtain ⟨j, hj, rfl⟩ := mem_getD ha
      rw [List.length_map, Array.length_toList] at hj
      rw [← numAt_eq]
      exact h2 j (by omega)
end
theorem cr_maxT {X : Cx} (hc : X.calm = true) : CallR X (.builtin "max") (rMaxT X.K) := by
  intro pins s σ H vs us Q I r h
  obtain ⟨a, ns, rfl, hs, hne, q⟩ := h
  obtain ⟨its, rv, hl, _⟩ := I.tuple hs
  rw [Vals.ref1 r]
  exact maxT_raw (I.ok.hd hc) (show s.heap.IsTuple a its.toArray from hl) rv.ints hne fun h' tk m t' hk h1 h2 => ⟨.int _, H, I.kept hk, ⟨_, rfl⟩, q m h1 h2⟩
/-! ### enumerate(tuple) -/
def Ent (K : PySem.W.Frag) (a : Addr) : It :=
  ⟨fun i H => ∃ xs x, SqT K H a xs ∧ xs[i]? = some x, fun i H v H' => ∃ T x, v = .ref T ∧ H T = none ∧ H' = upd H T (.tup [.int (i : Nat), x]) ∧ ∀ xs, SqT K H a xs → xs[i]? = some x, fun i H => ∃ xs, SqT K H a xs ∧ xs.length = i⟩
theorem turn_ent {P : Program} {w : World} {K : PySem.W.Frag} {elts : List Expr} {kk : Nat} {tpos : Pos} (a e it : Addr) (hai : a ≠ it) (hae : a ≠ e) :
    Turn P w K (.Tuple elts kk tpos) (Ent K a) [e, it] e (fun i h => (∃ old, IsEnum h e it ((i : Nat) : Int) old) ∧ h.IsTupleIter it a i ∧ e ≠ it) where
  mem := List.mem_cons_self
  obj := fun i h st b hb => by
    obtain ⟨⟨old, he⟩, ⟨o, ho, hc, hd⟩, _⟩ := st
    rcases List.mem_cons.mp hb with z | z
    · rw [z]; exact ⟨_, he, fun v q => nomatch q⟩
    · rw [List.mem_singleton.mp z]; exact ⟨o, ho, fun v q => by rw [hd] at q; cases q⟩
  keep := fun i h h' st k => by
    obtain ⟨⟨old, he⟩, hi, hne⟩ := st
    exact ⟨⟨old, k e List.mem_cons_self _ he⟩, hi.at fun o q => k it (by simp) o q, hne⟩
  item := by
    intro X hP hw hK hc i pins s σ H E I hf st hg
    subst hP hw hK
    obtain ⟨⟨old, he⟩, hit, hne⟩ := st
    obtain ⟨xs, x, hq, hx⟩ := hg
    obtain ⟨its, rv, p, hz⟩ := I.tuple hq
    obtain ⟨u, hu, ru⟩ := rv.get hx
    have hel : e < s.heap.objs.size := Heap.lt_size he
    have hil : it < s.heap.objs.size := by obtain ⟨_, q, _⟩ := hit; exact Heap.lt_size q
    have hd : X.A.in1.handled = none := I.ok.hd hc
    have hib : i < its.toArray.size := by
      have := (List.getElem?_eq_some_iff.mp hu).1
      simpa using this
    refine wpAny_pyNext_enum_itemD (Draws.tuple hd it a hai its.toArray) he ⟨hit, p⟩ hib hne (by simp [hne, Ne.symm hae]) fun v h' tk hv ho st' hT hsz hk => ?_
    have ev : v = u := by
      have z : its.toArray[i]? = some v := hv
      rw [List.getElem?_toArray, hu] at z
      exact (Option.some.inj z).symm
    subst ev
    refine ⟨_, rfl, wpAny_letOwnedTupleGo_enum (s := { s with heap := h', toks := tk + 1 }) ho fun h'' he' sb => ?_⟩
    have hT2 : h''.get? s.heap.objs.size = some { cls := .type "tuple", data := .seq #[.int i tk, v] } := (sb.2 _ (Nat.ne_of_gt hel)).trans hT
    have new : ObjOk X.prog X.w (upd H s.heap.objs.size (.tup [.int (i : Nat), x])) h'' s.heap.objs.size (.tup [.int (i : Nat), x]) := ⟨two_le, [.int i tk, v], .cons ⟨_, rfl⟩ (.cons ru .nil), ⟨_, hT2, rfl, _, rfl⟩⟩
    have I1 : Inv X pins σ (upd H s.heap.objs.size (.tup [.int (i : Nat), x])) { s with heap := h'', toks := tk + 1 } :=
      I.turnedNew (ch := [e, it]) (fun b ob hb q => by
        have n1 : b ≠ e := fun z => hb (by simp [z])
        have n2 : b ≠ it := fun z => hb (by simp [z])
        exact (sb.2 b n1).trans (hk b ob n1 n2 q)) hf (Nat.le_refl _) new
    refine ⟨.ref s.heap.objs.size, _, I1, rfl, ⟨_, x, rfl, I.hok.fresh (Nat.le_refl _), rfl, fun ys hy => by rw [I.tuple_inj hy hq]; exact hx⟩, ⟨⟨v, ?_⟩, st'.1.at fun o q => (sb.2 it (Ne.symm hne)).trans q, hne⟩, fun b hb => ?_⟩
    · have e1 : ((i + 1 : Nat) : Int) = (i : Int) + 1 := by omega
      rw [e1]
      exact he'
    · have hb' : b < s.heap.objs.size := by
        rcases List.mem_cons.mp hb with z | z
        · rw [z]; exact hel
        · rw [List.mem_singleton.mp z]; exact hil
      rw [upd_ne (Nat.ne_of_lt hb')]
      exact (hf b hb).1
  done := by
    intro X hP hw hK hc i pins s σ H E I hf st hg
    subst hP hw hK
    obtain ⟨⟨old, he⟩, hit, hne⟩ := st
    obtain ⟨xs, hq, hx⟩ := hg
    obtain ⟨its, rv, p, hz⟩ := I.tuple hq
    obtain ⟨f0, f1, f2, f3, f4, f5⟩ := hf it (by simp)
    have hl := rv.length
    have hd : X.A.in1.handled = none := I.ok.hd hc
    have hn : its.toArray.size = i := by rw [List.size_toArray]; omega
    refine wpAny_pyNext_enum_endD (Draws.tuple hd it a hai its.toArray) he ⟨by rw [hn]; exact hit, p⟩ fun h' eb => ⟨rfl, I.turned (t' := s.toks) (fun b o hb q => eb b o hb q) f0 f1 f3 f4 f5⟩
  self := fun A i s Q E st h => by
    obtain ⟨⟨_, he⟩, _⟩ := st
    exact wpAny_pyIter_enum he h
def iEnt (K : PySem.W.Frag) (ta : TA) : TI := fun σ H R => ta σ H fun vs H1 => ∃ a xs, vs = [.ref a] ∧ SqT K H1 a xs ∧ R (Ent K a) H1
set_option maxHeartbeats 8000000 in
theorem meets_enew {v : Value} {o : Obj} {G : Heap → Prop} (B : Begins v o G) : Meets (Builtin.«enumerate.__new__» ⟨[.type "enumerate", v], []⟩) (fun _ R s => G s.heap ∧
      R (.ok (.ret (.ref (s.heap.push o).objs.size))) { s with heap := (s.heap.push o).push { cls := .type "enumerate", data := .fields #[.none, .bool false, .ref s.heap.objs.size, rawInt 0, .none, .none] } }) :=
  .of_wp fun P w A R s h => by
    obtain ⟨hp, g, d, tk, os⟩ := s
    obtain ⟨h1, h⟩ := h
    have hsub := sub_enumerate
    have st : ∀ {A' : Around} {E : Value → Shared → Prop} {Q : Value → Shared → Prop}, Q (.ref hp.objs.size) ⟨hp.push o, g, d, tk, os⟩ → wpAny (model P w) A' (pyIter v) Q E ⟨hp, g, d, tk, os⟩ := fun q => B.iter P w _ _ _ _ h1 q
    wp_walk using st
    refine wpAny_stack_any fun z => wpAny_pure ?_
    split
    · rename_i c _ _ _ _ _
      cases (c == Value.type "enumerate") <;>
      · wp_walk using st
        exact ⟨_, rfl, h⟩
    · wp_walk using st
      exact ⟨_, rfl, h⟩
theorem pi_ent {X : Cx} {e : Expr} {ta : TA} {p pos tpos : Pos} {elts : List Expr} {kk : Nat} (hg : Gl X "enumerate") (hm : X.mg "enumerate" = none) (ha : PA X [e] ta) (hs : starEach [e] X.env = [(false, eval e X.env)] := by rfl) :
    PI X (.Tuple elts kk tpos) (.Call (.Name "enumerate" p) [e] [] pos) (iEnt X.K ta) := by
  refine ⟨fun pins s σ H R I h => ?_⟩
  refine Call_ (ld_blt I hg hm boot_enumerate (PyProof.Rows.callWith_type1 (thn (ha.run pos pins s σ H _ I h) fun us s1 ⟨vs, H1, I1, r1, q1⟩ => ?_) hs rfl))
  obtain ⟨a, xs, ex, hq, q⟩ := q1
  subst ex
  obtain ⟨its, rv, p', hz⟩ := I1.tuple hq
  rw [Vals.ref1 r1]
  have hlt : a < s1.heap.objs.size := by
    obtain ⟨_, z, _⟩ := (show s1.heap.IsTuple a its.toArray from p')
    exact Heap.lt_size z
  refine callType_new F.called_enumerate (by decide) (F.typeCall_enumerate_1 _) (F.newCall_enumerate_1 _) (fun obj => F.args_object_init_2 obj _) F.entry_enumerate_new (meets_enew (begins_tuple a its.toArray)) ⟨p', ?_⟩
  generalize ho : ({ cls := .type "tuple_iterator", data := .fields #[.ref a, .int 0 0] } : Obj) = o
  have hz1 : (s1.heap.push o).objs.size = s1.heap.objs.size + 1 := Heap.size_push ..
  show _ ∧ _
  have he : IsEnum ((s1.heap.push o).push { cls := .type "enumerate", data := .fields #[.none, .bool false, .ref s1.heap.objs.size, rawInt 0, .none, .none] }) (s1.heap.push o).objs.size s1.heap.objs.size 0 .none := Heap.get?_push_size _ rfl
  refine ⟨⟨_, he, rfl⟩, wpAny_pyIter_enum he ?_⟩
  refine ⟨(s1.heap.push o).objs.size, [(s1.heap.push o).objs.size, s1.heap.objs.size], _, _, H1, rfl, I1.kept (t' := s1.toks) fun b u z => Heap.get?_push_of_some _ (Heap.get?_push_of_some _ z), turn_ent a (s1.heap.push o).objs.size s1.heap.objs.size (Nat.ne_of_lt hlt) (by rw [hz1]; exact Nat.ne_of_lt (Nat.lt_succ_of_lt hlt)),
    ⟨⟨.none, he⟩, ⟨o, Heap.get?_push_of_some _ (Heap.get?_push_size _ (by subst ho; rfl)), by subst ho; rfl, by subst ho; rfl⟩, by rw [hz1]; exact Nat.succ_ne_self _⟩, fun b hb => ?_, q⟩
  have hle : s1.heap.objs.size ≤ b := by
    rcases List.mem_cons.mp hb with z | z
    · rw [z, hz1]; exact Nat.le_succ _
    · rw [List.mem_singleton.mp z]; exact Nat.le_refl _
  exact I1.fpOk hle (I1.hok.fresh hle)
section
variable {K : PySem.W.Frag} {a : Addr} {xs : List V}
theorem walk_ent : Walk (Ent K a) xs.length (fun H => SqT K H a xs) (YPair (fun i => some (.int (i : Nat))) (fun i => xs[i]?)) := by
  refine ⟨fun i _ hi q => ⟨xs, xs[i], q, by simp [hi]⟩, fun _ q => ⟨xs, q, rfl⟩, fun i H v H' _ q y => ?_⟩
  obtain ⟨T, x, h1, h2, h3, h4⟩ := y
  exact ⟨T, .int (i : Nat), x, h1, h2, h3, rfl, h4 xs q⟩
end
end Jc
namespace Jc
open PySem PySem.Spec L2
open PyProof.Rows hiding St
/-! ### set(list of ints) -/
abbrev empt (w : World) : Obj := { cls := .type "set", dict := none, data := .set #[] 0 (.fresh 0 0 (!w.params.followText "set-order")) }
section
variable {P : Program} {w : World} {A : Around} {E : Value → Shared → Prop} {s : Shared}
theorem set_list_raw {l : Addr} {items : Array Value} (ns : List Int) {Q : Value → Shared → Prop} (hh : A.handled = none) (hl : s.heap.IsList l items) (hit : IntsAre items.toList ns) (hb : ns.length + 1 < scanBound)
    (h : ∀ (h' : Heap) (tk c : Nat), SetR w h' s.heap.objs.size (fun j => decide (j ∈ ns)) c → c ≤ ns.length → (∀ b o, s.heap.get? b = some o → h'.get? b = some o) → Q (.ref s.heap.objs.size) { s with heap := h', toks := tk }) : wpAny (model P w) A (call (.type "set") [.ref l]) Q E s := by
  have sz : items.size = ns.length := by
    have z := hit.length
    rwa [Array.length_toList] at z
  obtain ⟨c, tl, m0⟩ := F.called_set.mro
  have m1 := F.called_set.made
  have m2 := F.called_set.sub
  refine wpAny_call (codeAny_of_tree ?_)
  show wpAny _ _ (callAny (.type "set") _) _ _ _
  refine wpAny_pure ⟨Code.quiet_builtin _ (by decide +kernel), codeAny_builtin F.entry_type_call ?_⟩
  rw [Around.under_plain (weight_type_call_type "set" [.ref l] []) rfl]
  have m3 := F.called_set.notType
  have m4 := F.called_set.canCreate
  have m5 := F.typeCall_set_1 (.ref l)
  repeat (any_goals (first | assumption | wp_step))

  refine codeAny_mono (code_set_led1 (.ref l) (E := E) (Q₁ := fun b t => b = .ref s.heap.objs.size ∧ t = { s with heap := s.heap.push (empt w) }) ⟨rfl, rfl⟩) fun r s1 hr => ?_
  match r, hr with
  | .error e, hr => exact hr
  | .ok .next, hr => exact hr.elim
  | .ok .brk, hr => exact hr.elim
  | .ok .cont, hr => exact hr.elim
  | .ok (.ret obj), hr =>
    obtain ⟨rfl, rfl⟩ := hr
    have g0 : (s.heap.push (empt w)).get? s.heap.objs.size = some (empt w) := Heap.get?_push_size _ rfl
    have g1 : Shared.TypeIs { s with heap := s.heap.push (empt w) } (.ref s.heap.objs.size) "set" := ⟨_, g0, rfl⟩
    have m6 := F.called_set.init.lookup
    have m7 := F.called_set.init.bind (.ref s.heap.objs.size)
    repeat (any_goals (first | assumption | wp_step))

    refine codeAny_mono (codeAny_call_builtin (R := wants (fun r t => r = .none ∧ ∃ h' tk c, t = { s with heap := h', toks := tk } ∧ SetR w h' s.heap.objs.size (fun j => decide (j ∈ ns)) c ∧ c ≤ ns.length ∧ (∀ b o, s.heap.get? b = some o → h'.get? b = some o)) E) F.called_set.init.plain F.entry_set_init (check_set_init_1 g1 ?_)) fun r2 s2 h2 => ?_
    · obtain ⟨⟨ocls, odict, odata, oslots⟩, hol, hcl, nl, hdl⟩ := hl
      replace hcl : ocls = .type "list" := hcl
      replace hdl : odata = .seq items nl := hdl
      subst hcl hdl
      have hol' : (s.heap.push (empt w)).get? l = some { cls := .type "list", dict := odict, data := .seq items nl, slots := oslots } := Heap.get?_push_of_some _ hol
      have m8 := F.sub_list_set
      have m9 := F.sub_list_frozenset
      have hne : (Value.type "list" == Value.type "dict") = false := by decide
      have hl1 : (s.heap.push (empt w)).IsList l items := ⟨_, hol', rfl, nl, rfl⟩
      unfold Builtin.«set.__init__» noKeywords Builtin.Frozenset.updateFrom
      generalize hPI : pyIter = PI
      wp_walk
      subst hPI

      refine wpAny_pyIter_list hl1 ?_
      refine wpAny_bind (wpAny_runValue ?_)
      have lS : l < s.heap.objs.size := Heap.lt_size hol
      have hq : A.in1.in1.in1.handled = none := by simp [hh]
      have z1 : (s.heap.push (empt w)).objs.size = s.heap.objs.size + 1 := Heap.size_push ..
      have nI : l ≠ (s.heap.push (empt w)).objs.size := by
        rw [z1]
        exact Nat.ne_of_lt (Nat.lt_succ_of_lt lS)
      have nS : s.heap.objs.size ∉ [(s.heap.push (empt w)).objs.size, l] := by
        rw [z1]
        intro hm
        rcases List.mem_cons.mp hm with y | y
        · exact absurd y (Nat.ne_of_lt (Nat.lt_succ_self _))
        · exact absurd (List.mem_singleton.mp y) (Nat.ne_of_gt lS)
      have val : ∀ (i : Nat) (v : Value), items[i]? = some v → ∃ k t, ns[i]? = some k ∧ v = .int k t := fun i v hv => by
        have hi : i < ns.length := sz ▸ (Array.getElem?_eq_some_iff.mp hv).1
        obtain ⟨t, e⟩ := hit.get i _ (List.getElem?_eq_getElem hi)
        rw [Array.getElem?_toList, hv] at e
        exact ⟨_, t, List.getElem?_eq_getElem hi, Option.some.inj e⟩
      refine set_update_ints ((Walks.list hq _ l nI items).toS) s.heap.objs.size nS ns sz hb val (items.size - 0) 0 _ (by omega) (Nat.zero_le _) ⟨⟨_, Heap.get?_push_size _ rfl, rfl, rfl⟩, (hl1.push _)⟩ ⟨0, Nat.le_refl 0, setR_new_at (Heap.get?_push_of_some _ g0)⟩ fun s' c' hm hc' hS' => ?_
      obtain ⟨h', g2, d', tk', os'⟩ := s'
      obtain rfl : g2 = s.gens := hm.gens
      obtain rfl : d' = s.drawn := hm.drawn
      obtain rfl : os' = s.os := hm.os
      refine wpAny_pure ?_
      show wpAny _ _ (ret Value.none) _ _ _
      refine wpAny_pure ⟨rfl, h', tk', c', rfl, hS', by omega, fun b o e => ?_⟩
      have b0 : b < s.heap.objs.size := Heap.lt_size e
      refine hm.heap b o (fun hx => ?_) (Heap.get?_push_of_some _ (Heap.get?_push_of_some _ e))
      rcases List.mem_cons.mp hx with y | y
      · exact absurd y (Nat.ne_of_lt b0)
      · have y2 := List.mem_singleton.mp y
        rw [z1] at y2
        exact absurd y2 (Nat.ne_of_lt (Nat.lt_succ_of_lt b0))

    · match r2, h2 with
      | .error e, h2 => exact h2
      | .ok .next, h2 => exact h2.elim
      | .ok .brk, h2 => exact h2.elim
      | .ok .cont, h2 => exact h2.elim
      | .ok (.ret r), h2 =>
        obtain ⟨rfl, h', tk, c', rfl, hS', hc', hk'⟩ := h2
        repeat (any_goals (first | assumption | wp_step))
        exact h _ _ _ hS' hc' hk'
end
def rSetL (w : World) (K : PySem.W.Frag) : List V → Hp → VK → Prop := fun xs H Q => ∃ (a : Addr) (ns : List Int), xs = [.ref a] ∧ SqL K H a (ns.map V.int) ∧ ns.length ≤ 1000 ∧ ∀ p c, H p = none → c ≤ ns.length → Q (.ref p) (upd H p (SetO w p (fun j => decide (j ∈ ns)) c))
theorem cr_setL {X : Cx} (hc : X.calm = true) : CallR X (.type "set") (rSetL X.w X.K) := by
  intro pins s σ H xs us Q I r h
  obtain ⟨a, ns, rfl, hs, hl, q⟩ := h
  obtain ⟨its, rv, pl, hz⟩ := I.list hs
  rw [Vals.ref1 r]
  refine set_list_raw (items := its.toArray) ns (I.ok.hd hc) pl.isList (by simpa using rv.ints) (by unfold scanBound; omega) fun h' tk c R hcn k => ?_
  exact ⟨.ref _, upd H s.heap.objs.size (SetO X.w s.heap.objs.size (fun j => decide (j ∈ ns)) c), I.laid (t' := tk) k (Nat.le_refl _) (setO_new R), rfl, q _ _ (I.hok.fresh (Nat.le_refl _)) hcn⟩
end Jc
namespace Jc
/-! numbering marks by first holders; -1 is gone -/
def toldF (acc : List Int) (m : Int) : List Int := if m ≠ -1 ∧ m ∉ acc then acc ++ [m] else acc
def told (ms : List Int) : List Int := ms.foldl toldF []
def numOf (ts : List Int) (m : Int) : Int := if m = -1 then -1 else (ts.idxOf m : Int)
def num (ms : List Int) : List Int := ms.map (numOf (told ms))
/-- pairs of marks of which both sides tell the same -/
def Kern (ps : List (Int × Int)) : Prop := ∀ p ∈ ps, ∀ q ∈ ps, (p.1 = q.1 ↔ p.2 = q.2) ∧ (p.1 = -1 ↔ p.2 = -1)
def toldP (acc : List (Int × Int)) (p : Int × Int) : List (Int × Int) := if p.1 ≠ -1 ∧ p.1 ∉ acc.map (·.1) then acc ++ [p] else acc
theorem toldP_sub : ∀ (ps acc all : List (Int × Int)), (∀ p ∈ acc, p ∈ all) → (∀ p ∈ ps, p ∈ all) → ∀ p ∈ ps.foldl toldP acc, p ∈ all
  | [], acc, all, h, _ => h
  | p :: r, acc, all, h, h2 => by
    refine toldP_sub r (toldP acc p) all (fun q hq => ?_) fun q hq => h2 q (List.mem_cons_of_mem _ hq)
    unfold toldP at hq
    split at hq
    · rcases List.mem_append.mp hq with hq | hq
      · exact h q hq
      · rw [List.mem_singleton.mp hq]
        exact h2 p List.mem_cons_self
    · exact h q hq
theorem toldP_fst : ∀ (ps acc : List (Int × Int)), (ps.foldl toldP acc).map (·.1) = (ps.map (·.1)).foldl toldF (acc.map (·.1))
  | [], acc => rfl
  | p :: r, acc => by
    show (r.foldl toldP (toldP acc p)).map (·.1) = (r.map (·.1)).foldl toldF (toldF (acc.map (·.1)) p.1)
    rw [toldP_fst r]
    congr 1
    unfold toldP toldF
    split <;> simp
theorem toldP_snd {all : List (Int × Int)} (K : Kern all) : ∀ (ps acc : List (Int × Int)), (∀ p ∈ acc, p ∈ all) → (∀ p ∈ ps, p ∈ all) → (ps.foldl toldP acc).map (·.2) = (ps.map (·.2)).foldl toldF (acc.map (·.2))
  | [], acc, _, _ => rfl
  | p :: r, acc, h, h2 => by
    have hp := h2 p List.mem_cons_self
    have e : (toldP acc p).map (·.2) = toldF (acc.map (·.2)) p.2 := by
      have e1 : (p.1 ≠ -1 ∧ p.1 ∉ acc.map (·.1)) ↔ (p.2 ≠ -1 ∧ p.2 ∉ acc.map (·.2)) := by
        have a := (K p hp p hp).2
        have b : p.1 ∈ acc.map (·.1) ↔ p.2 ∈ acc.map (·.2) := by
          simp only [List.mem_map]
          constructor
          · rintro ⟨q, hq, e⟩
            exact ⟨q, hq, (K q (h q hq) p hp).1.mp e⟩
          · rintro ⟨q, hq, e⟩
            exact ⟨q, hq, (K q (h q hq) p hp).1.mpr e⟩
        rw [b]
        constructor
        · rintro ⟨x, y⟩
          exact ⟨fun z => x (a.mpr z), y⟩
        · rintro ⟨x, y⟩
          exact ⟨fun z => x (a.mp z), y⟩
      unfold toldP toldF
      by_cases c : p.1 ≠ -1 ∧ p.1 ∉ acc.map (·.1)
      · rw [if_pos c, if_pos (e1.mp c)]
        simp
      · rw [if_neg c, if_neg (fun z => c (e1.mpr z))]
    show (r.foldl toldP (toldP acc p)).map (·.2) = (r.map (·.2)).foldl toldF (toldF (acc.map (·.2)) p.2)
    rw [toldP_snd K r (toldP acc p) (fun q hq => ?_) fun q hq => h2 q (List.mem_cons_of_mem _ hq), e]
    exact toldP_sub [p] acc all h (fun x hx => by rw [List.mem_singleton.mp hx]; exact hp) q hq
theorem idx_kern {all : List (Int × Int)} (K : Kern all) {p : Int × Int} (hp : p ∈ all) : ∀ ts : List (Int × Int), (∀ q ∈ ts, q ∈ all) → (ts.map (·.1)).idxOf p.1 = (ts.map (·.2)).idxOf p.2
  | [], _ => rfl
  | q :: r, h => by
    have hq := h q List.mem_cons_self
    have ih := idx_kern K hp r fun x hx => h x (List.mem_cons_of_mem _ hx)
    simp only [List.map_cons, List.idxOf_cons]
    have e := (K q hq p hp).1
    by_cases c : q.1 = p.1
    · rw [show (q.1 == p.1) = true from beq_iff_eq.mpr c, show (q.2 == p.2) = true from beq_iff_eq.mpr (e.mp c)]
      rfl
    · rw [show (q.1 == p.1) = false from beq_eq_false_iff_ne.mpr c, show (q.2 == p.2) = false from beq_eq_false_iff_ne.mpr fun z => c (e.mpr z), ih]
theorem num_congr {ps : List (Int × Int)} (K : Kern ps) : num (ps.map (·.1)) = num (ps.map (·.2)) := by
  have s := toldP_sub ps [] ps (fun p h => (List.not_mem_nil h).elim) fun p h => h
  have e1 := toldP_fst ps []
  have e2 := toldP_snd K ps [] (fun p h => (List.not_mem_nil h).elim) fun p h => h
  unfold num
  rw [List.map_map, List.map_map]
  refine List.map_congr_left fun p hp => ?_
  show numOf (told (ps.map (·.1))) p.1 = numOf (told (ps.map (·.2))) p.2
  unfold told
  rw [show ((ps.map (·.1)).foldl toldF []) = (ps.foldl toldP []).map (·.1) from e1.symm, show ((ps.map (·.2)).foldl toldF []) = (ps.foldl toldP []).map (·.2) from e2.symm]
  unfold numOf
  have c := (K p hp p hp).2
  by_cases z : p.1 = -1
  · rw [if_pos z, if_pos (c.mp z)]
  · rw [if_neg z, if_neg fun y => z (c.mpr y), idx_kern K hp _ s]
theorem num_cong {xs ys : List Int} (hl : xs.length = ys.length) (h : ∀ (i j : Nat) (a b c d : Int), xs[i]? = some a → ys[i]? = some b → xs[j]? = some c → ys[j]? = some d → (a = c ↔ b = d) ∧ (a = -1 ↔ b = -1)) : num xs = num ys := by
  have K : Kern (xs.zip ys) := by
    intro p hp q hq
    obtain ⟨i, hi⟩ := List.getElem?_of_mem hp
    obtain ⟨j, hj⟩ := List.getElem?_of_mem hq
    rw [List.getElem?_zip_eq_some] at hi hj
    exact h i j p.1 p.2 q.1 q.2 hi.1 hi.2 hj.1 hj.2
  have := num_congr K
  rw [List.map_fst_zip (by omega), List.map_snd_zip (by omega)] at this
  exact this
/-! what is known of the numbers -/
theorem told_has : ∀ (ms acc : List Int) (m : Int), m ∈ ms.foldl toldF acc ↔ m ∈ acc ∨ (m ∈ ms ∧ m ≠ -1)
  | [], acc, m => by simp
  | x :: r, acc, m => by
    show m ∈ r.foldl toldF (toldF acc x) ↔ _
    rw [told_has r]
    unfold toldF
    split
    · rename_i c
      simp only [List.mem_append, List.mem_cons, List.mem_singleton, List.not_mem_nil, or_false]
      constructor
      · rintro ((h | h) | h)
        · exact .inl h
        · exact .inr ⟨.inl h, h ▸ c.1⟩
        · exact .inr ⟨.inr h.1, h.2⟩
      · rintro (h | ⟨h | h, n⟩)
        · exact .inl (.inl h)
        · exact .inl (.inr h)
        · exact .inr ⟨h, n⟩
    · rename_i c
      simp only [List.mem_cons]
      constructor
      · rintro (h | h)
        · exact .inl h
        · exact .inr ⟨.inr h.1, h.2⟩
      · rintro (h | ⟨h | h, n⟩)
        · exact .inl h
        · subst h
          by_cases z : m ∈ acc
          · exact .inl z
          · exact absurd ⟨n, z⟩ c
        · exact .inr ⟨h, n⟩
theorem told_mem {ms : List Int} {m : Int} : m ∈ told ms ↔ m ∈ ms ∧ m ≠ -1 := by
  unfold told
  rw [told_has]
  simp
theorem told_len : ∀ (ms acc : List Int), (ms.foldl toldF acc).length ≤ acc.length + ms.length
  | [], acc => by simp
  | x :: r, acc => by
    have h := told_len r (toldF acc x)
    have h2 : (toldF acc x).length ≤ acc.length + 1 := by
      unfold toldF
      split <;> simp
    show (r.foldl toldF (toldF acc x)).length ≤ acc.length + (r.length + 1)
    omega
theorem numOf_inj {ms : List Int} {a b : Int} (ha : a ∈ ms) (hb : b ∈ ms) : numOf (told ms) a = numOf (told ms) b ↔ a = b := by
  unfold numOf
  by_cases x : a = -1
  · by_cases y : b = -1
    · rw [if_pos x, if_pos y]
      exact ⟨fun _ => x.trans y.symm, fun _ => rfl⟩
    · rw [if_pos x, if_neg y]
      constructor
      · intro h
        omega
      · intro h
        exact absurd (h.symm.trans x) y
  · by_cases y : b = -1
    · rw [if_neg x, if_pos y]
      constructor
      · intro h
        omega
      · intro h
        exact absurd (h.trans y) x
    · rw [if_neg x, if_neg y]
      constructor
      · intro h
        have h2 : (told ms).idxOf a = (told ms).idxOf b := by omega
        have h3 := List.idxOf_lt_length_of_mem (told_mem.mpr ⟨ha, x⟩)
        have h4 := List.idxOf_lt_length_of_mem (told_mem.mpr ⟨hb, y⟩)
        have e1 : (told ms)[(told ms).idxOf a] = a := List.getElem_idxOf h3
        have e2 : (told ms)[(told ms).idxOf b] = b := List.getElem_idxOf h4
        rw [← e1, ← e2]
        congr 1
      · intro h
        rw [h]
theorem numOf_gone {ts : List Int} {a : Int} : numOf ts a = -1 ↔ a = -1 := by
  unfold numOf
  split
  · rename_i h
    exact ⟨fun _ => h, fun _ => rfl⟩
  · rename_i h
    constructor
    · intro z
      omega
    · intro z
      exact absurd z h
theorem numOf_range {ms : List Int} {a : Int} (ha : a ∈ ms) : -1 ≤ numOf (told ms) a ∧ numOf (told ms) a < (told ms).length := by
  unfold numOf
  split
  · constructor <;> omega
  · rename_i h
    have := List.idxOf_lt_length_of_mem (told_mem.mpr ⟨ha, h⟩)
    constructor <;> omega
theorem num_len (ms : List Int) : (num ms).length = ms.length := by unfold num; simp
theorem num_at {ms : List Int} {i : Nat} {a : Int} (h : ms[i]? = some a) : (num ms)[i]? = some (numOf (told ms) a) := by
  unfold num
  rw [List.getElem?_map, h]
  rfl
theorem num_at' {ms : List Int} {i : Nat} {c : Int} (h : (num ms)[i]? = some c) : ∃ a, ms[i]? = some a ∧ c = numOf (told ms) a := by
  unfold num at h
  rw [List.getElem?_map] at h
  cases e : ms[i]? with
  | none => rw [e] at h; cases h
  | some a =>
    rw [e] at h
    exact ⟨a, rfl, (Option.some.inj h).symm⟩
theorem num_num (ms : List Int) : num (num ms) = num ms := by
  refine num_cong (num_len ms) fun i j a b c d h1 h2 h3 h4 => ?_
  rw [num_at h2] at h1
  rw [num_at h4] at h3
  cases h1
  cases h3
  exact ⟨numOf_inj (List.mem_of_getElem? h2) (List.mem_of_getElem? h4), numOf_gone⟩
theorem num_small {ms : List Int} {c : Int} (h : c ∈ num ms) : -1 ≤ c ∧ c < ms.length := by
  obtain ⟨i, hi⟩ := List.getElem?_of_mem h
  obtain ⟨a, ha, rfl⟩ := num_at' hi
  have h1 := numOf_range (List.mem_of_getElem? ha)
  have h2 := told_len ms []
  have h3 : (told ms).length ≤ ms.length := by simpa [told] using h2
  omega
/-- marks with holders put to a mark -/
def marked (c : List Int) (ts : List Int) (m : Int) : List Int := c.mapIdx fun i x => if (i : Int) ∈ ts then m else x
theorem marked_len (c ts : List Int) (m : Int) : (marked c ts m).length = c.length := by unfold marked; simp
theorem marked_at {c ts : List Int} {m : Int} {i : Nat} {y : Int} (h : (marked c ts m)[i]? = some y) : ∃ x, c[i]? = some x ∧ y = if (i : Int) ∈ ts then m else x := by
  unfold marked at h
  rw [List.getElem?_mapIdx] at h
  cases e : c[i]? with
  | none => rw [e] at h; cases h
  | some a =>
    rw [e] at h
    exact ⟨a, rfl, (Option.some.inj h).symm⟩
/-- a mark that is new for one list and the other: the same numbers -/
theorem num_marked {bs ts : List Int} {m n : Int} (h : ∀ (i j : Nat) (b d : Int), bs[i]? = some b → bs[j]? = some d → (i : Int) ∈ ts → (j : Int) ∉ ts → (m = numOf (told bs) d ↔ n = d)) (hm : m = -1 ↔ n = -1) :
    num (marked (num bs) ts m) = num (marked bs ts n) := by
  refine num_cong (by rw [marked_len, marked_len, num_len]) fun i j a b c d h1 h2 h3 h4 => ?_
  obtain ⟨x1, e1, rfl⟩ := marked_at h1
  obtain ⟨x2, e2, rfl⟩ := marked_at h2
  obtain ⟨x3, e3, rfl⟩ := marked_at h3
  obtain ⟨x4, e4, rfl⟩ := marked_at h4
  rw [num_at e2] at e1
  rw [num_at e4] at e3
  cases e1
  cases e3
  have g2 := List.mem_of_getElem? e2
  have g4 := List.mem_of_getElem? e4
  by_cases p : (i : Int) ∈ ts
  · rw [if_pos p, if_pos p]
    by_cases q : (j : Int) ∈ ts
    · rw [if_pos q, if_pos q]
      exact ⟨⟨fun _ => rfl, fun _ => rfl⟩, hm⟩
    · rw [if_neg q, if_neg q]
      exact ⟨h i j x2 x4 e2 e4 p q, hm⟩
  · rw [if_neg p, if_neg p]
    by_cases q : (j : Int) ∈ ts
    · rw [if_pos q, if_pos q]
      refine ⟨?_, numOf_gone⟩
      have := h j i x4 x2 e4 e2 q p
      constructor
      · intro z
        exact (this.mp z.symm).symm
      · intro z
        exact (this.mpr z.symm).symm
    · rw [if_neg q, if_neg q]
      exact ⟨numOf_inj g2 g4, numOf_gone⟩
/-- a new mark -/
theorem num_fresh {bs ts : List Int} {n : Int} (hn : n ∉ bs) (hg : n ≠ -1) : num (marked (num bs) ts (bs.length : Int)) = num (marked bs ts n) := by
  refine num_marked (fun i j b d _ e _ _ => ?_) ⟨fun z => ?_, fun z => absurd z hg⟩
  · have g := List.mem_of_getElem? e
    have r := numOf_range g
    have l := told_len bs []
    have l2 : (told bs).length ≤ bs.length := by simpa [told] using l
    constructor
    · intro z
      omega
    · intro z
      exact absurd (z ▸ g) hn
  · have : (0 : Int) ≤ bs.length := Int.natCast_nonneg _
    omega
/-- gone ones -/
theorem num_gone {bs ts : List Int} : num (marked (num bs) ts (-1)) = num (marked bs ts (-1)) := by
  refine num_marked (fun i j b d _ e _ _ => ?_) ⟨fun _ => rfl, fun _ => rfl⟩
  constructor
  · intro z
    exact (numOf_gone.mp z.symm).symm
  · intro z
    exact (numOf_gone.mpr z.symm).symm
/-- a copy -/
theorem num_copied {bs ts : List Int} {k : Nat} {b : Int} (h : bs[k]? = some b) : num (marked (num bs) ts (numOf (told bs) b)) = num (marked bs ts b) := by
  refine num_marked (fun i j x d _ e _ _ => ?_) numOf_gone
  exact numOf_inj (List.mem_of_getElem? h) (List.mem_of_getElem? e)
end Jc
namespace Jc
open PySem PySem.Spec L2
open PyProof.Rows hiding St
theorem range_get {α : Type} : ∀ xs : List α, (List.range xs.length).filterMap (fun i => xs[i]?) = xs := by
  intro xs
  have h : ∀ n, n ≤ xs.length → (List.range n).filterMap (fun i => xs[i]?) = xs.take n := by
    intro n
    induction n with
    | zero => intro _; simp
    | succ n ih =>
      intro hn
      rw [List.range_succ, List.filterMap_append, ih (by omega), List.take_add_one]
      congr 1
  have := h xs.length (Nat.le_refl _)
  rwa [List.take_length] at this
/-- a comprehension, its kept elements told by f -/
theorem lc_sel {J : It} {n : Nat} {G : Hp → Prop} {Y : Nat → Hp → V → Hp → Prop} (w : Walk J n G Y) {g : TG} {tt : TT} {te : TE} {vs : List Nat} {σ : L2.St} {H1 : Hp} {D : Addr} {Qd : Hp → Prop} (f : Nat → Option V) (hn : n < 1000000) (hD : H1 D = none)
    (hG : ∀ H2, Same H1 H2 → G H2)
    (hs : ∀ i x H H2 (k : V → Hp → Prop) (kn : Hp → Prop), i < n → Same H1 H → Y i H x H2 → (∀ y H4, f i = some y → Same H H4 → k y H4) → (∀ H3, f i = none → Same H H3 → kn H3) →
      g x (wipe σ vs) H2 fun σ2 H3 => wipe σ2 vs = wipe σ vs ∧ tt σ2 H3 fun b H4 => if b = true then te σ2 H4 k else kn H4)
    (hd : ∀ H2, Same H1 H2 → H2 D = some (.lst ((List.range n).filterMap f)) → Qd H2) :
    ∃ W : Nat → Nat → Hp → Prop, (∃ m, W 0 m (upd H1 D (.lst []))) ∧ ∀ i m H, W i m H →
      (J.stop i H ∧ Qd H) ∨ (J.go i H ∧ ∃ Nx : Hp → Prop, (∀ H', Nx H' → ∃ m', m' < m ∧ W (i + 1) m' H') ∧ ∀ x H', J.yld i H x H' → g x (wipe σ vs) H' fun σ2 H2 => wipe σ2 vs = wipe σ vs ∧ tt σ2 H2 fun b H3 =>
        if b = true then te σ2 H3 fun y H4 => ∃ acc, H4 D = some (.lst acc) ∧ acc.length < sizeLine ∧ Nx (upd H4 D (.lst (acc ++ [y]))) else Nx H3) := by
  have hz : ∀ i, ((List.range i).filterMap f).length ≤ i := fun i => by
    have := List.length_filterMap_le f (List.range i)
    rwa [List.length_range] at this
  refine lc_it w (fun i H => Same H1 H ∧ H D = some (.lst ((List.range i).filterMap f))) ⟨same_new hD, upd_same⟩ (fun i H _ p => hG H p.1) ?_ ?_
  · rintro i x H H' hi ⟨s1, hy⟩ y
    refine hs i x H H' _ _ hi s1 y (fun z H4 e s4 => ⟨_, s4 _ _ hy, Nat.lt_of_lt_of_le (show ((List.range i).filterMap f).length < 1000000 from Nat.lt_of_le_of_lt (hz i) (by omega)) (by rw [sizeLine_eq]; decide), same_mut (s1.trans s4) hD, ?_⟩) fun H3 e s3 => ⟨s1.trans s3, ?_⟩
    · rw [upd_same, List.range_succ, List.filterMap_append]
      simp [e]
    · rw [s3 _ _ hy, List.range_succ, List.filterMap_append]
      simp [e]
  · rintro H ⟨s1, hy⟩
    exact hd H s1 hy
theorem inV_ints {m : Int} : ∀ ts : List Int, inV (.int m) (ts.map V.int) = decide (m ∈ ts)
  | [] => by simp [inV]
  | t :: r => by
    have ih := inV_ints (m := m) r
    unfold inV at ih ⊢
    rw [List.map_cons, List.any_cons, ih]
    show ((t == m) || decide (m ∈ r)) = decide (m ∈ t :: r)
    by_cases h : t = m
    · subst h; simp
    · have h2 : m ≠ t := fun z => h z.symm
      simp [h, h2]
theorem flat_ints : ∀ ts : List Int, (ts.map V.int).all flatV = true := fun ts => by
  rw [List.all_eq_true]
  intro x hx
  obtain ⟨y, _, rfl⟩ := List.mem_map.mp hx
  rfl
theorem get_ints {ts : List Int} {i : Nat} {x : V} (h : (ts.map V.int)[i]? = some x) : ∃ k : Int, ts[i]? = some k ∧ x = .int k := by
  rw [List.getElem?_map] at h
  cases e : ts[i]? with
  | none => rw [e] at h; cases h
  | some k =>
    rw [e] at h
    exact ⟨k, rfl, (Option.some.inj h).symm⟩
/-- the place of an int in a list, as list.index tells it -/
theorem idx_ints {ts : List Int} {m : Int} (h : m ∈ ts) : (ts.map V.int)[ts.idxOf m]? = some (.int m) ∧ ∀ (j : Nat) (z : V), j < ts.idxOf m → (ts.map V.int)[j]? = some z → eqV z (.int m) = false := by
  have hl := List.idxOf_lt_length_of_mem h
  refine ⟨?_, fun j z hj e => ?_⟩
  · rw [List.getElem?_map, List.getElem?_eq_getElem hl, List.getElem_idxOf hl]
    rfl
  · obtain ⟨k, hk, rfl⟩ := get_ints e
    have h3 := List.not_of_lt_findIdx (p := (· == m)) hj
    obtain ⟨h1, h2⟩ := List.getElem?_eq_some_iff.mp hk
    rw [h2] at h3
    exact h3
end Jc
namespace Jc
open PySem PySem.Spec L2
open PyProof.Rows hiding St
/-! ### rules whose readings name the kept objects: for the blocks of comprehensions, whose Cx may not stand in a reading -/
section
variable {X : Cx} {K : PySem.W.Frag} {o e : Expr} {es : List Expr} {to ta : TE} {t : TA} {name fl : Str} {apos cpos pos : Pos} {T id : String} {r : V → List V → Hp → VK → Prop}
theorem ixl_K (h : X.K = K) : IxR X (rIxL K) := by subst h; exact ix_list
theorem ixt_K (h : X.K = K) : IxR X (rIxT K) := by subst h; exact ix_tup
theorem in_K (h : X.K = K) : OpR X (compareOp .In) (rIn K false) := by subst h; exact op_in_seq
theorem notin_K (h : X.K = K) : OpR X (compareOp .NotIn) (rIn K true) := by subst h; exact op_notIn_seq
theorem index_K (h : X.K = K) : MtR X "list.index" (rIndex K) := by subst h; exact mt_index
theorem isi_K (h : X.K = K) : CallR X (.builtin "isinstance") (rIsi K) := by subst h; exact call_isi
theorem pe_bmK (h : X.K = K) (pa : PlainAttrs T) (slot : Slot T name id) (hty : typeOf (.builtin id) = pure (.type "method_descriptor")) (hm : MtR X id r) (ho : PE X o to) (ha : PA X (e :: es) t)
    (hbase : attributeBase o name X.env (eval o X.env) = eval o X.env := by rfl)
    (hfew : ((backTo cpos (starEach (e :: es) X.env)).all (fun x => !x.1) && (backToKw cpos (keywordEach [] X.env)).all (fun x => x.1.isSome) && decide ((e :: es).length + ([] : List Keyword).length + (if ([] : List Keyword).isEmpty then 0 else 1) < 30)) = true := by rfl)
    (hline : (apos.endLine == cpos.line) = true := by rfl) (hs : starEach (e :: es) X.env = (false, eval e X.env) :: starEach es X.env := by rfl) (hplain : (backTo cpos (starEach es X.env)).any (·.1) = false := by rfl) :
    PE X (.Call (.Attribute o name apos) (e :: es) [] cpos) (tBM K T r to t) := by
  subst h
  exact pe_bm pa slot hty hm ho ha hbase hfew hline hs hplain
theorem pe_fldK (h : X.K = K) (he : PE X e ta) (hb : attributeBase e fl X.env (eval e X.env) = eval e X.env := by rfl) : PE X (.Attribute e fl pos) (tFld K ta fl) := by
  subst h
  exact pe_fld he hb
theorem pg_tupK {ts : List Expr} {k : Nat} {tt : TGs} {n : Nat} (hK : X.K = K) (hc : X.calm = true) (h : PGs X ts tt)
    (hn : (assignEach ts X.env).length = n := by rfl) (hst : (assignEach ts X.env).findIdx? (·.1) = none := by rfl) : PG X (.Tuple ts k pos) (gTup K n tt) := by
  subst hK
  exact pg_tup hc h hn hst
end
theorem le_line {n : Nat} (h : n ≤ 1000000) : n ≤ sizeLine := Nat.le_trans h (by rw [sizeLine_eq]; decide)
theorem iteNT {c A B : Prop} [Decidable c] (hc : ¬ c) (h : A) : if (!decide c) = true then A else B := by
  rw [decide_eq_false hc]
  exact iteT h
theorem iteDT {c A B : Prop} [Decidable c] (hc : c) (h : A) : if decide c = true then A else B := by
  rw [decide_eq_true hc]
  exact iteT h
theorem iteDF {c A B : Prop} [Decidable c] (hc : ¬ c) (h : B) : if decide c = true then A else B := by
  rw [decide_eq_false hc]
  exact iteF h
end Jc
namespace Jc
open PySem PySem.Spec L2
open PyProof.Rows hiding St
/-- what law promises: handed a list of at most 63 ints, it gives True -/
def spLaw (K : PySem.W.Frag) : Sp := fun vs H Q _ => ∃ (a : Addr) (ns : List Int), vs = [.ref a] ∧ SqL K H a (ns.map V.int) ∧ ns.length ≤ 63 ∧ ∀ H2, Q (.bl true) H2
/-- the script as it lies at the call: known to the object, or one of the module's own -/
structure Lies (K : PySem.W.Frag) (a : Addr) (ob : Obj) (ns : List Int) (H : Hp) : Prop where
  one : ∀ b, H b = none ∨ (b = a ∧ K.lookup a = none ∧ H b = some (.frz ob (.lst (ns.map V.int))))
  seq : SqL K H a (ns.map V.int)
theorem lies_of {K : PySem.W.Frag} {h : Heap} {a : Addr} {vs : List Value} {ns : List Int} (KX : K.In h) (ha : h.get? a = some { cls := .type "list", data := .seq vs.toArray }) (hi : IntsAre vs ns) (hl : ns.length ≤ 63) :
    ∃ H, Lies K a { cls := .type "list", data := .seq vs.toArray } ns H := by
  have r := vals_ints hi
  have hz : ns.length ≤ sizeLine := Nat.le_trans hl (by rw [sizeLine_eq]; decide)
  cases e : K.lookup a with
  | none =>
    refine ⟨fun b => if b = a then some (.frz { cls := .type "list", data := .seq vs.toArray } (.lst (ns.map V.int))) else none, fun b => ?_, .inl (.inr ⟨_, if_pos rfl⟩)⟩
    by_cases hb : b = a
    · exact .inr ⟨hb, e, if_pos hb⟩
    · exact .inl (if_neg hb)
  | some o =>
    have e2 := KX a o e
    rw [ha] at e2
    cases e2
    exact ⟨fun _ => none, fun _ => .inl rfl, .inr ⟨_, vs.toArray, _, e, rfl, rfl, rfl, by rw [List.size_toArray, hi.length]; exact hz, by simpa using r⟩⟩
section
variable {P : Program} {w : World} {K : PySem.W.Frag} {mg mb : Str → Option Value} {k : Nat} {fa a : Addr} {fd : FuncData} {s1 : Shared} {vs : List Value} {ns : List Int}
theorem lawG (KX : K.In s1.heap) (hns : s1.heap.Ns mainGlobals mg) (hb : s1.heap.Ns builtinsNs mb) (hbb : ∀ x : Str, x ≠ "__name__" → mb x = bootBuiltins x) (hlim : s1.heap.NoLimit) (hg : s1.gens = #[])
    (ha : s1.heap.get? a = some { cls := .type "list", data := .seq vs.toArray }) (hi : IntsAre vs ns) (hl : ns.length ≤ 63) (hr : Room k callerA)
    (F : ∀ base : Heap, K.In base → base.Ns mainGlobals mg → FnG P w K mg base k fa fd ["_law_script"] (spLaw K)) (hbind : ∀ (s : Shared) (u : Value), BindsTo s fd ⟨[u], []⟩ [("_law_script", u)]) :
    codeAny (model P w) callerA (.call (.ref fa) ⟨[.ref a], []⟩) (fun r s' => r = .ok (.ret (.bool true)) ∧ OldK s1.heap s'.heap ∧ s'.os = s1.os ∧ AllBare s'.gens) s1 := by
  obtain ⟨H, L⟩ := lies_of KX ha hi hl
  have r := vals_ints hi
  have hok : HOk P w H s1.heap := fun b u z => by
    rcases L.one b with n | ⟨rfl, _, n⟩
    · rw [n] at z; cases z
    · rw [n] at z; cases z
      exact ⟨ha, Nat.le_trans (by rw [List.length_map]; exact hl) (show 63 ≤ sizeLine by rw [sizeLine_eq]; decide), vs, _, r, ha⟩
  have dictFree : ∀ {b : Addr} {m : Str → Option Value}, s1.heap.Ns b m → H b = none := fun {b m} z => by
    rcases L.one b with n | ⟨rfl, _, _⟩
    · exact n
    · obtain ⟨o, es, ep, e1, e2, _⟩ := z
      rw [ha] at e1
      cases e1
      exact nomatch e2
  have nsB : ∀ {b : Addr} {m : Str → Option Value}, s1.heap.Ns b m → (hidT s1.heap H).Ns b m := fun z => by
    have n := dictFree z
    obtain ⟨o, es, ep, e1, e2⟩ := z
    exact ⟨o, es, ep, hidT_get e1 n, e2⟩
  have kB : K.In (hidT s1.heap H) := fun b o e => by
    rcases L.one b with n | ⟨rfl, n, _⟩
    · exact hidT_get (KX b o e) n
    · rw [n] at e; cases e
  have hM : Mod K mg (hidT s1.heap H) := by
    obtain ⟨mc, h1, h2⟩ := hlim
    exact ⟨kB, nsB hns, ⟨mb, nsB hb, hbb⟩, mc, nsB h1, h2⟩
  have e0 : Env0 P w K mg (hidT s1.heap H) callerA [] s1 H := ⟨rfl, hM, fun _ _ e => of_hidT e, Nat.le_of_eq (hidT_size _ _), trivial, fun b z => (List.not_mem_nil z).elim, hok, .of_eq hg⟩
  refine codeAny_mono ((F _ kB (nsB hns)).runG callerA [] s1 H ⟨[.ref a], []⟩ [.ref a] [.ref a] (fun v _ => v = .bl true) hr rfl e0 (hbind s1 (.ref a)) (.cons rfl .nil) ⟨a, ns, rfl, L.seq, hl, fun _ => rfl⟩) fun rs s2 z => ?_
  match rs, z with
  | .ok .next, z => exact z.elim
  | .ok .brk, z => exact z.elim
  | .ok .cont, z => exact z.elim
  | .error _, z => exact z.elim
  | .ok (.ret u), z =>
    obtain ⟨v, H2, os, bare, un, hok2, rv, (q : v = .bl true)⟩ := z
    subst q
    cases (show u = Value.bool true from rv)
    refine ⟨rfl, OldK.of_keep fun b o e => ?_, os, bare⟩
    rcases L.one b with n | ⟨_, _, n⟩
    · exact un.keep b o e n (fun z => (List.not_mem_nil z).elim) (fun z => (List.not_mem_nil z).elim)
    · have e1 := (hok b _ n).1
      rw [e] at e1
      cases e1
      exact (hok2 b _ (un.frzs b _ _ n)).1
end
theorem walkG {l : PySem.W.OpenLaw} {k : Nat} {q : Program} {loose : List Str} {XP : (Str → Option Value) → Heap → Prop} {YP : World → Heap → Prop} {d : DefRec} {K : Params → PySem.W.Frag}
    (hn : l.most = some 63) (hdf : d.params.defaults = []) (hr : Room k callerA) (hY : ∀ (w : World) (h : Heap), YP w h → (K w.params).In h)
    (F : ∀ (w : World) (mg : Str → Option Value) (fa : Addr) (h : Heap), (K w.params).In h → h.Ns mainGlobals mg → mg d.name = some (.ref fa) →
      ∃ fd : FuncData, (∀ (s : Shared) (u : Value), BindsTo s fd ⟨[u], []⟩ [("_law_script", u)]) ∧
        ∀ base : Heap, (K w.params).In base → base.Ns mainGlobals mg → FnG l.prog w (K w.params) mg base k fa fd ["_law_script"] (spLaw (K w.params))) :
    PySem.W.WalkO q loose XP YP l.row.toRowW d [] (fun f vs => PySem.call f vs) := by
  refine Att.attach_call hn hdf fun w _ s1 mg _ fa _ _ _ _ a vs ns G Y _ _ _ hmg hobj hints hlen hg => ?_
  obtain ⟨fd, b, hF⟩ := F w mg fa _ (hY w _ Y) G.T.g hmg
  exact lawG (hY w _ Y) G.T.g G.T.b G.T.builtins G.T.nolimit hg hobj hints hlen hr hF b
end Jc
namespace Jc
open PySem PySem.Spec L2
open PyProof.Rows hiding St
def topS (i : Nat) : Stmt := PySem.Challenge.pw_cutshows_k15_all_partitions.main.body.getD i (.Pass ⟨0, 0, 0, 0⟩)
section
variable {P : Program} {w : World} {K : PySem.W.Frag} {mg : Str → Option Value} {base : Heap} {f : Addr} {fd : FuncData}
abbrev s_draw : Stmt := topS 28
abbrev N_draw : List Str := ["_law_pot_here", "_law_lot", "_law_digit"]
theorem sc_draw : FnScope N_draw ["_law_pot_here", "_law_lot"] (defScope s_draw) := ⟨rfl, rfl, rfl, by decide +kernel, rfl, by decide +kernel, by decide +kernel⟩
theorem ok_draw (F : Fun K "_law_draw" "_law_draw" s_draw f fd) (B : Blt mg) : FnG P w K mg base 1 f fd ["_law_pot_here", "_law_lot"] spDraw := by
  refine fnG_of F sc_draw (fun vs H Q E h => ?_) (fun us hl => ?_) (fun cdv A outer s H vs Q hr hq h => ?_)
  · obtain ⟨p, n, rfl, _⟩ := h
    rfl
  · match us, hl with
    | [_, _], _ => rfl
  · obtain ⟨p, n, rfl, hp, hn, hn2, q⟩ := h
    refine ⟨_, pss_pot (pss_cons (ps_if (pt_cmpR op_gt (pe_ix ix_list (pv 0) pe_int (fun _ _ => rfl)) pe_int (nomark _)) (pss_cons (ps_asg (pe_callB call_divmodW rfl B.divmod bo_divmod (pa_cons (pe_ix ix_list (pv 0) pe_int (fun _ _ => rfl)) (pa_cons (pv 1) pa_nil))) (pg_tup rfl (pgs_cons (pg_sub (pv 0) pe_int set_list) (pgs_cons (pg_name (i := 2) sc_draw.nd rfl (.inl rfl)) pgs_nil))))
      (pss_one (ps_ret (pe_pot (pv 2))))) pss_nil)
      (pss_cons (ps_asg (pe_op op_mod (pe_callTy call_int1 rfl B.int bo_int (pa_cons (pe_op op_add (pe_op op_mul (pe_ix ix_list (pv 0) pe_int (fun _ _ => rfl)) pe_int) pe_int) pa_nil)) pe_int) (pg_sub (pv 0) pe_int set_list))
      (pss_one (ps_ret (pe_pot (pe_op op_mod (pe_callTy call_int1 rfl B.int bo_int (pa_cons (pe_op op_fdiv (pe_op op_mod (pe_callTy call_int1 rfl B.int bo_int (pa_cons (pe_op op_mul (pe_ix ix_list (pv 0) pe_int (fun _ _ => rfl)) (pe_ix ix_list (pv 0) pe_int (fun _ _ => rfl))) pa_nil)) pe_int) pe_int) pa_nil)) (pv 1))))))), ?_⟩
    refine ⟨p, hp, fun a b ha hb hb2 => ?_⟩
    have S0 : SqL K (upd H p (.lst [.int a, .int b])) p [.int a, .int b] := .inl (.inl upd_same)
    have keep : ∀ b' u, b' ≠ p → H b' = some u → (upd H p (.lst [.int a, .int b])) b' = some u := fun b' u hb' e => by rw [upd_ne hb']; exact e
    refine ⟨.ref p, rfl, p, _, 0, .int a, rfl, rfl, S0, atI_nat (j := 0) rfl, _, _, rfl, rfl, _, rfl, ite2 (fun hc => ?_) (fun hc => ?_)⟩
    · have h0 : 0 < a := of_decide_eq_true hc
      refine ⟨.ref p, rfl, p, _, 0, .int a, rfl, rfl, S0, atI_nat (j := 0) rfl, .int n, rfl, a, n, rfl, ⟨hn, PyProof.noPylong_small (by omega)⟩, fun t nt => ?_⟩
      have npt : p ≠ t := fun e => by
        rw [e, upd_same] at nt
        cases nt
      -- pot[0], digit = ..
      refine ⟨t, _, rfl, .inl (.inl upd_same), rfl, _, _, rfl, ?_⟩
      refine ⟨.ref p, rfl, p, [.int a, .int b], 0, 0, rfl, rfl, by rw [upd_ne npt]; exact upd_same, rfl, _, _, rfl, rfl, ?_⟩
      refine ⟨.int (a % n), rfl, p, a / n, b, upd_same, Int.ediv_nonneg ha (by omega), hb, hb2, ?_⟩
      refine q (a % n) _ (Int.emod_nonneg a (by omega)) (Int.emod_lt_of_pos a hn) (same_back hp fun b' u hb' e => ?_)
      rw [upd_ne hb', upd_ne, upd_ne hb']
      · exact e
      · rintro rfl
        rw [upd_ne (Ne.symm npt)] at nt
        rw [e] at nt
        cases nt
    · refine ⟨.ref p, rfl, p, _, 1, .int b, rfl, rfl, S0, atI_nat (j := 1) rfl, b, 48271, rfl, rfl, .inr ⟨by decide, by decide⟩, _, _, rfl, rfl, .inl ⟨_, rfl, _, _, rfl, rfl, (by show (0 : Int) < 2147483587; decide), .ref p, rfl, p, [.int a, .int b], 1, 1, rfl, rfl, upd_same, rfl, ?_⟩⟩
      have c0 : 0 ≤ (b * 48271 + 12391) % 2147483587 := Int.emod_nonneg _ (by decide)
      have c1 : (b * 48271 + 12391) % 2147483587 < 2147483587 := Int.emod_lt_of_pos _ (by decide)
      have eS : ([V.int a, V.int b].set 1 (.int ((b * 48271 + 12391) % 2147483587))) = [.int a, .int ((b * 48271 + 12391) % 2147483587)] := rfl
      rw [eS]
      generalize (b * 48271 + 12391) % 2147483587 = c at c0 c1
      have S1 : SqL K (upd (upd H p (.lst [.int a, .int b])) p (.lst [.int a, .int c])) p [.int a, .int c] := .inl (.inl upd_same)
      refine ⟨.ref p, rfl, p, _, 1, .int c, rfl, rfl, S1, atI_nat (j := 1) rfl, .ref p, rfl, p, _, 1, .int c, rfl, rfl, S1, atI_nat (j := 1) rfl, c, c, rfl, rfl, .inl ⟨by omega, by omega⟩, .inl ⟨_, rfl, _, _, rfl, rfl, (by show (0 : Int) < 2147483549; decide), _, _, rfl, rfl, ⟨by decide, by decide⟩, .inl ⟨_, rfl, .int n, rfl, _, n, rfl, rfl, hn, ?_⟩⟩⟩
      refine ⟨p, a, c, upd_same, ha, c0, c1, ?_⟩
      refine q _ _ (Int.emod_nonneg _ (by omega)) (Int.emod_lt_of_pos _ hn) (same_back hp fun b' u hb' e => ?_)
      rw [upd_ne hb', upd_ne hb']
      exact e
abbrev s_pot : Stmt := topS 27
abbrev N_pot : List Str := ["_law_script", "_law_k", "_law_cell"]
theorem sc_pot : FnScope N_pot ["_law_script", "_law_k"] (defScope s_pot) := ⟨rfl, rfl, rfl, by decide +kernel, rfl, by decide +kernel, by decide +kernel⟩
theorem ok_pot (F : Fun K "_law_pot" "_law_pot" s_pot f fd) (B : Blt mg) : FnG P w K mg base 1 f fd ["_law_script", "_law_k"] (spPot K) := by
  refine fnG_of F sc_pot (fun vs H Q E h => ?_) (fun us hl => ?_) (fun cdv A outer s H vs Q hr hq h => ?_)
  · obtain ⟨a, ns, k, rfl, _⟩ := h
    rfl
  · match us, hl with
    | [_, _], _ => rfl
  · obtain ⟨a, ns, k, rfl, hS, hk, q⟩ := h
    refine ⟨_, (pss_cons (ps_set (i := 2) sc_pot.nd rfl (.inl rfl) (pe_op op_add (pe_op op_mul pe_int (pv 1)) pe_int))
      (Evl.pss_cut (ps_if (pt_cmpR op_lt (pv 1) (pe_callB call_len_seq rfl B.len bo_len (pa_cons (pv 0) pa_nil)) (nomark _)) (pss_one (ps_set (i := 2) sc_pot.nd rfl (.inl rfl) (pe_callB call_abs rfl B.abs bo_abs (pa_cons (pe_ix ix_list (pv 0) (pv 1) (fun _ _ => rfl)) pa_nil)))) pss_nil)
      (pss_one (ps_ret (pe_lst (pa_cons (pe_callB (call_max2 rfl) rfl B.max bo_max (pa_cons pe_int (pa_cons (pe_op op_sub (pv 2) (pe_op op_pow pe_int pe_int)) pa_nil))) (pa_cons (pe_op op_add (pe_op op_mod (pe_op op_mul (pe_callTy call_int1 rfl B.int bo_int (pa_cons (pe_op op_add (pe_op op_mod (pe_callTy call_int1 rfl B.int bo_int (pa_cons (pv 2) pa_nil)) pe_int) pe_int) pa_nil)) (pe_op op_pow (pe_op op_add (pe_op op_mul pe_int (pv 1)) pe_int) pe_int)) pe_int) pe_int) pa_nil))))))), ?_⟩
    refine ⟨.int k, rfl, _, _, rfl, rfl, .inl ⟨by decide, by decide⟩, _, _, rfl, rfl, ?_⟩
    refine ⟨fun σ H' => H' = H ∧ ∃ z : Int, σ = [some (.ref a), some (.int k), some (.int z)], ?_, ?_⟩
    · refine ⟨.int k, rfl, .ref a, rfl, a, _, rfl, .inl hS, _, _, rfl, rfl, _, rfl, ite2 (fun hc => ?_) (fun hc => ?_)⟩
      · have hc2 : (k : Int) < ((ns.map V.int).length : Int) := of_decide_eq_true hc
        have hlt : k < ns.length := by rw [List.length_map] at hc2; omega
        have g : (ns.map V.int)[k]? = some (.int ns[k]) := by rw [List.getElem?_map, List.getElem?_eq_getElem hlt]; rfl
        exact ⟨.ref a, rfl, .int k, rfl, a, _, _, _, rfl, rfl, hS, atI_nat g, _, rfl, rfl, _, rfl⟩
      · exact ⟨rfl, _, rfl⟩
    · rintro σ H' ⟨rfl, z, rfl⟩
      refine ⟨.int z, rfl, _, _, rfl, rfl, ⟨by decide, by decide, by decide⟩, _, _, rfl, rfl, _, _, rfl, ?_⟩
      refine ⟨.int z, rfl, .inl ⟨_, rfl, _, _, rfl, rfl, (by show (0 : Int) < 2147483549; decide), _, _, rfl, rfl, .inl ⟨_, rfl, ?_⟩⟩⟩
      refine ⟨.int k, rfl, _, _, rfl, rfl, .inl ⟨by decide, by decide⟩, _, _, rfl, rfl, _, _, rfl, rfl, ⟨by decide, by decide, by omega⟩, _, _, rfl, rfl, ?_, ?_⟩
      · have e0 := Int.emod_nonneg z (show (2147483549 : Int) ≠ 0 by decide)
        have e1 := Int.emod_lt_of_pos z (show (0 : Int) < 2147483549 by decide)
        exact .inl ⟨by omega, by omega⟩
      · refine ⟨_, _, rfl, rfl, (by show (0 : Int) < 2147483477; decide), _, _, rfl, rfl, two_le, fun p np => ?_⟩
        refine q p _ _ np ?_ ?_ ?_
        · split <;> omega
        · have := Int.emod_nonneg ((z % 2147483549 + 19) * (2 * (k : Int) + 3) ^ (3 : Int).toNat) (show (2147483477 : Int) ≠ 0 by decide)
          omega
        · have := Int.emod_lt_of_pos ((z % 2147483549 + 19) * (2 * (k : Int) + 3) ^ (3 : Int).toNat) (show (0 : Int) < 2147483477 by decide)
          omega
end
end Jc
namespace Jc
open PySem PySem.Spec L2
open PyProof.Rows hiding St
structure TxP (mg : Str → Option Value) (t1 : Tok) : Prop where
  GONE : mg "GONE" = some (.int (-1) t1)
def spInt : Sp := fun vs H Q _ => ∃ i : Int, vs = [.int i] ∧ Q (.bl true) H
def spCnt : Sp := fun vs H Q _ => ∃ i : Int, vs = [.int i] ∧ Q (.bl (decide (0 ≤ i))) H
/-- a list or tuple of ints -/
def SqI (K : PySem.W.Frag) (H : Hp) (b : Addr) (hs : List Int) : Prop := SqL K H b (hs.map V.int) ∨ SqT K H b (hs.map V.int)
def spHold (K : PySem.W.Frag) : Sp := fun vs H Q _ => ∃ (a b : Addr) (c hs : List Int), vs = [.ref a, .ref b] ∧ SqT K H a (c.map V.int) ∧ SqI K H b hs ∧ (∀ h ∈ hs, 0 ≤ h ∧ h < (c.length : Int)) ∧ ∀ H2, Same H H2 → Q .non H2
def spNum (K : PySem.W.Frag) : Sp := fun vs H Q _ => ∃ (a : Addr) (ms : List Int), vs = [.ref a] ∧ SqL K H a (ms.map V.int) ∧ ms.length ≤ 1000 ∧ ∀ (p : Addr) (H2 : Hp), Same H H2 → H p = none → H2 p = some (.lst ((num ms).map V.int)) → Q (.ref p) H2
def members (c : List Int) (m : Int) : List Int := (List.range c.length).filterMap fun i : Nat => if c[i]? = some m then some (i : Int) else none
def spMem (K : PySem.W.Frag) : Sp := fun vs H Q _ => ∃ (a : Addr) (c : List Int) (m : Int), vs = [.ref a, .int m] ∧ SqT K H a (c.map V.int) ∧ c.length ≤ 1000 ∧ ∀ (p : Addr) (H2 : Hp), Same H H2 → H p = none → H2 p = some (.lst ((members c m).map V.int)) → Q (.ref p) H2
def spMark (K : PySem.W.Frag) : Sp := fun vs H Q _ => ∃ (a b : Addr) (c hs : List Int) (m : Int), vs = [.ref a, .ref b, .int m] ∧ SqT K H a (c.map V.int) ∧ SqI K H b hs ∧ c.length ≤ 1000 ∧ ∀ (p : Addr) (H2 : Hp), Same H H2 → H p = none → H2 p = some (.lst ((marked c hs m).map V.int)) → Q (.ref p) H2
theorem seqT {K : PySem.W.Frag} {H H' : Hp} {a : Addr} {xs : List V} (e : Same H H') (h : SqT K H a xs) : SqT K H' a xs := by
  rcases h with (h | ⟨o, h⟩) | h
  · exact .inl (.inl (e _ _ h))
  · exact .inl (.inr ⟨o, e _ _ h⟩)
  · exact .inr h
theorem SqI.same {K : PySem.W.Frag} {H H2 : Hp} {b : Addr} {hs : List Int} (s : Same H H2) (h : SqI K H b hs) : SqI K H2 b hs := h.imp (fun z => s.seq z) (fun z => seqT s z)
section
variable {P : Program} {w : World} {K : PySem.W.Frag} {mg : Str → Option Value} {base : Heap} {f : Addr} {fd : FuncData} {t1 : Tok}
abbrev s_is_integer : Stmt := topS 2
abbrev N_is_integer : List Str := ["value"]
theorem sc_is_integer : FnScope N_is_integer ["value"] (defScope s_is_integer) := ⟨rfl, rfl, rfl, by decide +kernel, rfl, by decide +kernel, by decide +kernel⟩
theorem ok_is_integer (F : Fun K "is_integer" "is_integer" s_is_integer f fd) (B : Blt mg) : FnOk P w K mg base CX0 1 f fd ["value"] spInt := by
  refine F.ok sc_is_integer (fun vs H Q E h => ?_) (fun cdv A outer s H vs Q E hr h => ?_)
  · obtain ⟨i, rfl, _⟩ := h
    rfl
  · obtain ⟨i, rfl, q⟩ := h
    refine ⟨_, (pss_one (ps_ret (pe_and (pe_callB call_isi rfl B.isinstance bo_isinstance (pa_cons (pv 0) (pa_cons (pe_bltn (v := .ty "int") rfl B.int bo_int rfl) pa_nil))) (pe_one (pe_not (pe_callB call_isi rfl B.isinstance bo_isinstance (pa_cons (pv 0) (pa_cons (pe_bltn (v := .ty "bool") rfl B.bool bo_bool rfl) pa_nil)))))))), ?_⟩
    exact ⟨.int i, rfl, .int i, _, _, _, _, rfl, .ty "int", .base (.int i), kit_ty (r := true) (by decide +kernel), _, rfl, .int i, rfl, .int i, _, _, _, _, rfl, .ty "bool", .base (.int i), kit_ty (r := false) (by decide +kernel), _, rfl, q⟩
abbrev s_is_count : Stmt := topS 3
abbrev N_is_count : List Str := ["value"]
theorem sc_is_count : FnScope N_is_count ["value"] (defScope s_is_count) := ⟨rfl, rfl, rfl, by decide +kernel, rfl, by decide +kernel, by decide +kernel⟩
theorem ok_is_count (F : Fun K "is_count" "is_count" s_is_count f fd) (c_is_integer : OwnK P w K mg base "is_integer" 1 ["value"] spInt) : FnOk P w K mg base CX0 2 f fd ["value"] spCnt := by
  refine F.ok sc_is_count (fun vs H Q E h => ?_) (fun cdv A outer s H vs Q E hr h => ?_)
  · obtain ⟨i, rfl, _⟩ := h
    rfl
  · obtain ⟨i, rfl, q⟩ := h
    refine ⟨_, (pss_one (ps_ret (pe_and (pe_ownk c_is_integer hr (by decide) (pa_cons (pv 0) pa_nil)) (pe_one (pe_cmpR op_ge (pv 0) pe_int (nomark _)))))), ?_⟩
    exact ⟨.int i, rfl, i, rfl, _, rfl, .int i, rfl, _, _, rfl, rfl, q⟩
abbrev s_chold : Stmt := topS 17
abbrev N_chold : List Str := ["classes", "holders", "holder"]
theorem sc_chold : FnScope N_chold ["classes", "holders"] (defScope s_chold) := ⟨rfl, rfl, rfl, by decide +kernel, rfl, by decide +kernel, by decide +kernel⟩
theorem ok_chold (F : Fun K "_check_holders" "_check_holders" s_chold f fd) (B : Blt mg) (c_is_count : OwnK P w K mg base "is_count" 2 ["value"] spCnt) : FnOk P w K mg base CX0 3 f fd ["classes", "holders"] (spHold K) := by
  refine F.ok sc_chold (fun vs H Q E h => ?_) (fun cdv A outer s H vs Q E hr h => ?_)
  · obtain ⟨a, b, c, hs, rfl, _⟩ := h
    rfl
  · obtain ⟨a, b, c, hs, rfl, hc, hb, hi, q⟩ := h
    rcases hb with hb | hb
    · refine ⟨_, (pss_one (ps_for PassesOwn.never rfl (pi_list (pv 1)) (pg_name (i := 2) sc_chold.nd rfl (.inl rfl)) (pss_one (ps_if (PW.pt (pw_or (pt_not (pt_val (pe_ownk c_is_count hr (by decide) (pa_cons (pv 2) pa_nil)))) (pw_or1 (pt_cmpR op_ge (pv 2) (pe_callB call_len_seq rfl B.len bo_len (pa_cons (pv 0) pa_nil)) (nomark _))))) (pss_one ps_never) pss_nil)))), ?_⟩
      refine ⟨_, rfl, b, rfl, ⟨_, hb⟩, for_it walk_list (fun i σ H2 => ∃ y, σ = [some (.ref a), some (.ref b), y] ∧ Same H H2) ⟨_, rfl, Same.refl H⟩ (fun _ _ _ _ z => by obtain ⟨_, _, s2⟩ := z; exact s2.seq hb) ?_ (fun σ H2 ⟨y, _, s2⟩ => q H2 s2)⟩
      rintro i x σ H1 H2 hi' ⟨y, rfl, s1⟩ ⟨rfl, hx⟩
      obtain ⟨h, hh, rfl⟩ := get_ints hx
      obtain ⟨h0, h1⟩ := hi h (List.mem_of_getElem? hh)
      refine ⟨.int h, rfl, h, rfl, ?_⟩
      rw [decide_eq_true h0]
      refine ⟨true, rfl, iteF ⟨.int h, rfl, .ref a, rfl, a, _, rfl, .inr (seqT s1 hc), _, _, rfl, rfl, _, rfl, ?_⟩⟩
      rw [List.length_map, decide_eq_false (by omega)]
      exact iteF ⟨_, rfl, s1⟩
    · refine ⟨_, (pss_one (ps_for PassesOwn.never rfl (pi_tup (pv 1)) (pg_name (i := 2) sc_chold.nd rfl (.inl rfl)) (pss_one (ps_if (PW.pt (pw_or (pt_not (pt_val (pe_ownk c_is_count hr (by decide) (pa_cons (pv 2) pa_nil)))) (pw_or1 (pt_cmpR op_ge (pv 2) (pe_callB call_len_seq rfl B.len bo_len (pa_cons (pv 0) pa_nil)) (nomark _))))) (pss_one ps_never) pss_nil)))), ?_⟩
      refine ⟨_, rfl, b, rfl, ⟨_, hb⟩, for_it walk_tup (fun i σ H2 => ∃ y, σ = [some (.ref a), some (.ref b), y] ∧ Same H H2) ⟨_, rfl, Same.refl H⟩ (fun _ _ _ _ z => by obtain ⟨_, _, s2⟩ := z; exact seqT s2 hb) ?_ (fun σ H2 ⟨y, _, s2⟩ => q H2 s2)⟩
      rintro i x σ H1 H2 hi' ⟨y, rfl, s1⟩ ⟨rfl, hx⟩
      obtain ⟨h, hh, rfl⟩ := get_ints hx
      obtain ⟨h0, h1⟩ := hi h (List.mem_of_getElem? hh)
      refine ⟨.int h, rfl, h, rfl, ?_⟩
      rw [decide_eq_true h0]
      refine ⟨true, rfl, iteF ⟨.int h, rfl, .ref a, rfl, a, _, rfl, .inr (seqT s1 hc), _, _, rfl, rfl, _, rfl, ?_⟩⟩
      rw [List.length_map, decide_eq_false (by omega)]
      exact iteF ⟨_, rfl, s1⟩
end
end Jc
namespace Jc
open PySem PySem.Spec L2
open PyProof.Rows hiding St
theorem told_take (ms : List Int) (i : Nat) {m : Int} (h : ms[i]? = some m) : (ms.take (i + 1)).foldl toldF [] = toldF ((ms.take i).foldl toldF []) m := by
  rw [List.take_add_one, h, List.foldl_append]
  rfl
theorem told_short (ms : List Int) (i : Nat) : ((ms.take i).foldl toldF []).length ≤ ms.length := by
  have h := told_len (ms.take i) []
  have h2 : (ms.take i).length ≤ ms.length := by rw [List.length_take]; omega
  have h3 : ([] : List Int).length = 0 := rfl
  omega
section
variable {P : Program} {w : World} {K : PySem.W.Frag} {mg : Str → Option Value} {base : Heap} {f : Addr} {fd : FuncData} {t1 : Tok}
abbrev s_numbered : Stmt := topS 21
abbrev N_numbered : List Str := ["marks", "told", "mark"]
theorem sc_numbered : FnScope N_numbered ["marks"] (defScope s_numbered) := ⟨rfl, rfl, rfl, by decide +kernel, rfl, by decide +kernel, by decide +kernel⟩
theorem ok_numbered (F : Fun K "numbered" "numbered" s_numbered f fd) (B : Blt mg) (T : TxP mg t1) : FnOk P w K mg base CX0 1 f fd ["marks"] (spNum K) := by
  refine F.ok sc_numbered (fun vs H Q E h => ?_) (fun cdv A outer s H vs Q E hr h => ?_)
  · obtain ⟨a, ms, rfl, _⟩ := h
    rfl
  · obtain ⟨a, ms, rfl, ha, hl, q⟩ := h
    refine ⟨_, (pss_cons (ps_set (i := 1) sc_numbered.nd rfl (.inr rfl) (pe_lst pa_nil))
      (pss_cons (ps_for PassesOwn.never rfl (pi_list (pv 0)) (pg_name (i := 2) sc_numbered.nd rfl (.inl rfl)) (pss_one (ps_if (PW.pt (pw_and (pt_cmpR op_ne (pv 2) (pe_glob (v := .int (-1)) rfl T.GONE ⟨_, rfl⟩) (nomark _)) (pw_and1 (pt_cmpR op_notIn_seq (pv 2) (pv 1) rfl)))) (pss_one (ps_expr (pe_bm PySem.F.plainAttrs_list PySem.F.slot_list_append PySem.F.type_list_append mt_append (pv 1) (pa_cons (pv 2) pa_nil)))) pss_nil)))
      (pss_one (ps_ret (pe_lc (own := [("mark", 2)]) (g := gName 2) rfl sc_numbered.nd (pi_list (pv 0)) (blkOk_by (own := [("mark", 2)]) (N := N_numbered) (sc := defScope s_numbered) (by decide +kernel)) (fun _ _ _ _ _ => pg_name (i := 2) sc_numbered.nd rfl (.inl rfl)) (fun _ _ _ _ _ => pts_nil) (fun _ _ _ _ _ => (pe_ifExp (pt_cmpR op_eq (pv 2) (pe_glob (v := .int (-1)) rfl T.GONE ⟨_, rfl⟩) (nomark _)) (pe_glob (v := .int (-1)) rfl T.GONE ⟨_, rfl⟩) (pe_bmK (K := K) rfl PySem.F.plainAttrs_list PySem.F.slot_list_index PySem.F.type_list_index (index_K (K := K) rfl) (pv 1) (pa_cons (pv 2) pa_nil))))))))), ?_⟩
    refine ⟨le_line (by decide), fun L nL => ?_⟩
    refine ⟨_, rfl, a, rfl, ⟨_, (same_new nL).seq ha⟩, for_it walk_list (fun i σ H2 => ∃ y, σ = [some (.ref a), some (.ref L), y] ∧ Same H H2 ∧ H2 L = some (.lst (((ms.take i).foldl toldF []).map V.int))) ⟨_, rfl, same_new nL, upd_same⟩ (fun _ _ _ _ z => by obtain ⟨_, _, s2, _⟩ := z; exact s2.seq ha) ?_ ?_⟩
    · rintro i x σ H1 H2 hi ⟨y, rfl, s1, hL⟩ ⟨rfl, hx⟩
      obtain ⟨m, hm, rfl⟩ := get_ints hx
      refine ⟨.int m, rfl, rfl, _, rfl, ?_⟩
      have e : (ms.take (i + 1)).foldl toldF [] = toldF ((ms.take i).foldl toldF []) m := told_take ms i hm
      by_cases c1 : m = -1
      · refine iteNS (congrArg V.int c1) (iteF ⟨_, rfl, s1, ?_⟩)
        rw [e, toldF, if_neg (fun z => z.1 c1)]
        exact hL
      · refine iteNT (fun z => c1 (V.int.inj z)) ⟨.int m, rfl, .ref L, rfl, ⟨L, _, rfl, .inl (.inl (.inl hL)), rfl, flat_ints _, _, rfl, ?_⟩⟩
        rw [if_pos (rfl : true = true), inV_ints]
        by_cases c2 : m ∈ (ms.take i).foldl toldF []
        · refine iteNS c2 ⟨_, rfl, s1, ?_⟩
          rw [e, toldF, if_neg (fun z => z.2 c2)]
          exact hL
        · have hz := told_short ms i
          refine iteNT c2 ⟨.ref L, rfl, .inl ⟨rfl, _, .inl (.inl hL)⟩, .int m, rfl, L, _, _, rfl, rfl, hL, ?_, ?_⟩
          · rw [List.length_map]
            exact Nat.lt_of_lt_of_le (show _ < 1000000 by omega) (by rw [sizeLine_eq]; decide)
          · refine ⟨_, rfl, same_mut s1 nL, ?_⟩
            rw [upd_same, e, toldF, if_pos ⟨c1, c2⟩, List.map_append]
            rfl
    · rintro σ H2 ⟨y, rfl, s2, hL⟩
      rw [List.length_map, List.take_length] at hL
      refine ⟨_, rfl, a, rfl, ⟨_, s2.seq ha⟩, fun D hD => ?_⟩
      refine lc_sel walk_list (fun i => ((num ms).map V.int)[i]?) (by rw [List.length_map]; omega) hD (fun H3 z => (s2.trans z).seq ha) ?_ ?_
      · rintro i x H3 H4 k kn hi z ⟨rfl, hx⟩ ky kk
        obtain ⟨m, hm, rfl⟩ := get_ints hx
        have e : ((num ms).map V.int)[i]? = some (.int (numOf (told ms) m)) := by rw [List.getElem?_map, num_at hm]; rfl
        refine ⟨rfl, ?_⟩
        refine iteT (B := kn H4) ?_
        refine ⟨.int m, rfl, rfl, _, rfl, ?_⟩
        by_cases c1 : m = -1
        · refine iteDT (congrArg V.int c1) (ky _ _ ?_ (Same.refl _))
          rw [e, numOf, if_pos c1]
        · have hmem : m ∈ told ms := told_mem.mpr ⟨List.mem_of_getElem? hm, c1⟩
          obtain ⟨i1, i2⟩ := idx_ints hmem
          refine iteDF (fun z => c1 (V.int.inj z)) ⟨.ref L, rfl, .inl ⟨rfl, _, .inl (.inl (z _ _ hL))⟩, .int m, rfl, L, _, .int m, (told ms).idxOf m, .int m, rfl, rfl, .inl (.inl (z _ _ hL)), rfl, flat_ints _, i1, (by show (m == m) = true; exact beq_self_eq_true m), i2, ?_⟩
          refine ky _ _ ?_ (Same.refl _)
          rw [e, numOf, if_neg c1]
      · intro H3 z hD2
        refine q D H3 (s2.trans z) (s2.free hD) ?_
        rw [hD2]
        have e : (ms.map V.int).length = ((num ms).map V.int).length := by rw [List.length_map, List.length_map, num_len]
        rw [e, range_get]
end
end Jc
namespace Jc
open PySem PySem.Spec L2
open PyProof.Rows hiding St
theorem members_map (c : List Int) (m : Int) : (members c m).map V.int = (List.range c.length).filterMap fun i : Nat => if c[i]? = some m then some (V.int (i : Int)) else none := by
  unfold members
  rw [List.map_filterMap]
  congr 1
  funext i
  split <;> rfl
theorem marked_get {c ts : List Int} {m : Int} {i : Nat} {x : Int} (h : c[i]? = some x) : (marked c ts m)[i]? = some (if (i : Int) ∈ ts then m else x) := by
  unfold marked
  rw [List.getElem?_mapIdx, h]
  rfl
section
variable {P : Program} {w : World} {K : PySem.W.Frag} {mg : Str → Option Value} {base : Heap} {f : Addr} {fd : FuncData} {t1 : Tok}
abbrev s_members : Stmt := topS 22
abbrev N_members : List Str := ["classes", "number", "holder", "found"]
theorem sc_members : FnScope N_members ["classes", "number"] (defScope s_members) := ⟨rfl, rfl, rfl, by decide +kernel, rfl, by decide +kernel, by decide +kernel⟩
theorem ok_members (F : Fun K "_members" "_members" s_members f fd) (B : Blt mg) : FnOk P w K mg base CX0 1 f fd ["classes", "number"] (spMem K) := by
  refine F.ok sc_members (fun vs H Q E h => ?_) (fun cdv A outer s H vs Q E hr h => ?_)
  · obtain ⟨a, c, m, rfl, _⟩ := h
    rfl
  · obtain ⟨a, c, m, rfl, ha, hl, q⟩ := h
    refine ⟨_, (pss_one (ps_ret (pe_lc (own := [("holder", 2), ("found", 3)]) (g := _) rfl sc_members.nd (pi_ent rfl B.enumerate (pa_cons (pv 0) pa_nil)) (blkOk_by (own := [("holder", 2), ("found", 3)]) (N := N_members) (sc := defScope s_members) (by decide +kernel)) (fun _ _ _ _ _ => pg_tupK (K := K) (n := 2) rfl rfl (pgs_cons (pg_name (i := 2) sc_members.nd rfl (.inl rfl)) (pgs_cons (pg_name (i := 3) sc_members.nd rfl (.inl rfl)) pgs_nil))) (fun _ _ _ _ _ => pts_one (pt_cmpR op_eq (pv 3) (pv 1) (nomark _))) (fun _ _ _ _ _ => (pv 2))))), ?_⟩
    refine ⟨.ref a, rfl, a, _, rfl, ha, fun D hD => ?_⟩
    refine lc_sel walk_ent (fun i => if c[i]? = some m then some (V.int (i : Int)) else none) (by rw [List.length_map]; omega) hD (fun H3 z => seqT z ha) ?_ ?_
    · rintro i x H3 H4 k kn hi z ⟨U, x1, x2, rfl, nU, rfl, e1, e2⟩ ky kk
      cases e1
      obtain ⟨x, hx, rfl⟩ := get_ints e2
      refine ⟨U, _, rfl, .inl (.inl upd_same), rfl, _, _, rfl, _, _, rfl, rfl, rfl, .int x, rfl, .int m, rfl, rfl, _, rfl, ?_⟩
      by_cases h : x = m
      · subst h
        refine iteDT rfl ⟨.int i, rfl, ky _ _ ?_ (same_new nU)⟩
        show (if c[i]? = some x then _ else _) = _
        rw [if_pos hx]
      · refine iteDF (fun y => h (V.int.inj y)) (kk _ ?_ (same_new nU))
        show (if c[i]? = some m then _ else _) = _
        rw [if_neg]
        rw [hx]
        exact fun y => h (Option.some.inj y)
    · intro H3 z hD2
      refine q D H3 z hD ?_
      rw [hD2, members_map, List.length_map]
end
end Jc
namespace Jc
open PySem PySem.Spec L2
open PyProof.Rows hiding St
abbrev dI (ns : List Int) : PyData := .list (ns.map PyData.int)
theorem dpAll_ints {K : PySem.W.Frag} {H : Hp} : ∀ ns : List Int, DpAll K H (ns.map V.int) (ns.map PyData.int)
  | [] => .nil
  | n :: r => .cons (.int n) (dpAll_ints r)
theorem dp_ints {K : PySem.W.Frag} {H : Hp} {a : Addr} {ns : List Int} (h : H a = some (.lst (ns.map V.int))) : Dp K H (.ref a) (dI ns) := .lst (.inl (.inl h)) (dpAll_ints ns)
theorem eqv_ints (ns ms : List Int) : PyData.eqv (dI ns) (dI ms) = decide (ns = ms) := PySem.W.ked_eqvAll ns ms
/-- the facts of the class -/
structure PCf (K : PySem.W.Frag) (mg : Str → Option Value) (C : Addr) : Prop where
  cl : Cls K C
  na : NoAttr K C "_classes"
  mc : mg "Partition" = some (.ref C)
  rd : ∃ m u, ClX.CRead K C m ∧ ClX.CVal K C m "MOST_HOLDERS" (.int 8) u
def spAre (K : PySem.W.Frag) : Sp := fun vs H Q _ => ∃ (a : Addr) (ms : List Int), vs = [.ref a] ∧ H a = some (.lst (ms.map V.int)) ∧ 1 ≤ ms.length ∧ ms.length ≤ 8 ∧ ∀ H2, Same H H2 → Q (.bl (decide (num ms = ms))) H2
/-- a partition -/
structure PartAt (C : Addr) (H : Hp) (p : Addr) (c : List Int) : Prop where
  ex : ∃ dx t, H p = some (.ins C dx [("_classes", .ref t)]) ∧ H t = some (.tup (c.map V.int))
  lo : 1 ≤ c.length
  hi : c.length ≤ 8
  nu : num c = c
theorem PartAt.same {C : Addr} {H H2 : Hp} {p : Addr} {c : List Int} (s : Same H H2) (h : PartAt C H p c) : PartAt C H2 p c := by
  obtain ⟨⟨dx, t, h1, h2⟩, a, b, d⟩ := h
  exact ⟨⟨dx, t, s _ _ h1, s _ _ h2⟩, a, b, d⟩
/-- __init__: the new instance at x gets its classes -/
def spInit (K : PySem.W.Frag) (C : Addr) : Sp := fun vs H Q _ => ∃ (x dx a : Addr) (c : List Int), vs = [.ref x, .ref a] ∧ H x = some (.ins C dx []) ∧ H a = some (.lst (c.map V.int)) ∧ 1 ≤ c.length ∧ c.length ≤ 8 ∧ num c = c ∧
  ∀ (t : Addr) (H2 : Hp), H2 x = some (.ins C dx [("_classes", .ref t)]) → H2 t = some (.tup (c.map V.int)) → (∀ b o, b ≠ x → H b = some o → H2 b = some o) → Q .non H2
section
variable {P : Program} {w : World} {K : PySem.W.Frag} {mg : Str → Option Value} {base : Heap} {f C : Addr} {fd : FuncData} {t1 : Tok}
abbrev s_arecls : Stmt := topS 20
abbrev N_arecls : List Str := ["value", "number"]
theorem sc_arecls : FnScope N_arecls ["value"] (defScope s_arecls) := ⟨rfl, rfl, rfl, by decide +kernel, rfl, by decide +kernel, by decide +kernel⟩
theorem ok_arecls (F : Fun K "are_classes" "are_classes" s_arecls f fd) (B : Blt mg) (T : PCf K mg C) (c_is_integer : OwnK P w K mg base "is_integer" 1 ["value"] spInt) (c_numbered : OwnK P w K mg base "numbered" 1 ["marks"] (spNum K)) :
    FnOk P w K mg base CX0 2 f fd ["value"] (spAre K) := by
  refine F.ok sc_arecls (fun vs H Q E h => ?_) (fun cdv A outer s H vs Q E hr h => ?_)
  · obtain ⟨a, ms, rfl, _⟩ := h
    rfl
  · obtain ⟨a, ms, rfl, ha, l1, l8, q⟩ := h
    obtain ⟨mm, mu, crd, cvl⟩ := T.rd
    have hu := hr.units
    refine ⟨_, (pss_cons (ps_if (PW.pt (pw_or (pt_not (pt_val (pe_callB call_isiT rfl B.isinstance bo_isinstance (pa_cons (pv 0) (pa_cons (pe_tup (pa_cons (pe_bltn (v := .ty "list") rfl B.list bo_list rfl) (pa_cons (pe_bltn (v := .ty "tuple") rfl B.tuple bo_tuple rfl) pa_nil))) pa_nil))))) (pw_or1 (pt_not (pt_chain op_le op_le pe_int (pe_callB call_len_seq rfl B.len bo_len (pa_cons (pv 0) pa_nil)) (ClX.pe_cval (pe_glob (v := .ref C) rfl T.mc rfl))))))) (pss_one (ps_ret pe_bl)) pss_nil)
      (pss_cons (ps_if (pt_not (pt_val (pe_callB (cr_all rfl) rfl B.all bo_all (pa_cons (pe_lc (own := [("number", 1)]) (g := gName 1) rfl sc_arecls.nd (pi_list (pv 0)) (blkOk_by (own := [("number", 1)]) (N := N_arecls) (sc := defScope s_arecls) (by decide +kernel)) (fun _ _ _ _ _ => pg_name (i := 1) sc_arecls.nd rfl (.inl rfl)) (fun _ _ _ _ _ => pts_nil) (fun _ _ _ _ _ => (pe_ownk c_is_integer hr (by decide) (pa_cons (pv 1) pa_nil)))) pa_nil)))) (pss_one (ps_ret pe_bl)) pss_nil)
      (pss_one (ps_ret (pe_cmpR (op_eqD hu) (pe_ownk c_numbered hr (by decide) (pa_cons (pv 0) pa_nil)) (pe_callTy call_list_of rfl B.list bo_list (pa_cons (pv 0) pa_nil)) (nomark _)))))), ?_⟩
    refine ⟨.ref a, rfl, two_le, fun tp ntp => ?_⟩
    have s1 : Same H (upd H tp (.tup [.ty "list", .ty "tuple"])) := same_new ntp
    refine ⟨.ref a, tp, _, .type "list", [.type "list", .type "tuple"], true, rfl, upd_same, .cons (.ty "list") (.cons (.ty "tuple") .nil), .base (.lst (s1 _ _ ha)), kitAny_cons (b := true) (kit_ty (by decide +kernel)) (fun z => nomatch z) (fun _ => rfl), ?_⟩
    refine ⟨true, rfl, ?_⟩
    generalize upd H tp (.tup [.ty "list", .ty "tuple"]) = H1 at s1
    refine iteF ?_
    refine ⟨.ref a, rfl, a, _, rfl, .inl (.inl (.inl (s1 _ _ ha))), _, _, rfl, rfl, _, rfl, ?_⟩
    have hlen : (ms.map V.int).length = ms.length := List.length_map ..
    rw [hlen]
    refine iteDT (by omega) ⟨C, mm, _, mu, rfl, crd, cvl, ⟨_, _, rfl, rfl, _, rfl, iteNS (by omega) ?_⟩⟩
    refine ⟨.ref a, rfl, a, rfl, ⟨_, .inl (.inl (s1 _ _ ha))⟩, fun D hD => ?_⟩
    refine lc_sel walk_list (fun i => ((List.replicate ms.length true).map V.bl)[i]?) (by rw [hlen]; omega) hD (fun H3 z => .inl (.inl (z _ _ (s1 _ _ ha)))) ?_ ?_
    · rintro i x H3 H4 k kn hi z ⟨rfl, hx⟩ ky kk
      obtain ⟨m, hm, rfl⟩ := get_ints hx
      refine ⟨rfl, ?_⟩
      refine iteT (B := kn H4) ⟨.int m, rfl, m, rfl, ky _ _ ?_ (Same.refl _)⟩
      rw [List.map_replicate, List.getElem?_replicate, if_pos (by rw [hlen] at hi; exact hi)]
    · intro H3 z hD2
      have e : (ms.map V.int).length = ((List.replicate ms.length true).map V.bl).length := by simp
      rw [e, range_get] at hD2
      refine ⟨D, _, rfl, .inl (.inl hD2), ?_⟩
      have e2 : (List.replicate ms.length true).all id = true := by
        rw [List.all_eq_true]
        intro x hx
        exact (List.mem_replicate.mp hx).2
      rw [e2]
      refine ⟨true, rfl, iteF ?_⟩
      have s3 : Same H H3 := s1.trans z
      refine ⟨.ref a, rfl, a, ms, rfl, .inl (.inl (s3 _ _ ha)), by omega, fun p H4 s4 np h4 => ?_⟩
      refine ⟨.ref a, rfl, a, _, rfl, .inl (.inl (.inl (s4 _ _ (s3 _ _ ha)))), fun l nl => ?_⟩
      refine ⟨dI (num ms), dI ms, dp_ints ((same_new nl) _ _ h4), dp_ints upd_same, PySem.W.shaped_ints _, PySem.W.shaped_ints _, ?_⟩
      rw [eqv_ints]
      exact q _ (s3.trans (s4.trans (same_new nl)))
end
end Jc
namespace Jc
open PySem PySem.Spec L2
open PyProof.Rows hiding St
section
variable {P : Program} {w : World} {K : PySem.W.Frag} {mg : Str → Option Value} {base : Heap} {f C : Addr} {fd : FuncData} {t1 : Tok}
abbrev s_init : Stmt := inClass (topS 13) 1
abbrev N_init : List Str := ["self", "classes"]
theorem sc_init : FnScope N_init ["self", "classes"] (defScope s_init) := ⟨rfl, rfl, rfl, by decide +kernel, rfl, by decide +kernel, by decide +kernel⟩
theorem ok_init (F : Fun K "__init__" "Partition.__init__" s_init f fd) (B : Blt mg) (T : PCf K mg C) (c_arecls : OwnK P w K mg base "are_classes" 2 ["value"] (spAre K)) : FnOk P w K mg base CX0 3 f fd ["self", "classes"] (spInit K C) := by
  refine F.ok sc_init (fun vs H Q E h => ?_) (fun cdv A outer s H vs Q E hr h => ?_)
  · obtain ⟨x, dx, a, c, rfl, _⟩ := h
    rfl
  · obtain ⟨x, dx, a, c, rfl, hx, ha, l1, l8, hn, q⟩ := h
    refine ⟨_, (pss_cons (ps_if (pt_not (pt_val (pe_ownk c_arecls hr (by decide) (pa_cons (pv 1) pa_nil)))) (pss_one ps_never) pss_nil) (pss_one (ps_fld (pv 0) (pe_callTy call_tuple_of rfl B.tuple bo_tuple (pa_cons (pv 1) pa_nil)) rfl))), ?_⟩
    refine ⟨.ref a, rfl, a, c, rfl, ha, l1, l8, fun H2 s2 => ⟨_, rfl, iteNS hn ?_⟩⟩
    refine ⟨.ref a, rfl, a, _, rfl, .inl ⟨.inl (.inl (s2 _ _ ha)), fun t nt => ⟨.ref x, rfl, x, C, dx, [], rfl, (same_new nt) _ _ (s2 _ _ hx), T.cl, T.na, by decide, ?_⟩⟩⟩
    have hxt : t ≠ x := fun e => by
      rw [e, s2 _ _ hx] at nt
      cases nt
    refine q t _ upd_same ?_ (fun b o hb e => ?_)
    · rw [upd_ne hxt, upd_same]
    · rw [upd_ne hb]
      exact (same_new nt) _ _ (s2 _ _ e)
theorem mk_of {H : Hp} {Q : VK} {a : Addr} {c : List Int} (ha : H a = some (.lst (c.map V.int))) (l1 : 1 ≤ c.length) (l8 : c.length ≤ 8) (hn : num c = c) (q : ∀ p H2, Same H H2 → H p = none → PartAt C H2 p c → Q (.ref p) H2) :
    ∀ x dx, H x = none → H dx = none → dx ≠ x → spInit K C [.ref x, .ref a] (upd (upd H dx (.own x)) x (.ins C dx [])) (fun v H2 => v = .non ∧ Q (.ref x) H2) E0 := by
  intro x dx nx nd hne
  have s0 : Same H (upd (upd H dx (.own x)) x (.ins C dx [])) := same_mut (same_new nd) nx
  refine ⟨x, dx, a, c, rfl, upd_same, s0 _ _ ha, l1, l8, hn, fun t H2 h1 h2 k => ⟨rfl, q x H2 (fun b o e => k b o (ne_of_none e nx) (s0 _ _ e)) nx ⟨⟨dx, t, h1, h2⟩, l1, l8, hn⟩⟩⟩
/-- what the class's methods do to a partition's classes -/
def spGone (C : Addr) : Sp := fun vs H Q _ => ∃ (p : Addr) (c : List Int), vs = [.ref p] ∧ PartAt C H p c ∧ ∀ (q : Addr) (H2 : Hp), Same H H2 → H2 q = some (.lst ((members c (-1)).map V.int)) → Q (.ref q) H2
def spNew (C : Addr) (g : List Int → List Int → List Int) : Sp := fun vs H Q _ => ∃ (p : Addr) (c ts : List Int), vs = .ref p :: ts.map V.int ∧ PartAt C H p c ∧ ts.length ≤ 1000 ∧ (∀ h ∈ ts, 0 ≤ h ∧ h < (c.length : Int)) ∧ ∀ (q : Addr) (H2 : Hp), Same H H2 → PartAt C H2 q (num (g c ts)) → Q (.ref q) H2
/-- the same, its targets in a tuple that was just made -/
def spNewT (K : PySem.W.Frag) (C : Addr) (g : List Int → List Int → List Int) : Sp := fun vs H Q _ => ∃ (p t : Addr) (c ts : List Int), vs = [.ref p, .ref t] ∧ PartAt C H p c ∧ H t = some (.tup (ts.map V.int)) ∧ (∀ h ∈ ts, 0 ≤ h ∧ h < (c.length : Int)) ∧ ∀ (q : Addr) (H2 : Hp), Same H H2 → PartAt C H2 q (num (g c ts)) → Q (.ref q) H2
abbrev s_gone : Stmt := inClass (topS 13) 17
abbrev N_gone : List Str := ["self"]
theorem sc_gone : FnScope N_gone ["self"] (defScope s_gone) := ⟨rfl, rfl, rfl, by decide +kernel, rfl, by decide +kernel, by decide +kernel⟩
theorem ok_gone (F : Fun K "gone" "Partition.gone" s_gone f fd) (T : PCf K mg C) (G : TxP mg t1) (c_members : OwnK P w K mg base "_members" 1 ["classes", "number"] (spMem K)) : FnOk P w K mg base CX0 2 f fd ["self"] (spGone C) := by
  refine F.ok sc_gone (fun vs H Q E h => ?_) (fun cdv A outer s H vs Q E hr h => ?_)
  · obtain ⟨p, c, rfl, _⟩ := h
    rfl
  · obtain ⟨p, c, rfl, hp, q⟩ := h
    obtain ⟨⟨dx, t, h1, h2⟩, lo, hi, nu⟩ := hp
    refine ⟨_, (pss_one (ps_ret (pe_ownk c_members hr (by decide) (pa_cons (pe_fld (pv 0) rfl) (pa_cons (pe_glob (v := .int (-1)) rfl G.GONE ⟨_, rfl⟩) pa_nil))))), ?_⟩
    refine ⟨.ref p, rfl, p, C, dx, _, .ref t, rfl, h1, T.cl, T.na, rfl, ?_⟩
    exact ⟨t, c, -1, rfl, .inl (.inl h2), by omega, fun r H2 s2 _ h3 => q r H2 s2 h3⟩
end
end Jc
namespace Jc
open PySem PySem.Spec L2
open PyProof.Rows hiding St
section
variable {P : Program} {w : World} {K : PySem.W.Frag} {mg : Str → Option Value} {base : Heap} {f C : Addr} {fd : FuncData} {t1 : Tok}
/-- def m(self, *v): FnR, its promise about the tuple of what is handed over -/
theorem star_mk {x qual : Str} {st : Stmt} {N : List Str} {pv : Str} {k : Nat} {sp : Sp} (F : Fun K x qual st f fd) (S : FnScope N ["self", pv] (defScope st))
    (h0 : ∀ (kV doc pm : Value) (an : Option Addr) (cdv ct a : Value), bindArgs (PySem.W.fnOf x qual (defArgs st) (defBody st) (defScope st) .none kV doc pm an cdv ct) ⟨[a], []⟩ = (newTuple [] >>= fun t => pure [(("self" : Str), a), (pv, t)]))
    (h1 : ∀ (kV doc pm : Value) (an : Option Addr) (cdv ct a r : Value) (rs : List Value), bindArgs (PySem.W.fnOf x qual (defArgs st) (defBody st) (defScope st) .none kV doc pm an cdv ct) ⟨a :: r :: rs, []⟩ = (newTuple (r :: rs) >>= fun t => pure [(("self" : Str), a), (pv, t)]))
    (body : ∀ (cdv : Value) (A : Around) (outer : List Env) (s : Shared) (H : Hp) (vs : List V) (Q : VK) (E : XK), Room k (A.deeper (envOfC qual (defScope st) s.heap.objs.size f cdv)) → sp vs H Q E →
      ∃ t, PSs (cxOf CX0 P w K mg base N qual (defScope st) f cdv A outer s H E) (defBody st) t ∧ t { nx := fun _ H' => Q .non H', rt := Q } (start N vs) H) :
    FnR P w K mg base CX0 (k + 1) f (fun vs H Q E => ∃ ws rest, vs = ws ++ rest ∧ ws.length = 1 ∧ rest.length ≤ sizeLine ∧ ∀ p, H p = Option.none → sp (ws ++ [V.ref p]) (upd H p (.tup rest)) Q E) := by
  obtain ⟨oc, od, kV, doc, pm, an, cdv, ct, osl, rfl, lk, hcd⟩ := F.ex
  exact StX.fn_star (ps := ["self"]) lk hcd S StX.cxUp_none (StX.bind_star1 (B := fun us => bindArgs (PySem.W.fnOf x qual (defArgs st) (defBody st) (defScope st) .none kV doc pm an cdv ct) ⟨us, []⟩) (fun a => h0 kV doc pm an cdv ct a) (fun a r rs => h1 kV doc pm an cdv ct a r rs)) (body cdv)
theorem PartAt.put {C : Addr} {H : Hp} {p t : Addr} {c : List Int} {o : HO} (h : PartAt C H p c) (n : H t = none) : PartAt C (upd H t o) p c := h.same (same_new n)
theorem num_lenM (c ts : List Int) (m : Int) : (num (marked c ts m)).length = c.length := by rw [num_len, marked_len]
abbrev gFresh (c ts : List Int) : List Int := marked c ts c.length
abbrev gWithout (c ts : List Int) : List Int := marked c ts (-1)
end
end Jc
namespace Jc
open PySem PySem.Spec L2
open PyProof.Rows hiding St
def spCopied (C : Addr) : Sp := fun vs H Q _ => ∃ (p : Addr) (c : List Int) (t k : Nat) (m : Int), vs = [.ref p, .int (t : Int), .int (k : Int)] ∧ PartAt C H p c ∧ t < c.length ∧ c[k]? = some m ∧ ∀ (q : Addr) (H2 : Hp), Same H H2 → PartAt C H2 q (num (marked c [(t : Int)] m)) → Q (.ref q) H2
def pick (c ts : List Int) : List Int := ts.map fun h => c.getD h.toNat 0
def alikeB (c ts : List Int) : Bool := !decide ((-1) ∈ pick c ts) && ((pick c ts).map fun n => decide (n = (pick c ts).headD 0)).all id
def spAlikeT (K : PySem.W.Frag) (C : Addr) : Sp := fun vs H Q _ => ∃ (p t : Addr) (c ts : List Int), vs = [.ref p, .ref t] ∧ PartAt C H p c ∧ H t = some (.tup (ts.map V.int)) ∧ ts.length ≤ 1000 ∧ (∀ h ∈ ts, 0 ≤ h ∧ h < (c.length : Int)) ∧ ∀ (H2 : Hp), Same H H2 → Q (.bl (alikeB c ts)) H2
def spAlike (C : Addr) : Sp := fun vs H Q _ => ∃ (p : Addr) (c ts : List Int), vs = .ref p :: ts.map V.int ∧ PartAt C H p c ∧ ts.length ≤ 1000 ∧ (∀ h ∈ ts, 0 ≤ h ∧ h < (c.length : Int)) ∧ ∀ (H2 : Hp), Same H H2 → Q (.bl (alikeB c ts)) H2
theorem at_ints {ns : List Int} {i : Nat} {k : Int} (h : ns[i]? = some k) : atI (ns.map V.int) (i : Int) = some (.int k) := atI_nat (by rw [List.getElem?_map, h]; rfl)
section
variable {P : Program} {w : World} {K : PySem.W.Frag} {mg : Str → Option Value} {base : Heap} {f C : Addr} {fd : FuncData} {t1 : Tok}
abbrev s_classes : Stmt := inClass (topS 13) 4
abbrev N_classes : List Str := ["self"]
theorem sc_classes : FnScope N_classes ["self"] (defScope s_classes) := ⟨rfl, rfl, rfl, by decide +kernel, rfl, by decide +kernel, by decide +kernel⟩
theorem ok_classes (F : Fun K "classes" "Partition.classes" s_classes f fd) (T : PCf K mg C) : FnOk P w K mg base CX0 1 f fd ["self"] (getSp C "_classes") := by
  obtain ⟨oc, od, kV, doc, pm, an, cdv, ct, osl, rfl, lk, hcd⟩ := F.ex
  exact fn_getter lk hcd sc_classes rfl rfl T.cl T.na
end
end Jc
/-! ### a generator's own side: segments between two items; what a call of its def makes -/
namespace Jg
open PySem PySem.Spec L2 Jc
open PyProof.Rows hiding St

/-- a frame's object, by the names' values -/
def FrAt (scope : Scope) (N : List Str) (σ : L2.St) (o : Obj) : Prop := ∃ (m : Str → Option Value) (es : Array DictEntry) (ep : Nat), o.data = .dict es ep ∧ StrKeys es ∧ (∀ name, nsFind es name = m name) ∧
  ∀ (i : Nat) (x : Str) (v : V), N[i]? = some x → σ[i]? = some (some v) → Vis scope x → ∃ u, RelV v u ∧ scope.names.lookup x = some .local ∧ m x = some u
/-- where a generator's frame may lie -/
structure LOk (X : Cx) (L : Addr) : Prop where
  fr : ∀ b ∈ frs X.stack, b < L
  bs : X.base.objs.size ≤ L
section
variable {X : Cx} {σ : L2.St} {Hg : Hp} {s s₁ : Shared} {N : List Str} {qual : Str} {scope : Scope} {f L : Addr} {cd : Value} {fl : List (Addr × Obj × List V)}
theorem frame_of (S : ScZ N scope L) (J : Inv (zC X N qual scope f cd L s) [] σ Hg s₁) : ∃ o, s₁.heap.get? L = some o ∧ FrAt scope N σ o := by
  obtain ⟨m, ⟨o, es, ep, e1, e2, e3, e4⟩, hl⟩ := J.loc
  refine ⟨o, e1, m, es, ep, e2, e3, e4, fun i x v h1 h2 h3 => ?_⟩
  obtain ⟨u, r, l⟩ := hl i x v h1 h2 h3
  rcases l with ⟨k, e⟩ | ⟨k, _⟩
  · exact ⟨u, r, k, e⟩
  · rcases k with k | k
    · exact absurd k (S.loc x).1
    · exact absurd k (S.loc x).2
theorem frs_of {pins : List (Addr × Obj)} {σ₁ : L2.St} {H₁ : Hp} (I : Inv X pins σ₁ H₁ s) {p : Addr × Obj} (hp : p ∈ X.pn ++ pins) : p.1 ∉ frs X.stack := fun hm => by
  obtain ⟨_, _, h3, h4, _⟩ := I.pin p hp
  rcases List.mem_cons.mp (I.stkSub p.1 hm) with z | z
  · exact h3 z
  · exact h4 z
/-- woken: a segment begins -/
theorem wake_inv {fp : List (Addr × Obj)} {oL : Obj} (hw : Wake X fp s) (hc : X.calm = true) (S : ScZ N scope L) (hL : LOk X L) (hoL : (L, oL) ∈ fp) (hF : FrAt scope N σ oL) (hlen : σ.length = N.length)
    (hfl : ∀ p ∈ fl, p.1 ≠ L ∧ X.base.get? p.1 = none ∧ (p.1, p.2.1) ∈ fp ∧ LstOf p.2.1 p.2.2) : Inv (zC X N qual scope f cd L s) [] σ (zH X L fl s) s := by
  obtain ⟨pins, σ₁, H₁, I⟩ := hw
  obtain ⟨m, es, ep, e2, e3, e4, hσ⟩ := hF
  have e1 := (I.pin (L, oL) (List.mem_append_right _ (List.mem_append_right _ hoL))).1
  exact zInv I (I.ok.hd hc) S hL.fr hL.bs (m := m) ⟨oL, es, ep, e1, e2, e3, e4⟩ hlen hσ fun p hp => by
    obtain ⟨h1, h2, h3, h4⟩ := hfl p hp
    exact ⟨h1, h2, frs_of I (p := (p.1, p.2.1)) (List.mem_append_right _ (List.mem_append_right _ h3)), (I.pin (p.1, p.2.1) (List.mem_append_right _ (List.mem_append_right _ h3))).1, h4⟩

/-- the three objects of a partition -/
def onlyP (C p dx t : Addr) (c : List Int) : Hp := fun b => if b = p then some (.ins C dx [("_classes", .ref t)]) else if b = dx then some (.own p) else if b = t then some (.tup (c.map V.int)) else none
/-- an item of the kind: a partition -/
def VyP (C : Addr) (row : Nat → List Int → Prop) : Nat → V → Hp → Prop := fun n x Hn => ∃ p c, x = .ref p ∧ PartAt C Hn p c ∧ row n c
/-- an item is handed over -/
theorem yield_yp {a : Addr} {fp : List (Addr × Obj)} {oa oL0 : Obj} {C p l : Addr} {c xs : List Int} {row : Nat → List Int → Prop} {n : Nat} {kap : Resume → Shared → Prop} (S : ScZ N scope L) (hL : LOk X L) (hw : Wake X fp s) (hoa : (a, oa) ∈ fp) (hoL0 : (L, oL0) ∈ fp) (ne : a ≠ L)
    (J : Inv (zC X N qual scope f cd L s) [] σ Hg s₁) (hs : Same (zH X L fl s) Hg) (hfl : ∀ p ∈ fl, s.heap.get? p.1 = some p.2.1) (hp : PartAt C Hg p c) (hr : row n c) (hl : Hg l = some (.lst (xs.map V.int)))
    (hk : ∀ (oL ol : Obj) (s'' : Shared), FrAt scope N σ oL → LstOf ol (xs.map V.int) → l ≠ L → X.base.get? l = none → Wake X [(a, oa), (L, oL), (l, ol)] s'' → ∀ z, (z = Value.none ∨ z = .bool true) → kap (.send z) s'') :
    YP X a L (VyP C row) n s (.ref p) s₁ kap := by
  obtain ⟨⟨dx, t, h1, h2⟩, lo, hi, nu⟩ := hp
  have h3 : Hg dx = some (.own p) := (show ObjOk X.prog X.w Hg s₁.heap p (.ins C dx _) from J.hok p _ h1).1
  have hdp : dx ≠ p := (show ObjOk X.prog X.w Hg s₁.heap p (.ins C dx _) from J.hok p _ h1).2.2.1
  have htp : t ≠ p := ne_of h2 h1 (by simp)
  have htd : t ≠ dx := ne_of h2 h3 (by simp)
  have hlp : l ≠ p := ne_of hl h1 (by simp)
  have hld : l ≠ dx := ne_of hl h3 (by simp)
  have hlt : l ≠ t := ne_of hl h2 (by simp)
  have nw : ∀ {b : Addr} {u : HO}, Hg b = some u → Fresh u → s.heap.get? b = none := fun e hf => znew J hs hfl hL.fr hL.bs e hf
  obtain ⟨pins, σ₁, H₁, I⟩ := id hw
  obtain ⟨oL, eL, hF⟩ := frame_of S J
  obtain ⟨zl, its, nl, rl, el⟩ := (show ObjOk X.prog X.w Hg s₁.heap l (.lst (xs.map V.int)) from J.hok l _ hl)
  have pa := I.pin (a, oa) (List.mem_append_right _ (List.mem_append_right _ hoa))
  have aS := frs_of I (p := (a, oa)) (List.mem_append_right _ (List.mem_append_right _ hoa))
  have onl : ∀ b u, onlyP C p dx t c b = some u → Hg b = some u ∧ Fresh u := fun b u e => by
    unfold onlyP at e
    split at e
    · rename_i hb; cases Option.some.inj e; rw [hb]; exact ⟨h1, trivial⟩
    · split at e
      · rename_i hb; cases Option.some.inj e; rw [hb]; exact ⟨h3, trivial⟩
      · split at e
        · rename_i hb; cases Option.some.inj e; rw [hb]; exact ⟨h2, trivial⟩
        · cases e
  have un := zUn J hs hfl hL.fr hL.bs (Hn := onlyP C p dx t c) fun b u e => nw (onl b u e).1 (onl b u e).2
  have onone : ∀ {b : Addr}, b ≠ p → b ≠ dx → b ≠ t → onlyP C p dx t c b = none := fun {b} n1 n2 n3 => by unfold onlyP; rw [if_neg n1, if_neg n2, if_neg n3]
  have op : onlyP C p dx t c p = some (.ins C dx [("_classes", .ref t)]) := by unfold onlyP; rw [if_pos rfl]
  have od : onlyP C p dx t c dx = some (.own p) := by unfold onlyP; rw [if_neg hdp, if_pos rfl]
  have ot : onlyP C p dx t c t = some (.tup (c.map V.int)) := by unfold onlyP; rw [if_neg htp, if_neg htd, if_pos rfl]
  have lnew : s.heap.get? l = none := nw hl trivial
  have oldn : ∀ {b : Addr} {o : Obj}, s.heap.get? b = some o → onlyP C p dx t c b = none := fun {b o} e => by
    cases q : onlyP C p dx t c b with
    | none => rfl
    | some u => rw [nw (onl b u q).1 (onl b u q).2] at e; cases e
  have pL := I.pin (L, oL0) (List.mem_append_right _ (List.mem_append_right _ hoL0))
  have lL : l ≠ L := fun e => by rw [e, show s.heap.get? L = some oL0 from pL.1] at lnew; cases lnew
  have lb : X.base.get? l = none := by
    cases q : X.base.get? l with
    | none => rfl
    | some o => rw [I.bk l o q] at lnew; cases lnew
  refine ⟨.ref p, onlyP C p dx t c, [(a, oa), (L, oL), (l, { cls := .type "list", data := .seq its.toArray nl })], rfl, J.os, J.bare, un, fun b u e => ?_, ⟨p, c, rfl, ⟨⟨dx, t, op, ot⟩, lo, hi, nu⟩, hr⟩, fun q hq => ?_, ⟨oa, by simp⟩, ⟨oL, by simp⟩, fun s'' z hz hw'' => ?_⟩
  · obtain ⟨e1, _⟩ := onl b u e
    unfold onlyP at e
    split at e
    · rename_i hb
      subst hb
      cases Option.some.inj e
      obtain ⟨_, z⟩ := (show ObjOk X.prog X.w Hg s₁.heap b (.ins C dx _) from J.hok b _ h1)
      exact ⟨od, z⟩
    · split at e
      · cases Option.some.inj e
        exact (show ObjOk X.prog X.w Hg s₁.heap b (.own p) from J.hok b _ e1)
      · split at e
        · cases Option.some.inj e
          exact (show ObjOk X.prog X.w Hg s₁.heap b (.tup _) from J.hok b _ e1)
        · cases e
  · simp only [List.mem_cons, List.not_mem_nil, or_false] at hq
    rcases hq with rfl | rfl | rfl
    · exact ⟨un.keep a oa pa.1 rfl aS (by simp [ne]), oldn pa.1, .inl rfl, pa.2.2.2.2⟩
    · obtain ⟨m, es, ep, ed, _⟩ := id hF
      exact ⟨eL, oldn pL.1, .inr (.inl rfl), fun v q => by rw [show oL.data = _ from ed] at q; cases q⟩
    · exact ⟨el, onone hlp hld hlt, .inr (.inr lnew), fun v q => by cases q⟩
  · exact hk oL _ s'' hF ⟨zl, its, nl, rl, rfl⟩ lL lb hw'' z hz
/-- the generator's end -/
theorem end_fp {fp : List (Addr × Obj)} (hL : LOk X L) (J : Inv (zC X N qual scope f cd L s) [] σ Hg s₁) (hs : Same (zH X L fl s) Hg) (hfl : ∀ p ∈ fl, s.heap.get? p.1 = some p.2.1) : FP X L 0 s s₁ :=
  ⟨rfl, J.os, J.bare, zUn J hs hfl hL.fr hL.bs fun b u e => by cases e⟩
end
end Jg
/-! ### a call of a generator def, as a for sees it -/
namespace Jg
open PySem PySem.Spec L2 Jc
open PyProof.Rows hiding St

structure GSc (N ps : List Str) (sc : Scope) : Prop where
  kind : sc.kind = .function
  co : sc.isCoroutine = false
  gen : sc.isGenerator = true
  nd : N.Nodup
  pre : N.take ps.length = ps
  par : ∀ x ∈ ps, sc.names.lookup x = some .local
  z : ∀ L, ScZ N sc L
  old : GScope N ps sc
section
variable {X : Cx} {x qual : Str} {st : Stmt} {f : Addr} {fd : FuncData} {N ps : List Str}
theorem made_of (F : Fun X.K x qual st f fd) (S : GSc N ps (defScope st)) {pins : List (Addr × Obj)} {σ : L2.St} {H : Hp} {s : Shared} {args : Args} {us : List Value} {vs : List V} {n : Nat} {Vy : Nat → V → Hp → Prop}
    (I : Inv X pins σ H s) (hh : X.A.handled = none) (hd : X.A.depth < recursionLimit) (hb : BindsTo s fd args (ps.zip us)) (r : Vals vs us) (hl : vs.length = ps.length)
    (seg : ∀ (cdv : Value) (a : Addr) (oa : Obj) (L : Addr) (oL : Obj) (fp : List (Addr × Obj)) (s'' : Shared), (a, oa) ∈ fp → (L, oL) ∈ fp → a ≠ L → LOk X L → FrAt (defScope st) N (L2.start N vs) oL → Wake X fp s'' →
      Seg (model X.prog X.w) X.A.in1 (RP X L) (YP X a L Vy) n s'' (.func (defBody st) (envOfC qual (defScope st) L f cdv)) ((model X.prog X.w).den (.func (defBody st) (envOfC qual (defScope st) L f cdv))) [] s'') {E : Value → Shared → Prop} :
    wpAny (model X.prog X.w) X.A (call (.ref f) args.pos args.kw) (fun u s' => ∃ a g L fp, u = .ref a ∧ Inv X (pins ++ fp) σ H s' ∧ Asleep X pins Vy n a g L fp s') E s := by
  obtain ⟨apos, akw⟩ := args
  dsimp only at hb ⊢
  obtain ⟨oc, od, kV, doc, pm, an, cdv, ct, osl, rfl, lk, hcd⟩ := F.ex
  have KX : X.K.In s.heap := I.kIn
  have lim : s.heap.NoLimit := I.nolimit
  have hkind : ∀ y ∈ ps.zip us, (defScope st).names.lookup y.1 = some .local ∨ ((defScope st).names.lookup y.1 = some .cell ∧ ((cellsFrom (s.heap.objs.size + 1) (defScope st).names []).lookup y.1).isSome = true) := fun ⟨n, v⟩ hy => .inl (S.par n (List.of_mem_zip hy).1)
  refine wpAny_call (codeAny_mono (R := fun r s' => match r with | .ok (.ret u) => ∃ a g L fp, u = .ref a ∧ Inv X (pins ++ fp) σ H s' ∧ Asleep X pins Vy n a g L fp s' | _ => False) ?_ fun rs s2 z => ?_)
  rotate_left
  · match rs, z with
    | .ok (.ret u), z => exact z
    | .ok .next, z => exact z.elim
    | .ok .brk, z => exact z.elim
    | .ok .cont, z => exact z.elim
    | .error _, z => exact z.elim
  refine codeAny_call_generator hd (KX _ _ lk) rfl S.co S.gen rfl (PySem.W.codeRec_of KX hcd) (hb _ _ _ _ ?_)
  refine wpAny_newFunctionEnv_cells S.kind hkind fun env he s1 x => ?_
  subst he
  have lim1 : s1.heap.NoLimit := lim.keeps x.toInCall.keep
  refine ⟨lim1, ?_⟩
  obtain ⟨h1, tk, es1, hk1⟩ := x.done
  have os1 : s1.os = s.os := by rw [es1]
  have gen1 : s1.gens = s.gens := by rw [es1]
  have lt1 : s.heap.objs.size < s1.heap.objs.size := x.toInCall.ns.lt
  have kp1 : ∀ b o, s.heap.get? b = some o → s1.heap.get? b = some o := x.toInCall.keep
  have LO : LOk X s.heap.objs.size := ⟨fun b hb => let ⟨o, ho⟩ := frs_none I hb; Heap.lt_size ho, Nat.le_trans I.ok.bsz I.sz⟩
  have main : ∀ (go : Obj) (nm qn : Value) (tk2 : Nat), go.cls = .type "generator" → go.data = .fields #[.int s1.gens.size 0, nm, qn] → go.slots = #[] → (∀ h : Heap, (h.push go).get? h.objs.size = some go) →
      ∃ a g L fp, (Value.ref s1.heap.objs.size) = .ref a ∧ Inv X (pins ++ fp) σ H { s1 with gens := s1.gens.push (.fresh (.func (defBody st) (envOfC qual (defScope st) s.heap.objs.size f cdv))), toks := tk2, heap := s1.heap.push go } ∧
        Asleep X pins Vy n a g L fp { s1 with gens := s1.gens.push (.fresh (.func (defBody st) (envOfC qual (defScope st) s.heap.objs.size f cdv))), toks := tk2, heap := s1.heap.push go } := by
    intro go nm qn tk2 hgc hgd0 hgs hgp
    obtain ⟨oL, es, ep, eL, d2, d3, d4⟩ := x.toInCall.ns
    have eL2 : (s1.heap.push go).get? s.heap.objs.size = some oL := Heap.get?_push_of_some _ eL
    have hpushed : (s1.heap.push go).get? s1.heap.objs.size = some go := hgp _
    have I1 : Inv X pins σ H { s1 with gens := s1.gens.push (.fresh (.func (defBody st) (envOfC qual (defScope st) s.heap.objs.size f cdv))), toks := tk2, heap := s1.heap.push go } := by
      have hbare : AllBare (s1.gens.push (.fresh (.func (defBody st) (envOfC qual (defScope st) s.heap.objs.size f cdv)))) := AllBare.push (by rw [gen1]; exact I.bare) rfl
      exact Inv.regen (I.kept (t' := tk2) (h' := s1.heap.push go) fun b o e => Heap.get?_push_of_some _ (kp1 b o e)) rfl os1 hbare
    have young : ∀ b, s.heap.objs.size ≤ b → FpOk X pins H b := fun b hb => I.fpOk hb (I.hok.fresh hb)
    have yL := young _ (Nat.le_refl _)
    have ya := young s1.heap.objs.size (Nat.le_of_lt lt1)
    have FR : FrAt (defScope st) N (L2.start N vs) oL := by
      have J := inv_startG (E := E0) S.old hh ((show Env0 X.prog X.w X.K X.mg X.base X.A X.stack s H from I.env0)) hl r x
      obtain ⟨m, ⟨o, es', ep', e1, e2, e3, e4⟩, hlk⟩ := J.loc
      have eo : o = oL := Option.some.inj (e1.symm.trans eL)
      subst eo
      refine ⟨m, es', ep', e2, e3, e4, fun i y v h1 h2 h3 => ?_⟩
      obtain ⟨u, ru, lk⟩ := hlk i y v h1 h2 h3
      rcases lk with ⟨k, e⟩ | ⟨k, _⟩
      · exact ⟨u, ru, k, e⟩
      · rcases k with k | k
        · exact absurd k ((S.z 0).loc y).1
        · exact absurd k ((S.z 0).loc y).2
    refine ⟨s1.heap.objs.size, s1.gens.size, s.heap.objs.size, [(s1.heap.objs.size, go), (s.heap.objs.size, oL)], rfl, I1.pins_of fun p hp => ?_, ⟨⟨go, nm, qn, hpushed, hgc, hgd0, hgs⟩, ⟨go, by simp⟩, ⟨oL, by simp⟩, Nat.ne_of_gt lt1, ⟨yL.2.2.2.1, yL.2.1, yL.2.2.2.2.1, yL.2.2.2.2.2⟩, _, Array.getElem?_push_size .., fun s'' hw => ⟨rfl, ?_⟩⟩⟩
    · rcases List.mem_append.mp hp with z | z
      · exact I1.pin p (List.mem_append_right _ z)
      · simp only [List.mem_cons, List.not_mem_nil, or_false] at z
        rcases z with rfl | rfl
        · exact ⟨hpushed, ya.1, ya.2.1, ya.2.2.1, fun v q => by rw [show go.data = _ from hgd0] at q; cases q⟩
        · exact ⟨eL2, yL.1, yL.2.1, yL.2.2.1, fun v q => by rw [show oL.data = _ from d2] at q; cases q⟩
    · exact seg cdv s1.heap.objs.size go s.heap.objs.size oL _ s'' (by simp) (by simp) (Nat.ne_of_gt lt1) LO FR hw
  exact main _ _ _ _ rfl rfl rfl fun h => Heap.get?_push_size _ rfl
end
/-- a generator def's promise: how many items, what they are -/
abbrev SpN := List V → Hp → Nat → (Nat → V → Hp → Prop) → Prop
structure OwnG (P : Program) (w : World) (K : PySem.W.Frag) (mg : Str → Option Value) (base : Heap) (x : Str) (k : Nat) (ps : List Str) (sp : SpN) : Prop where
  ex : ∃ (f : Addr) (fd : FuncData), mg x = some (.ref f) ∧ PySem.W.keepIn K (.ref f) = true ∧ (∀ vs H n Vy, sp vs H n Vy → vs.length = ps.length) ∧ Binds K fd ps [] ∧ (∀ (s : Shared) (u : Value), ps.length = 1 → BindsTo s fd ⟨[], ps.zip [u]⟩ (ps.zip [u])) ∧
    ∀ (X : Cx), X.prog = P → X.w = w → X.K = K → X.mg = mg → X.base = base → X.calm = true → Room k X.A → ∀ (pins : List (Addr × Obj)) (σ : L2.St) (H : Hp) (s : Shared) (args : Args) (us : List Value) (vs : List V) (n : Nat) (Vy : Nat → V → Hp → Prop), Inv X pins σ H s → Vals vs us → sp vs H n Vy →
      BindsTo s fd args (ps.zip us) → ∀ E, wpAny (model X.prog X.w) X.A (call (.ref f) args.pos args.kw) (fun u s' => ∃ a g L fp, u = .ref a ∧ Inv X (pins ++ fp) σ H s' ∧ Asleep X pins Vy n a g L fp s') E s
def tGenM (sp : SpN) (t : TA) : TGm := fun σ H R => t σ H fun vs H1 => ∃ n Vy, sp vs H1 n Vy ∧ R n Vy H1
theorem pgm_own {X : Cx} {x : Str} {k j : Nat} {ps : List Str} {sp : SpN} {p pos : Pos} {e : Expr} {es : List Expr} {t : TA} (c : OwnG X.prog X.w X.K X.mg X.base x k ps sp) (hcalm : X.calm = true) (hr : Room j X.A) (hj : k ≤ j) (ha : PA X (e :: es) t) (hg : Gl X x := by rfl) (hdb : (x == ("__debug__" : Str)) = false := by decide)
    (he : starEach (e :: es) X.env = (false, eval e X.env) :: starEach es X.env := by rfl) (hpl : (backTo pos (starEach es X.env)).any (·.1) = false := by rfl) : PGm X (.Call (.Name x p) (e :: es) [] pos) (tGenM sp t) := by
  obtain ⟨f, fd, hm, hk, hlen, hb, _, G⟩ := c.ex
  refine ⟨fun pins s σ H R I h => wpAny_Call_Name_kw (ld_glob I hg hm ?_ hdb)⟩
  refine PySem.W.callWith_K (h₀ := X.base) I.ok.mod.kin hk (thn (ha.run pos pins s σ H _ I h) fun us s1 z => ?_) he hpl
  obtain ⟨vs, H1, I1, r, n, Vy, q, hR⟩ := z
  refine ⟨I1.kIn, thn (G X rfl rfl rfl rfl rfl hcalm (hr.mono hj) pins σ H1 s1 ⟨us, []⟩ us vs n Vy I1 r q (by have z := hb s1 us I1.kIn (by rw [List.append_nil]; exact r.length.symm.trans (hlen _ _ _ _ q)); rw [List.append_nil] at z; exact z) _) fun u s2 ⟨a, g, L, fp, e1, e2, e3⟩ => ⟨n, Vy, H1, a, g, L, fp, e1, e2, e3, hR⟩⟩
/-- f(a = e) of a generator def -/
theorem pgm_ownK {X : Cx} {x a : Str} {k j : Nat} {sp : SpN} {p pos : Pos} {kws : List Keyword} {tk : TA} (c : OwnG X.prog X.w X.K X.mg X.base x k [a] sp) (hcalm : X.calm = true) (hr : Room j X.A) (hj : k ≤ j) (hkw : PK X kws tk) (hg : Gl X x := by rfl) (hdb : (x == ("__debug__" : Str)) = false := by decide)
    (hall : (backToKw pos (keywordEach kws X.env)).all (·.1.isSome) = true := by rfl) (hks : (backToKw pos (keywordEach kws X.env)).filterMap (·.1) = [a] := by rfl)
    (hpl : ((backTo pos (starEach [] X.env)).any (·.1) || (backToKw pos (keywordEach kws X.env)).any (·.1.isNone)) = false := by rfl) : PGm X (.Call (.Name x p) [] kws pos) (tGenM sp tk) := by
  obtain ⟨f, fd, hm, hk, hlen, _, hb, G⟩ := c.ex
  refine ⟨fun pins s σ H R I h => wpAny_Call_Name_kw (ld_glob I hg hm ?_ hdb)⟩
  refine PySem.W.callWith_KW0 (h₀ := X.base) I.ok.mod.kin hk hall (thn (hkw.run pos pins s σ H _ I h) fun ws s1 z => ?_) hpl
  obtain ⟨vs, H1, I1, r, n, Vy, q, hR⟩ := z
  refine ⟨I1.kIn, ?_⟩
  rw [hks]
  have l1 : vs.length = 1 := hlen _ _ _ _ q
  obtain ⟨u, rfl⟩ : ∃ u, ws = [u] := by
    have l2 : ws.length = 1 := r.length.symm.trans l1
    match ws, l2 with
    | [u], _ => exact ⟨u, rfl⟩
  exact thn (G X rfl rfl rfl rfl rfl hcalm (hr.mono hj) pins σ H1 s1 ⟨[], [(a, u)]⟩ [u] vs n Vy I1 r q (hb s1 u rfl) _) fun u s2 ⟨a, g, L, fp, e1, e2, e3⟩ => ⟨n, Vy, H1, a, g, L, fp, e1, e2, e3, hR⟩
end Jg
/-! ### _next_classes, _check_many, all_partitions -/
namespace Jg
open PySem PySem.Spec L2 Jc
open PyProof.Rows hiding St
def nextAt (c : List Int) : Nat → Option (List Int)
  | 0 => none
  | k + 1 => if (c.take (k + 1)).any (fun y => decide (c.getD (k + 1) 0 ≤ y)) = true then some (c.take (k + 1) ++ [c.getD (k + 1) 0 + 1] ++ List.replicate (c.length - (k + 1) - 1) 0) else nextAt c k
def nextC (c : List Int) : Option (List Int) := nextAt c (c.length - 1)
def iterR : Nat → List Int → List (List Int)
  | 0, _ => []
  | n + 1, c => c :: match nextC c with
    | none => []
    | some d => iterR n d
def rowsOf (n : Nat) : List (List Int) := iterR 5000 (List.replicate n 0)
theorem cut_take {xs : List V} {k : Nat} (h : k ≤ xs.length) : cutV xs none (some (k : Int)) = xs.take k := by
  have e : HT.sIx xs.length xs.length (some (k : Int)) = k := by
    have h0 : ¬ ((k : Int) < 0) := by omega
    simp only [HT.sIx, if_neg h0] <;> omega
  have e0 : HT.sIx xs.length 0 none = 0 := rfl
  unfold cutV
  rw [e, e0]
  simp
def spNext (K : PySem.W.Frag) : Sp := fun vs H Q _ => ∃ (l : Addr) (c : List Int), vs = [.ref l] ∧ SqL K H l (c.map V.int) ∧ 1 ≤ c.length ∧ c.length ≤ 8 ∧
  ∀ H2, Same H H2 → match nextC c with
    | none => Q .non H2
    | some d => ∀ p, H p = none → H2 p = some (.lst (d.map V.int)) → Q (.ref p) H2
def spMany : Sp := fun vs H Q _ => ∃ n : Nat, vs = [.int (n : Int)] ∧ 1 ≤ n ∧ n ≤ 8 ∧ Q .non H
section
variable {P : Program} {w : World} {K : PySem.W.Frag} {mg : Str → Option Value} {base : Heap} {f C : Addr} {fd : FuncData} {t1 : Tok}
abbrev s_nextc : Stmt := topS 25
abbrev N_nextc : List Str := ["classes", "place"]
theorem sc_nextc : FnScope N_nextc ["classes"] (defScope s_nextc) := ⟨rfl, rfl, rfl, by decide +kernel, rfl, by decide +kernel, by decide +kernel⟩
theorem ok_nextc (F : Fun K "_next_classes" "_next_classes" s_nextc f fd) (B : Blt mg) : FnOk P w K mg base CX0 1 f fd ["classes"] (spNext K) := by
  refine F.ok sc_nextc (fun vs H Q E h => ?_) (fun cdv A outer s H vs Q E hr h => ?_)
  · obtain ⟨l, c, rfl, _⟩ := h
    rfl
  · obtain ⟨l, c, rfl, hl, l1, l8, k⟩ := h
    refine ⟨_, (pss_cons (ps_for PassesOwn.never rfl (pi_revR rfl B.reversed (prg_2 rfl B.range pe_int (pe_callB call_len_seq rfl B.len bo_len (pa_cons (pv 0) pa_nil)))) (pg_name (i := 1) sc_nextc.nd rfl (.inl rfl)) (pss_one (ps_if (pt_cmpR op_le (pe_ix ix_list (pv 0) (pv 1) (fun _ _ => rfl)) (pe_callB (cr_max rfl) rfl B.max bo_max (pa_cons (pe_slice sl_list (pv 0) po_none (po_some (pv 1))) pa_nil)) (nomark _)) (pss_one (ps_ret (pe_op op_cat (pe_op op_cat (pe_slice sl_list (pv 0) po_none (po_some (pv 1))) (pe_lst (pa_cons (pe_op op_add (pe_ix ix_list (pv 0) (pv 1) (fun _ _ => rfl)) pe_int) pa_nil))) (pe_op op_rep (pe_lst (pa_cons pe_int pa_nil)) (pe_op op_sub (pe_op op_sub (pe_callB call_len_seq rfl B.len bo_len (pa_cons (pv 0) pa_nil)) (pv 1)) pe_int))))) pss_nil))) (pss_one (ps_ret pe_non))), ?_⟩
    have hlen : (c.map V.int).length = c.length := List.length_map ..
    refine ⟨.ref l, rfl, l, _, rfl, .inl hl, ?_⟩
    rw [hlen]
    refine ⟨1, _, rfl, rfl, by decide, by decide, by omega, by omega, for_rangeC (n := ((c.length : Int) - 1).toNat) (fun i σ H2 => i ≤ c.length - 1 ∧ Same H H2 ∧ (∃ o, σ = [some (.ref l), o]) ∧ nextC c = nextAt c (c.length - 1 - i)) ⟨Nat.zero_le _, Same.refl _, ⟨_, rfl⟩, rfl⟩ (fun i σ H2 hi z => ?_) fun σ H2 z => ?_⟩
    · obtain ⟨hi2, s2, ⟨o, rfl⟩, hnx⟩ := z
      obtain ⟨pl, hpl⟩ : ∃ pl : Nat, c.length - 1 - i = pl + 1 := ⟨c.length - 1 - i - 1, by omega⟩
      have e : (1 : Int) + ((((c.length : Int) - 1).toNat : Nat) : Int) - 1 + (i : Int) * (-1) = ((pl + 1 : Nat) : Int) := by omega
      rw [e]
      have hk : pl + 1 < c.length := by omega
      have hat : (c.map V.int)[pl + 1]? = some (.int (c.getD (pl + 1) 0)) := by
        rw [List.getElem?_map, List.getElem?_eq_getElem hk]
        simp [List.getD, List.getElem?_eq_getElem hk]
      have sl2 := s2.seq hl
      refine ⟨.ref l, rfl, .int _, rfl, l, _, _, .int (c.getD (pl + 1) 0), rfl, rfl, sl2, atI_nat hat, ?_⟩
      refine ⟨.ref l, rfl, .int _, rfl, _, rfl, l, _, rfl, sl2, fun p np => ?_⟩
      rw [cut_take (by rw [hlen]; omega), ← List.map_take]
      have sp : Same H2 (upd H2 p (.lst ((c.take (pl + 1)).map V.int))) := same_new np
      refine ⟨p, _, rfl, .inl (.inl upd_same), by rw [List.length_take]; omega, fun m hm hmax => ?_⟩
      have hany : (c.take (pl + 1)).any (fun y => decide (c.getD (pl + 1) 0 ≤ y)) = decide (c.getD (pl + 1) 0 ≤ m) := by
        by_cases h : c.getD (pl + 1) 0 ≤ m
        · rw [decide_eq_true h]
          exact List.any_eq_true.mpr ⟨m, hm, decide_eq_true h⟩
        · rw [decide_eq_false h]
          exact List.any_eq_false.mpr fun y hy z => h (Int.le_trans (of_decide_eq_true z) (hmax y hy))
      have hnx2 : nextC c = if decide (c.getD (pl + 1) 0 ≤ m) = true then some (c.take (pl + 1) ++ [c.getD (pl + 1) 0 + 1] ++ List.replicate (c.length - (pl + 1) - 1) 0) else nextAt c pl := by
        rw [hnx, hpl, ← hany]; rfl
      refine ⟨_, _, rfl, rfl, _, rfl, ?_⟩
      by_cases h : c.getD (pl + 1) 0 ≤ m
      · rw [decide_eq_true h] at hnx2
        rw [if_pos rfl] at hnx2
        refine iteDT h ?_
        have slp := sp.seq sl2
        generalize upd H2 p (.lst ((c.take (pl + 1)).map V.int)) = H3 at sp slp
        have s3 := s2.trans sp
        refine ⟨.ref l, rfl, .int _, rfl, _, rfl, l, _, rfl, slp, fun q nq => ?_⟩
        rw [cut_take (by rw [hlen]; omega), ← List.map_take]
        have s4 : Same H3 (upd H3 q (.lst ((c.take (pl + 1)).map V.int))) := same_new nq
        have hq : upd H3 q (.lst ((c.take (pl + 1)).map V.int)) q = some (.lst ((c.take (pl + 1)).map V.int)) := upd_same
        have sl4 := s4.seq slp
        generalize upd H3 q (.lst ((c.take (pl + 1)).map V.int)) = H4 at s4 sl4 hq
        refine ⟨.ref l, rfl, .int _, rfl, l, _, _, .int (c.getD (pl + 1) 0), rfl, rfl, sl4, atI_nat hat, ?_⟩
        refine ⟨_, _, rfl, rfl, le_line (by show (1 : Nat) ≤ 1000000; decide), fun r nr => ?_⟩
        have s5 : Same H4 (upd H4 r (.lst [.int (c.getD (pl + 1) 0 + 1)])) := same_new nr
        have hr5 : upd H4 r (.lst [.int (c.getD (pl + 1) 0 + 1)]) r = some (.lst ([c.getD (pl + 1) 0 + 1].map V.int)) := upd_same
        have hq5 := s5 _ _ hq
        have sl5 := s5.seq sl4
        generalize upd H4 r (.lst [.int (c.getD (pl + 1) 0 + 1)]) = H5 at s5 sl5 hr5 hq5
        refine ⟨q, r, _, _, rfl, rfl, hq5, hr5, le_line (by rw [List.length_map, List.length_map, List.length_take]; show min (pl + 1) c.length + 1 ≤ 1000000; omega), fun q6 n6 => ?_⟩
        rw [← List.map_append]
        have s6 : Same H5 (upd H5 q6 (.lst ((c.take (pl + 1) ++ [c.getD (pl + 1) 0 + 1]).map V.int))) := same_new n6
        have h6 : upd H5 q6 (.lst ((c.take (pl + 1) ++ [c.getD (pl + 1) 0 + 1]).map V.int)) q6 = some (.lst ((c.take (pl + 1) ++ [c.getD (pl + 1) 0 + 1]).map V.int)) := upd_same
        have sl6 := s6.seq sl5
        generalize upd H5 q6 (.lst ((c.take (pl + 1) ++ [c.getD (pl + 1) 0 + 1]).map V.int)) = H6 at s6 sl6 h6
        refine ⟨le_line (by show (1 : Nat) ≤ 1000000; decide), fun q7 n7 => ?_⟩
        have s7 : Same H6 (upd H6 q7 (.lst [.int 0])) := same_new n7
        have h7 : upd H6 q7 (.lst [.int 0]) q7 = some (.lst [.int 0]) := upd_same
        have h67 := s7 _ _ h6
        have sl7 := s7.seq sl6
        generalize upd H6 q7 (.lst [.int 0]) = H7 at s7 sl7 h67 h7
        refine ⟨.ref l, rfl, l, _, rfl, .inl sl7, ?_⟩
        rw [hlen]
        refine ⟨.int _, rfl, _, _, rfl, rfl, _, _, rfl, rfl, ?_⟩
        have ek : ((c.length : Int) - ((pl + 1 : Nat) : Int) - 1).toNat = c.length - (pl + 1) - 1 := by omega
        refine ⟨q7, _, [.int 0], rfl, rfl, h7, by omega, by omega, le_line (by rw [ek]; show 1 * (c.length - (pl + 1) - 1) ≤ 1000000; omega), fun q8 n8 => ?_⟩
        rw [ek]
        have hz : (List.replicate (c.length - (pl + 1) - 1) [V.int 0]).flatten = (List.replicate (c.length - (pl + 1) - 1) (0 : Int)).map V.int := by
          generalize c.length - (pl + 1) - 1 = j
          induction j with
          | zero => rfl
          | succ j ih => rw [List.replicate_succ, List.replicate_succ, List.flatten_cons, ih]; rfl
        rw [hz]
        have s8 : Same H7 (upd H7 q8 (.lst ((List.replicate (c.length - (pl + 1) - 1) (0 : Int)).map V.int))) := same_new n8
        have h8 : upd H7 q8 (.lst ((List.replicate (c.length - (pl + 1) - 1) (0 : Int)).map V.int)) q8 = some (.lst ((List.replicate (c.length - (pl + 1) - 1) (0 : Int)).map V.int)) := upd_same
        have h68 := s8 _ _ h67
        generalize upd H7 q8 (.lst ((List.replicate (c.length - (pl + 1) - 1) (0 : Int)).map V.int)) = H8 at s8 h8 h68
        refine ⟨q6, q8, _, _, rfl, rfl, h68, h8, le_line (by simp only [List.length_map, List.length_append, List.length_take, List.length_replicate, List.length_singleton]; omega), fun q9 n9 => ?_⟩
        rw [← List.map_append]
        have s9 := s3.trans (s4.trans (s5.trans (s6.trans (s7.trans s8))))
        have := k (upd H8 q9 (.lst ((c.take (pl + 1) ++ [c.getD (pl + 1) 0 + 1] ++ List.replicate (c.length - (pl + 1) - 1) 0).map V.int))) (s9.trans (same_new n9))
        rw [hnx2] at this
        exact this q9 (s9.free n9) upd_same
      · rw [decide_eq_false h] at hnx2
        rw [if_neg Bool.false_ne_true] at hnx2
        refine iteDF h ?_
        refine ⟨by omega, s2.trans sp, ⟨_, rfl⟩, ?_⟩
        rw [hnx2]
        have e : c.length - 1 - (i + 1) = pl := by omega
        rw [e]
    · obtain ⟨_, s2, _, hnx⟩ := z
      have e : c.length - 1 - ((c.length : Int) - 1).toNat = 0 := by omega
      rw [e] at hnx
      have := k H2 s2
      rw [hnx] at this
      exact this
abbrev s_cmany : Stmt := topS 16
abbrev N_cmany : List Str := ["many"]
theorem sc_cmany : FnScope N_cmany ["many"] (defScope s_cmany) := ⟨rfl, rfl, rfl, by decide +kernel, rfl, by decide +kernel, by decide +kernel⟩
theorem ok_cmany (F : Fun K "_check_many" "_check_many" s_cmany f fd) (T : PCf K mg C) (c_int : OwnK P w K mg base "is_integer" 1 ["value"] spInt) : FnOk P w K mg base CX0 2 f fd ["many"] spMany := by
  refine F.ok sc_cmany (fun vs H Q E h => ?_) (fun cdv A outer s H vs Q E hr h => ?_)
  · obtain ⟨n, rfl, _⟩ := h
    rfl
  · obtain ⟨n, rfl, n1, n8, q⟩ := h
    obtain ⟨mm, mu, crd, cvl⟩ := T.rd
    refine ⟨_, (pss_one (ps_if (PW.pt (pw_or (pt_not (pt_val (pe_ownk c_int hr (by decide) (pa_cons (pv 0) pa_nil)))) (pw_or1 (pt_not (pt_chain op_le op_le pe_int (pv 0) (ClX.pe_cval (pe_glob (v := .ref C) rfl T.mc rfl)))))))
      (pss_one ps_never) pss_nil)), ?_⟩
    refine ⟨.int _, rfl, _, rfl, _, rfl, iteF ?_⟩
    refine ⟨_, rfl, _, _, rfl, rfl, _, rfl, ?_⟩
    refine iteDT (by omega) ⟨C, mm, _, mu, rfl, crd, cvl, _, _, rfl, rfl, _, rfl, ?_⟩
    exact iteNS (by omega) q
end
end Jg
namespace Jc
open PySem PySem.Spec L2
open PyProof.Rows hiding St
/-! ### zip of two tuples -/
def Znt (K : PySem.W.Frag) (a b : Addr) : L2.It :=
  ⟨fun i H => ∃ xs ys x y, SqT K H a xs ∧ SqT K H b ys ∧ xs[i]? = some x ∧ ys[i]? = some y, fun i H v H' => ∃ T x y, v = .ref T ∧ H T = none ∧ H' = upd H T (.tup [x, y]) ∧ (∀ xs, SqT K H a xs → xs[i]? = some x) ∧ ∀ ys, SqT K H b ys → ys[i]? = some y,
    fun i H => ∃ xs ys, SqT K H a xs ∧ SqT K H b ys ∧ i ≤ xs.length ∧ i ≤ ys.length ∧ (i = xs.length ∨ i = ys.length)⟩
def znTurn (z TI TO i1 i2 a b : Addr) (i : Nat) (h : Heap) : Prop := IsZip h z TI TO .none ∧ IsTupOf2 h TI (.ref i1) (.ref i2) ∧ (∃ x y, IsTupOf2 h TO x y) ∧ h.IsTupleIter i1 a i ∧ h.IsTupleIter i2 b i
theorem zn_all {P : Addr → Prop} {z TI TO i1 i2 : Addr} (h1 : P z) (h2 : P TI) (h3 : P TO) (h4 : P i1) (h5 : P i2) : ∀ c ∈ [z, TI, TO, i1, i2], P c := fun c hc => by
  simp only [List.mem_cons, List.not_mem_nil, or_false] at hc
  rcases hc with e | e | e | e | e
  · exact e ▸ h1
  · exact e ▸ h2
  · exact e ▸ h3
  · exact e ▸ h4
  · exact e ▸ h5
theorem turn_znt {P : Program} {w : World} {K : PySem.W.Frag} {elts : List Expr} {kk : Nat} {tpos : Pos} {a b z TI TO i1 i2 : Addr} (D : ZipSep2 z TI TO i1 i2 [i1, a] [i2, b]) :
    Turn P w K (.Tuple elts kk tpos) (Znt K a b) [z, TI, TO, i1, i2] z (znTurn z TI TO i1 i2 a b) where
  mem := List.mem_cons_self
  obj := fun i h st => by
    obtain ⟨hz, hTI, ⟨x, y, hTO⟩, ⟨o1, e1, _, d1⟩, ⟨o2, e2, _, d2⟩⟩ := st
    exact zn_all ⟨_, hz, fun v q => nomatch q⟩ ⟨_, hTI, fun v q => nomatch q⟩ ⟨_, hTO, fun v q => nomatch q⟩ ⟨o1, e1, fun v q => by rw [d1] at q; cases q⟩ ⟨o2, e2, fun v q => by rw [d2] at q; cases q⟩
  keep := fun i h h' st k => by
    obtain ⟨hz, hTI, ⟨x, y, hTO⟩, h1, h2⟩ := st
    exact ⟨k z (by simp) _ hz, k TI (by simp) _ hTI, ⟨x, y, k TO (by simp) _ hTO⟩, h1.at fun o q => k i1 (by simp) o q, h2.at fun o q => k i2 (by simp) o q⟩
  item := by
    intro X hP hw hK hc i pins s σ H E I hf st hg
    subst hP hw hK
    obtain ⟨hz, hTI, ⟨x0, y0, hTO⟩, h1, h2⟩ := st
    obtain ⟨xs, ys, x, y, hqx, hqy, hx, hy⟩ := hg
    obtain ⟨its, rv, p, _⟩ := I.tuple hqx
    obtain ⟨its2, rv2, p2, _⟩ := I.tuple hqy
    obtain ⟨u, hu, ru⟩ := rv.get hx
    obtain ⟨u2, hu2, ru2⟩ := rv2.get hy
    have hd : X.A.in1.handled = none := I.ok.hd hc
    have n1 : a ≠ i1 := fun e => by
      obtain ⟨o, eo, ec, _⟩ := h1
      obtain ⟨o', eo', ec', _⟩ := (show s.heap.IsTuple a its.toArray from p)
      rw [e, eo] at eo'
      cases eo'
      exact absurd (ec.symm.trans ec') (by intro q; injection q with q; exact absurd q (by decide))
    have n2 : b ≠ i2 := fun e => by
      obtain ⟨o, eo, ec, _⟩ := h2
      obtain ⟨o', eo', ec', _⟩ := (show s.heap.IsTuple b its2.toArray from p2)
      rw [e, eo] at eo'
      cases eo'
      exact absurd (ec.symm.trans ec') (by intro q; injection q with q; exact absurd q (by decide))
    have l1 : i < its.toArray.size := by simpa using (List.getElem?_eq_some_iff.mp hu).1
    have l2 : i < its2.toArray.size := by simpa using (List.getElem?_eq_some_iff.mp hu2).1
    have hzl : z < s.heap.objs.size := Heap.lt_size hz
    refine wpAny_pyNext_zipD2_item D (Draws.tuple hd i1 a n1 its.toArray) (Draws.tuple hd i2 b n2 its2.toArray) hz hTI hTO ⟨h1, p⟩ ⟨h2, p2⟩ l1 l2 fun v1 v2 h' tk q1 q2 z' TO' t1 t2 hT hsz hk => ?_
    have ev1 : v1 = u := by
      have q : its.toArray[i]? = some v1 := q1
      rw [List.getElem?_toArray, hu] at q
      exact (Option.some.inj q).symm
    have ev2 : v2 = u2 := by
      have q : its2.toArray[i]? = some v2 := q2
      rw [List.getElem?_toArray, hu2] at q
      exact (Option.some.inj q).symm
    subst ev1 ev2
    refine ⟨_, rfl, wpAny_letOwnedTupleGo_zip (s := { s with heap := h', toks := tk }) z' fun h'' z'' sb => ?_⟩
    have hT2 : IsTupOf2 h'' s.heap.objs.size v1 v2 := (sb.2 _ (Nat.ne_of_gt hzl)).trans hT
    have new : ObjOk X.prog X.w (upd H s.heap.objs.size (.tup [x, y])) h'' s.heap.objs.size (.tup [x, y]) := ⟨two_le, [v1, v2], .cons ru (.cons ru2 .nil), ⟨_, hT2, rfl, _, rfl⟩⟩
    have I1 : Inv X pins σ (upd H s.heap.objs.size (.tup [x, y])) { s with heap := h'', toks := tk } :=
      I.turnedNew (ch := [z, TI, TO, i1, i2]) (fun c o hb q => by
        have m1 : c ≠ z := fun e => hb (by simp [e])
        exact (sb.2 c m1).trans (hk c o m1 (fun e => hb (by simp [e])) (fun e => hb (by simp [e])) (fun e => hb (by simp [e])) q)) hf (Nat.le_refl _) new
    refine ⟨.ref s.heap.objs.size, _, I1, rfl, ⟨_, x, y, rfl, I.hok.fresh (Nat.le_refl _), rfl, fun l hl => by rw [I.tuple_inj hl hqx]; exact hx, fun l hl => by rw [I.tuple_inj hl hqy]; exact hy⟩, ⟨z'', ?_, ⟨v1, v2, (sb.2 _ D.TOz).trans TO'⟩, t1.1.at fun o q => (sb.2 _ (Ne.symm D.zi1)).trans q, t2.1.at fun o q => (sb.2 _ (Ne.symm D.zi2)).trans q⟩, fun c hcm => ?_⟩
    · exact (sb.2 _ D.TIz).trans (hk _ _ D.TIz D.TITO D.TIi1 D.TIi2 hTI)
    · have hlt : ∀ c ∈ [z, TI, TO, i1, i2], c < s.heap.objs.size := zn_all hzl (Heap.lt_size hTI) (Heap.lt_size hTO) (by obtain ⟨_, q, _⟩ := h1; exact Heap.lt_size q) (by obtain ⟨_, q, _⟩ := h2; exact Heap.lt_size q)
      rw [upd_ne (Nat.ne_of_lt (hlt c hcm))]
      exact (hf c hcm).1
  done := by
    intro X hP hw hK hc i pins s σ H E I hf st hg
    subst hP hw hK
    obtain ⟨hz, hTI, ⟨x0, y0, hTO⟩, h1, h2⟩ := st
    obtain ⟨xs, ys, hqx, hqy, e1, e2, hend⟩ := hg
    obtain ⟨its, rv, p, _⟩ := I.tuple hqx
    obtain ⟨its2, rv2, p2, _⟩ := I.tuple hqy
    have hd : X.A.in1.handled = none := I.ok.hd hc
    have n1 : a ≠ i1 := fun e => by
      obtain ⟨o, eo, ec, _⟩ := h1
      obtain ⟨o', eo', ec', _⟩ := (show s.heap.IsTuple a its.toArray from p)
      rw [e, eo] at eo'
      cases eo'
      exact absurd (ec.symm.trans ec') (by intro q; injection q with q; exact absurd q (by decide))
    have n2 : b ≠ i2 := fun e => by
      obtain ⟨o, eo, ec, _⟩ := h2
      obtain ⟨o', eo', ec', _⟩ := (show s.heap.IsTuple b its2.toArray from p2)
      rw [e, eo] at eo'
      cases eo'
      exact absurd (ec.symm.trans ec') (by intro q; injection q with q; exact absurd q (by decide))
    have l1 := rv.length
    have l2 := rv2.length
    refine wpAny_pyNext_zipD2_end D (Draws.tuple hd i1 a n1 its.toArray) (Draws.tuple hd i2 b n2 its2.toArray) hz hTI hTO ⟨h1, p⟩ ⟨h2, p2⟩ (by rw [List.size_toArray]; omega) (by rw [List.size_toArray]; omega) (by rw [List.size_toArray, List.size_toArray]; omega) fun h' tk hk => ⟨rfl, I.turnedL (t' := tk) (ch := [z, TI, TO, i1, i2]) (fun c o hb q =>
      hk c o (fun e => hb (by simp [e])) (fun e => hb (by simp [e])) (fun e => hb (by simp [e])) (fun e => hb (by simp [e])) q) hf⟩
  self := fun A i s Q E st h => wpAny_pyIter_zip st.1 h
def iZnt (K : PySem.W.Frag) (ta : TA) : TI := fun σ H R => ta σ H fun vs H1 => ∃ a b xs ys, vs = [.ref a, .ref b] ∧ SqT K H1 a xs ∧ SqT K H1 b ys ∧ R (Znt K a b) H1
theorem pi_znt {X : Cx} {e e2 : Expr} {ta : TA} {p pos tpos : Pos} {elts : List Expr} {kk : Nat} (hg : Gl X "zip") (hm : X.mg "zip" = none) (ha : PA X [e, e2] ta)
    (hs : starEach [e, e2] X.env = (false, eval e X.env) :: starEach [e2] X.env := by rfl) (hpl : (backTo pos (starEach [e2] X.env)).any (·.1) = false := by rfl) :
    PI X (.Tuple elts kk tpos) (.Call (.Name "zip" p) [e, e2] [] pos) (iZnt X.K ta) := by
  refine ⟨fun pins s σ H R I h => ?_⟩
  refine Call_ (ld_blt I hg hm PyProof.Rows.boot_zip (PyProof.Rows.callWith_type1 (thn (ha.run pos pins s σ H _ I h) fun us s1 ⟨vs, H1, I1, r1, q1⟩ => ?_) hs hpl))
  obtain ⟨a, b, xs, ys, ex, hqx, hqy, q⟩ := q1
  subst ex
  obtain ⟨u1, u2, rfl, r, r'⟩ := vals2 r1
  obtain rfl : u1 = Value.ref a := r
  obtain rfl : u2 = Value.ref b := r'
  obtain ⟨its, rv, p1, _⟩ := I1.tuple hqx
  obtain ⟨its2, rv2, p2, _⟩ := I1.tuple hqy
  have la : a < s1.heap.objs.size := by
    obtain ⟨_, z, _⟩ := (show s1.heap.IsTuple a its.toArray from p1)
    exact Heap.lt_size z
  have lb : b < s1.heap.objs.size := by
    obtain ⟨_, z, _⟩ := (show s1.heap.IsTuple b its2.toArray from p2)
    exact Heap.lt_size z
  refine zip_begins2 (begins_tuple a its.toArray) (begins_tuple b its2.toArray) p1 p2 fun h' hz hTI hTO g1 g2 hsz hk => ?_
  refine wpAny_pyIter_zip hz ?_
  have ne : ∀ {i j : Nat}, i ≠ j → s1.heap.objs.size + i ≠ s1.heap.objs.size + j := fun h e => h (Nat.add_left_cancel e)
  have na : ∀ {c : Addr} (i : Nat), c < s1.heap.objs.size → s1.heap.objs.size + i ≠ c := fun i h e => absurd h (by rw [← e]; exact Nat.not_lt.mpr (Nat.le_add_right _ _))
  have D : ZipSep2 (s1.heap.objs.size + 4) (s1.heap.objs.size + 2) (s1.heap.objs.size + 3) s1.heap.objs.size (s1.heap.objs.size + 1) [s1.heap.objs.size, a] [s1.heap.objs.size + 1, b] :=
    ⟨ne (by decide), ne (by decide), ne (by decide), ne (j := 0) (by decide), by simp, by simp only [List.mem_cons, List.not_mem_nil, or_false, not_or]; exact ⟨ne (j := 0) (by decide), na 4 la⟩, by simp only [List.mem_cons, List.not_mem_nil, or_false, not_or]; exact ⟨ne (j := 0) (by decide), na 3 la⟩,
      ne (by decide), by simp, by simp only [List.mem_cons, List.not_mem_nil, or_false, not_or]; exact ⟨ne (by decide), na 4 lb⟩, by simp only [List.mem_cons, List.not_mem_nil, or_false, not_or]; exact ⟨ne (by decide), na 3 lb⟩,
      by simp only [List.mem_cons, List.not_mem_nil, or_false, not_or]; exact ⟨ne (i := 0) (by decide), na 0 lb⟩, by simp only [List.mem_cons, List.not_mem_nil, or_false, not_or]; exact ⟨ne (j := 0) (by decide), na 1 la⟩⟩
  refine ⟨_, [s1.heap.objs.size + 4, s1.heap.objs.size + 2, s1.heap.objs.size + 3, s1.heap.objs.size, s1.heap.objs.size + 1], _, _, H1, rfl, I1.kept (t' := s1.toks) hk, turn_znt D, ⟨hz, hTI, ⟨_, _, hTO⟩, ⟨_, g1, rfl, rfl⟩, ⟨_, g2, rfl, rfl⟩⟩, fun c hc => ?_, q⟩
  have hle : ∀ c ∈ [s1.heap.objs.size + 4, s1.heap.objs.size + 2, s1.heap.objs.size + 3, s1.heap.objs.size, s1.heap.objs.size + 1], s1.heap.objs.size ≤ c := zn_all (Nat.le_add_right _ _) (Nat.le_add_right _ _) (Nat.le_add_right _ _) (Nat.le_refl _) (Nat.le_add_right _ _)
  exact I1.fpOk (hle c hc) (I1.hok.fresh (hle c hc))
theorem pi_zntK {X : Cx} {K : PySem.W.Frag} {e e2 : Expr} {ta : TA} {p pos tpos : Pos} {elts : List Expr} {kk : Nat} (hK : X.K = K) (hg : Gl X "zip") (hm : X.mg "zip" = none) (ha : PA X [e, e2] ta)
    (hs : starEach [e, e2] X.env = (false, eval e X.env) :: starEach [e2] X.env := by rfl) (hpl : (backTo pos (starEach [e2] X.env)).any (·.1) = false := by rfl) : PI X (.Tuple elts kk tpos) (.Call (.Name "zip" p) [e, e2] [] pos) (iZnt K ta) := by
  subst hK
  exact pi_znt hg hm ha hs hpl
section
variable {K : PySem.W.Frag} {a b : Addr} {xs ys : List V}
theorem walk_znt (hl : xs.length = ys.length) : Walk (Znt K a b) xs.length (fun H => SqT K H a xs ∧ SqT K H b ys) (YPair (fun i => xs[i]?) (fun i => ys[i]?)) := by
  refine ⟨fun i H hi q => ⟨xs, ys, xs[i], ys[i]'(hl ▸ hi), q.1, q.2, by simp [hi], by simp [hl ▸ hi]⟩, fun H q => ⟨xs, ys, q.1, q.2, Nat.le_refl _, by omega, .inl rfl⟩, fun i H v H' _ q y => ?_⟩
  obtain ⟨T, x, z, h1, h2, h3, h4, h5⟩ := y
  exact ⟨T, x, z, h1, h2, h3, h4 xs q.1, h5 ys q.2⟩
end
end Jc
namespace Jc
open PySem PySem.Spec L2
open PyProof.Rows hiding St
/-! ### a & b, a | b of two instances of one own class, by its own def -/
section
variable {P : Program} {w : World} {A : Around} {E : Value → Shared → Prop} {s : Shared} {K : PySem.W.Frag} {x C f : Addr} {ox : Obj} {od : Option Obj}
theorem bin_raw {op : Operator} {b : Value} {Q : Value → Shared → Prop} (KX : K.In s.heap) (J : PySem.W.InstAt s.heap x ox C od) (hb : PySem.W.Looks (model P w) s.heap (typeOf b) (.ref C)) (hc : PySem.W.selfFirst K C = true)
    (hs : PySem.W.findIn K (.ref C) (PySem.dunder op.info.2) = some (some (.ref f))) (hf : PySem.W.isFn K (.ref f) = true) (h : wpAny (model P w) A (call (.ref f) [.ref x, b]) (PySem.W.CmpBack Q) E s) : wpAny (model P w) A (binaryOp op (.ref x) b) Q E s := by
  obtain ⟨cd, hcd, hm⟩ := PySem.W.any_some hc
  obtain ⟨rest, hr⟩ : ∃ rest, cd.mro = .ref C :: rest := by
    match q : cd.mro, hm with
    | [], z => cases z
    | y :: r, z =>
      rw [List.head?_cons] at z
      cases (beq_iff_eq.mp z)
      exact ⟨r, rfl⟩
  unfold binaryOp binaryOp1
  refine wpAny_holding (wpAny_bind (wpAny_bind (J.type.here (wpAny_bind (hb.here (wpAny_bind ((PySem.W.fills_K KX hcd hr hs).here ?_)))))))
  simp only [beq_self_eq_true, if_true]
  refine wpAny_bind (wpAny_pure ?_)
  simp only [Bool.and_false, Bool.false_eq_true, if_false, Bool.false_and]
  refine wpAny_bind (wpAny_pure ?_)
  simp only [Bool.false_eq_true, if_false]
  refine wpAny_bind (m := tryMethod (.ref x) _ b) ?_
  unfold tryMethod
  refine wpAny_bind (PySem.W.special_fn KX J hs (beq_iff_eq.mp hf) (wpAny_mono h (fun v s' z => ?_) fun _ _ z => z))
  cases v
  all_goals first | exact z.elim | (refine wpAny_pure (wpAny_pure (wpAny_pure ?_)); exact z)
end
/-- the def's promise at the two of them; what it gives is an object -/
def rBinOwn (C : Addr) (sp : Sp) : R2 := fun x y H Q => ∃ a b dx dy fs gs, x = .ref a ∧ y = .ref b ∧ H a = some (.ins C dx fs) ∧ H b = some (.ins C dy gs) ∧ sp [.ref a, .ref b] H (fun v H2 => (∃ r, v = .ref r) ∧ Q v H2) E0
theorem op_own {X : Cx} {op : Operator} {C f : Addr} {k : Nat} {sp : Sp} (c : Cls X.K C) (hc : PySem.W.selfFirst X.K C = true) (hs : PySem.W.findIn X.K (.ref C) (PySem.dunder op.info.2) = some (some (.ref f))) (hf : PySem.W.isFn X.K (.ref f) = true)
    (F : FnR X.prog X.w X.K X.mg X.base CX0 k f sp) (hr : Room k X.A) : OpR X (binaryOp op) (rBinOwn C sp) := by
  intro pins s σ H x y v u Q I rx ry h
  obtain ⟨a, b, dx, dy, fs, gs, rfl, rfl, ea, eb, q⟩ := h
  obtain rfl : v = Value.ref a := rx
  obtain rfl : u = Value.ref b := ry
  obtain ⟨mA, O, _, _, _, _⟩ := ins_get I.hok ea
  obtain ⟨od, J, _⟩ := O.look
  obtain ⟨mB, OB, _, _, _, _⟩ := ins_get I.hok eb
  obtain ⟨od2, J2, _⟩ := OB.look
  refine bin_raw I.kIn J J2.type hc hs hf (wpAny_call (codeAny_mono (F X.A X.stack s H [.ref a, .ref b] [.ref a, .ref b] _ E0 hr I.env0 (.cons rfl (.cons rfl .nil)) q) fun rs s2 z => ?_))
  match rs, z with
  | .ok .next, z => exact z.elim
  | .ok .brk, z => exact z.elim
  | .ok .cont, z => exact z.elim
  | .error _, z => exact z.elim
  | .ok (.ret r), z =>
    obtain ⟨v2, H2, I2, rv, ⟨r2, e2⟩, q2⟩ := I.after z
    subst e2
    obtain rfl : r = Value.ref r2 := rv
    exact ⟨.ref r2, H2, I2, rfl, q2⟩
end Jc
namespace Jc
open PySem PySem.Spec L2
open PyProof.Rows hiding St
/-! ### a == b of two instances of one own class, by its own def, whatever it answers -/
section
variable {P : Program} {w : World} {A : Around} {E : Value → Shared → Prop} {s : Shared} {K : PySem.W.Frag} {x C f : Addr} {ox : Obj} {od : Option Obj}
theorem cmp_raw {op : CmpOp} {b : Value} {Q : Value → Shared → Prop} (hu : A.units < cLine) (KX : K.In s.heap) (J : PySem.W.InstAt s.heap x ox C od) (hb : PySem.W.Looks (model P w) s.heap (typeOf b) (.ref C))
    (hs : PySem.W.findIn K (.ref C) (cmpInfo op).2.1 = some (some (.ref f))) (hf : PySem.W.isFn K (.ref f) = true) (h : wpAny (model P w) A (call (.ref f) [.ref x, b]) (PySem.W.CmpBack Q) E s) : wpAny (model P w) A (richCompare op (.ref x) b) Q E s := by
  have once : wpAny (model P w) A (tryCompare (.ref x) (cmpInfo op).2.1 b) (fun r t => ∃ v, r = some v ∧ Q v t) E s := by
    unfold tryCompare
    refine wpAny_bind (PySem.W.ifBound_K KX J hs hf (wpAny_mono h (fun v t z => ?_) fun _ _ z => z))
    cases v
    all_goals first | exact z.elim | (refine wpAny_pure ⟨_, rfl, ?_⟩; exact z)
  unfold richCompare
  simp only [oneThing_ref]
  refine wpAny_holding (wpAny_bind (wpAny_cRoomFor hu (wpAny_bind (J.type.here (wpAny_bind (hb.here ?_))))))
  rw [if_neg (by simp)]
  refine wpAny_bind (wpAny_pure ?_)
  simp only [Bool.false_eq_true, if_false]
  refine wpAny_bind (wpAny_mono once (fun r t z => ?_) fun _ _ z => z)
  obtain ⟨v, rfl, q⟩ := z
  exact wpAny_pure q
end
/-- the def's promise at the two of them; its answer is a truth -/
def rEqOwn (C : Addr) (sp : Sp) : R2 := fun x y H Q => ∃ a b dx dy fs gs, x = .ref a ∧ y = .ref b ∧ H a = some (.ins C dx fs) ∧ H b = some (.ins C dy gs) ∧ sp [.ref a, .ref b] H (fun v H2 => (∃ r, v = .bl r) ∧ Q v H2) E0
theorem op_eqOwn {X : Cx} {C f : Addr} {k : Nat} {sp : Sp} (hs : PySem.W.findIn X.K (.ref C) "__eq__" = some (some (.ref f))) (hf : PySem.W.isFn X.K (.ref f) = true) (F : FnR X.prog X.w X.K X.mg X.base CX0 k f sp) (hr : Room k X.A) : OpR X (compareOp .Eq) (rEqOwn C sp) := by
  intro pins s σ H x y v u Q I rx ry h
  obtain ⟨a, b, dx, dy, fs, gs, rfl, rfl, ea, eb, q⟩ := h
  obtain rfl : v = Value.ref a := rx
  obtain rfl : u = Value.ref b := ry
  obtain ⟨mA, O, _, _, _, _⟩ := ins_get I.hok ea
  obtain ⟨od, J, _⟩ := O.look
  obtain ⟨mB, OB, _, _, _, _⟩ := ins_get I.hok eb
  obtain ⟨od2, J2, _⟩ := OB.look
  have hu : X.A.units < cLine := by have := hr.un; omega
  refine cmp_raw (op := .Eq) hu I.kIn J J2.type hs hf (wpAny_call (codeAny_mono (F X.A X.stack s H [.ref a, .ref b] [.ref a, .ref b] _ E0 hr I.env0 (.cons rfl (.cons rfl .nil)) q) fun rs s2 z => ?_))
  match rs, z with
  | .ok .next, z => exact z.elim
  | .ok .brk, z => exact z.elim
  | .ok .cont, z => exact z.elim
  | .error _, z => exact z.elim
  | .ok (.ret r), z =>
    obtain ⟨v2, H2, I2, rv, ⟨r2, e2⟩, q2⟩ := I.after z
    subst e2
    obtain rfl : r = Value.bool r2 := rv
    exact ⟨.bl r2, H2, I2, rfl, q2⟩
end Jc
namespace Jc
open PySem PySem.Spec L2
open PyProof.Rows hiding St
/-! ### a != b of two instances of one own class: object.__ne__ asks the own __eq__ -/
section
variable {P : Program} {w : World} {A : Around} {E : Value → Shared → Prop} {s : Shared} {K : PySem.W.Frag} {x C f : Addr} {ox : Obj} {od : Option Obj}
theorem bound_blt {M : Model} {self : Value} {name : PySem.Str} {id : String} {args : List Value} {Q : Option Value → Shared → Prop} (sp : PySem.W.Looks M s.heap (specialOf self name) (some (.builtin id))) (hb : bindSpecial (.builtin id) self = pure (.builtin id, [self]))
    (h : wpAny M A (call (.builtin id) (self :: args)) (fun v => Q (some v)) E s) : wpAny M A (callSpecialIfBound? self name args) Q E s := by
  simp only [callSpecialIfBound?, bindSpecialIfBound?]
  refine wpAny_holding (wpAny_bind (wpAny_bind (sp.here ?_)))
  simp only [hb]
  have fin : wpAny M A (call (.builtin id) ([self] ++ args) >>= fun v => pure (some v)) Q E s := wpAny_bind (wpAny_mono h (fun v t z => wpAny_pure z) fun _ _ z => z)
  refine wpAny_bind (wpAny_askSetting (wpAny_ite ?_))
  split
  · exact wpAny_bind (wpAny_pure (wpAny_pure (by exact fin)))
  · exact wpAny_tryCatch (wpAny_bind (wpAny_pure (wpAny_pure (by exact fin))))
theorem ne_entry {b : Value} {Q : Fin → Shared → Prop} (hu : A.units < cLine) (KX : K.In s.heap) (J : PySem.W.InstAt s.heap x ox C od) (hs : PySem.W.findIn K (.ref C) "__eq__" = some (some (.ref f))) (hf : PySem.W.isFn K (.ref f) = true)
    (h : wpAny (model P w) A (call (.ref f) [.ref x, b]) (fun v t => ∃ r, v = .bool r ∧ Q (.done (.ret (.bool (!r)))) t) E s) : wpAny (model P w) A (Builtin.«object.__ne__» ⟨[.ref x, b], []⟩) Q E s := by
  unfold Builtin.«object.__ne__»
  refine wpAny_bind (m := slotArgs "__ne__" 1 _) (wpAny_pure ?_)
  refine wpAny_bind (wpAny_cRoomFor hu ?_)
  refine wpAny_bind (PySem.W.ifBound_K KX J hs hf (wpAny_mono h (fun v t z => ?_) fun _ _ z => z))
  obtain ⟨r, rfl, q⟩ := z
  exact wpAny_bind (wpAny_truthy_bool (wpAny_pure q))
theorem ne_raw {b : Value} {Q : Value → Shared → Prop} (hu : A.units + 1 < cLine) (KX : K.In s.heap) (J : PySem.W.InstAt s.heap x ox C od) (hb : PySem.W.Looks (model P w) s.heap (typeOf b) (.ref C))
    (hn : PySem.W.findIn K (.ref C) "__ne__" = some (some (.builtin "object.__ne__"))) (sub : PySem.W.mroIn K C (.type "object") = some true) (hs : PySem.W.findIn K (.ref C) "__eq__" = some (some (.ref f))) (hf : PySem.W.isFn K (.ref f) = true)
    (h : wpAny (model P w) A.in1 (call (.ref f) [.ref x, b]) (fun v t => ∃ r, v = .bool r ∧ Q (.bool (!r)) t) E s) : wpAny (model P w) A (richCompare .NotEq (.ref x) b) Q E s := by
  have inst : PySem.W.Looks (model P w) s.heap (isInstance (.ref x) (.type "object")) true := J.type.andThen (PySem.W.looks_mroIn KX sub)
  have sp : PySem.W.Looks (model P w) s.heap (specialOf (.ref x) "__ne__") (some (.builtin "object.__ne__")) := J.type.andThen (PySem.W.looks_findIn KX hn)
  have once : wpAny (model P w) A (tryCompare (.ref x) "__ne__" b) (fun r t => ∃ v, r = some v ∧ Q v t) E s := by
    unfold tryCompare
    refine wpAny_bind (bound_blt sp ((F.cmp_object).ne.bind _) (wpAny_call (codeAny_call_builtin (F.cmp_object).ne.plain F.cmpEntry_ne (@PySem.W.check_slot (model P w) _ _ _ "object.__ne__" "object" "__ne__" (.ref x) [b] [] _ F.cmpKind_ne F.cmpSplit_ne inst (F.cmpArgs_ne _ _) ?_))))
    refine ne_entry (A := A.in1) hu KX J hs hf (wpAny_mono h (fun v t z => ?_) fun _ _ z => z)
    obtain ⟨r, rfl, q⟩ := z
    exact ⟨r, rfl, wpAny_pure ⟨_, rfl, q⟩⟩
  unfold richCompare
  simp only [oneThing_ref]
  refine wpAny_holding (wpAny_bind (wpAny_cRoomFor (by omega) (wpAny_bind (J.type.here (wpAny_bind (hb.here ?_))))))
  rw [if_neg (by simp)]
  refine wpAny_bind (wpAny_pure ?_)
  simp only [Bool.false_eq_true, if_false]
  refine wpAny_bind (wpAny_mono once (fun r t z => ?_) fun _ _ z => z)
  obtain ⟨v, rfl, q⟩ := z
  exact wpAny_pure q
end
def rNeOwn (C : Addr) (sp : Sp) : R2 := fun x y H Q => ∃ a b dx dy fs gs, x = .ref a ∧ y = .ref b ∧ H a = some (.ins C dx fs) ∧ H b = some (.ins C dy gs) ∧ sp [.ref a, .ref b] H (fun v H2 => ∃ r, v = .bl r ∧ Q (.bl (!r)) H2) E0
/-- what k_is tells of != -/
structure NeK (K : PySem.W.Frag) (C : Addr) : Prop where
  ne : PySem.W.findIn K (.ref C) "__ne__" = some (some (.builtin "object.__ne__"))
  sub : PySem.W.mroIn K C (.type "object") = some true
theorem op_neOwn {X : Cx} {C f : Addr} {k : Nat} {sp : Sp} (N : NeK X.K C) (hs : PySem.W.findIn X.K (.ref C) "__eq__" = some (some (.ref f))) (hf : PySem.W.isFn X.K (.ref f) = true) (F : FnR X.prog X.w X.K X.mg X.base CX0 k f sp) (hr : Room (k + 1) X.A) : OpR X (compareOp .NotEq) (rNeOwn C sp) := by
  intro pins s σ H x y v u Q I rx ry h
  obtain ⟨a, b, dx, dy, fs, gs, rfl, rfl, ea, eb, q⟩ := h
  obtain rfl : v = Value.ref a := rx
  obtain rfl : u = Value.ref b := ry
  obtain ⟨mA, O, _, _, _, _⟩ := ins_get I.hok ea
  obtain ⟨od, J, _⟩ := O.look
  obtain ⟨mB, OB, _, _, _, _⟩ := ins_get I.hok eb
  obtain ⟨od2, J2, _⟩ := OB.look
  have hu : X.A.units + 1 < cLine := by have := hr.un; omega
  refine ne_raw hu I.kIn J J2.type N.ne N.sub hs hf (wpAny_call (codeAny_mono (F X.A.in1 X.stack s H [.ref a, .ref b] [.ref a, .ref b] _ E0 hr.in1 I.env0.in1 (.cons rfl (.cons rfl .nil)) q) fun rs s2 z => ?_))
  match rs, z with
  | .ok .next, z => exact z.elim
  | .ok .brk, z => exact z.elim
  | .ok .cont, z => exact z.elim
  | .error _, z => exact z.elim
  | .ok (.ret r), z =>
    obtain ⟨v2, H2, I2, rv, r2, e2, q2⟩ := I.after z
    subst e2
    obtain rfl : r = Value.bool r2 := rv
    exact ⟨r2, rfl, .bl (!r2), H2, I2, rfl, q2⟩
end Jc
namespace Jc
open PySem PySem.Spec L2
open PyProof.Rows hiding St
/-! ### data stays data while the heap grows -/
mutual
theorem dp_same {K : PySem.W.Frag} {H H2 : Hp} (s : Same H H2) : ∀ {v : V} {d : PyData}, Dp K H v d → Dp K H2 v d
  | _, _, .non => .non
  | _, _, .bl b => .bl b
  | _, _, .int i => .int i
  | _, _, .str x => .str x
  | _, _, .lst a b => .lst (s.seq a) (dpAll_same s b)
  | _, _, .tup a b => .tup (seqT s a) (dpAll_same s b)
theorem dpAll_same {K : PySem.W.Frag} {H H2 : Hp} (s : Same H H2) : ∀ {vs : List V} {ds : List PyData}, DpAll K H vs ds → DpAll K H2 vs ds
  | _, _, .nil => .nil
  | _, _, .cons a b => .cons (dp_same s a) (dpAll_same s b)
end
theorem dpAll_get {K : PySem.W.Frag} {H : Hp} : ∀ {vs : List V} {ds : List PyData}, DpAll K H vs ds → ∀ {i : Nat} {v : V}, vs[i]? = some v → ∃ d, ds[i]? = some d ∧ Dp K H v d
  | _, _, .nil, i, v, h => by simp at h
  | _, _, .cons a b, 0, v, h => ⟨_, rfl, by cases h; exact a⟩
  | _, _, .cons a b, i + 1, v, h => dpAll_get b (i := i) h
theorem dpAll_app {K : PySem.W.Frag} {H : Hp} : ∀ {vs ws : List V} {ds es : List PyData}, DpAll K H vs ds → DpAll K H ws es → DpAll K H (vs ++ ws) (ds ++ es)
  | _, _, _, _, .nil, h => h
  | _, _, _, _, .cons a b, h => .cons a (dpAll_app b h)
theorem dpAll_len {K : PySem.W.Frag} {H : Hp} : ∀ {vs : List V} {ds : List PyData}, DpAll K H vs ds → vs.length = ds.length
  | _, _, .nil => rfl
  | _, _, .cons _ b => congrArg (· + 1) (dpAll_len b)
/-- ints that stand for marks of any data: told apart just as the ints are -/
structure Marks (D : Int → PyData) (ms : List Int) : Prop where
  gone : D (-1) = .int (-1)
  eqv : ∀ x ∈ (-1) :: ms, ∀ y ∈ (-1) :: ms, PyData.eqv (D x) (D y) = decide (x = y)
  lay : ∀ x ∈ (-1) :: ms, (D x).canLay0 = true ∧ (D x).depth ≤ 8
theorem Marks.shaped {D : Int → PyData} {ms : List Int} (M : Marks D ms) {x : Int} (h : x ∈ (-1) :: ms) : SeqAt.shaped (D x) = true := by
  obtain ⟨a, b⟩ := M.lay x h
  show ((D x).canLay0 && decide ((D x).depth ≤ 64)) = true
  rw [a, decide_eq_true (by omega)]
  rfl
theorem lay_all {D : Int → PyData} : ∀ ts : List Int, (∀ x ∈ ts, (D x).canLay0 = true ∧ (D x).depth ≤ 8) → PyData.canLayAll0 (ts.map D) = true ∧ PyData.depthAll (ts.map D) ≤ 8
  | [], _ => by simp [PyData.canLayAll0, PyData.depthAll]
  | t :: r, h => by
    obtain ⟨a, b⟩ := h t List.mem_cons_self
    obtain ⟨c, d⟩ := lay_all r fun x hx => h x (List.mem_cons_of_mem _ hx)
    simp only [List.map_cons, PyData.canLayAll0, PyData.depthAll, a, c, Bool.and_self, true_and]
    omega
theorem Marks.shapedL {D : Int → PyData} {ms ts : List Int} (M : Marks D ms) (h : ∀ x ∈ ts, x ∈ ms) : SeqAt.shaped (.list (ts.map D)) = true := by
  obtain ⟨a, b⟩ := lay_all ts fun x hx => M.lay x (List.mem_cons_of_mem _ (h x hx))
  have e : PyData.depth (.list (ts.map D)) ≤ 64 := by
    simp only [PyData.depth]
    omega
  show (PyData.canLay0 (.list (ts.map D)) && decide (PyData.depth (.list (ts.map D)) ≤ 64)) = true
  rw [decide_eq_true e]
  simp only [PyData.canLay0, a, Bool.and_true]
theorem Marks.any {D : Int → PyData} {ms ts : List Int} (M : Marks D ms) (h : ∀ x ∈ ts, x ∈ ms) {m : Int} (hm : m ∈ ms) : ((ts.map D).any fun z => PyData.eqv z (D m)) = decide (m ∈ ts) := by
  induction ts with
  | nil => rfl
  | cons t r ih =>
    have ih := ih fun x hx => h x (List.mem_cons_of_mem _ hx)
    rw [List.map_cons, List.any_cons, ih, M.eqv t (List.mem_cons_of_mem _ (h t List.mem_cons_self)) m (List.mem_cons_of_mem _ hm)]
    by_cases c : t = m
    · subst c
      simp
    · have c2 : m ≠ t := fun z => c z.symm
      simp [c, c2]
theorem Marks.idx {D : Int → PyData} {ms ts : List Int} (M : Marks D ms) (h : ∀ x ∈ ts, x ∈ ms) {m : Int} (hm : m ∈ ts) :
    (ts.map D)[ts.idxOf m]? = some (D m) ∧ PyData.eqv (D m) (D m) = true ∧ ∀ (j : Nat) (z : PyData), j < ts.idxOf m → (ts.map D)[j]? = some z → PyData.eqv z (D m) = false := by
  have hl := List.idxOf_lt_length_of_mem hm
  have g := List.mem_cons_of_mem (-1) (h m hm)
  refine ⟨by rw [List.getElem?_map, List.getElem?_eq_getElem hl, List.getElem_idxOf hl]; rfl, by rw [M.eqv m g m g, decide_eq_true rfl], fun j z hj e => ?_⟩
  rw [List.getElem?_map] at e
  cases e2 : ts[j]? with
  | none => rw [e2] at e; cases e
  | some k =>
    rw [e2] at e
    have e3 : D k = z := Option.some.inj e
    rw [← e3, M.eqv k (List.mem_cons_of_mem _ (h k (List.mem_of_getElem? e2))) m g]
    have h3 := List.not_of_lt_findIdx (p := (· == m)) hj
    obtain ⟨h1, h2⟩ := List.getElem?_eq_some_iff.mp e2
    rw [h2] at h3
    exact decide_eq_false (beq_eq_false_iff_ne.mp (by simpa using h3))
end Jc
namespace Jc
open PySem PySem.Spec L2
open PyProof.Rows hiding St
theorem index_D {X : Cx} {K : PySem.W.Frag} (h : X.K = K) (hu : X.A.units + 65 < cLine) : MtR X "list.index" (rIndexD K) := by subst h; exact mt_indexD hu
theorem eq_D {X : Cx} {K : PySem.W.Frag} (h : X.K = K) (hu : X.A.units + 64 < cLine) : OpR X (compareOp .Eq) (rEqD K) := by subst h; exact op_eqD hu
/-- _numbered of marks of any data -/
def spNumD (K : PySem.W.Frag) : Sp := fun vs H Q _ => ∃ (a : Addr) (ys : List V) (ms : List Int) (D : Int → PyData), vs = [.ref a] ∧ SqL K H a ys ∧ DpAll K H ys (ms.map D) ∧ Marks D ms ∧ ms.length ≤ 1000 ∧
  ∀ (p : Addr) (H2 : Hp), Same H H2 → H p = none → H2 p = some (.lst ((num ms).map V.int)) → Q (.ref p) H2
section
variable {P : Program} {w : World} {K : PySem.W.Frag} {mg : Str → Option Value} {base : Heap} {f : Addr} {fd : FuncData} {t1 : Tok}
theorem ok_numberedD (F : Fun K "numbered" "numbered" s_numbered f fd) (B : Blt mg) (T : TxP mg t1) : FnOk P w K mg base CX0 1 f fd ["marks"] (spNumD K) := by
  refine F.ok sc_numbered (fun vs H Q E h => ?_) (fun cdv A outer s H vs Q E hr h => ?_)
  · obtain ⟨a, ys, ms, D, rfl, _⟩ := h
    rfl
  · obtain ⟨a, ys, ms, DD, rfl, ha, hd, MK, hl, q⟩ := h
    have hu := hr.units
    have hu65 : (A.deeper (envOfC "numbered" (defScope s_numbered) s.heap.objs.size f cdv)).units + 65 < cLine := by have := hr.un; omega
    have hylen : ys.length = ms.length := by rw [dpAll_len hd, List.length_map]
    refine ⟨_, (pss_cons (ps_set (i := 1) sc_numbered.nd rfl (.inr rfl) (pe_lst pa_nil))
      (pss_cons (ps_for PassesOwn.never rfl (pi_list (pv 0)) (pg_name (i := 2) sc_numbered.nd rfl (.inl rfl)) (pss_one (ps_if (PW.pt (pw_and (pt_cmpR (op_neD hu) (pv 2) (pe_glob (v := .int (-1)) rfl T.GONE ⟨_, rfl⟩) (nomark _)) (pw_and1 (pt_cmpR (op_notInD hu65) (pv 2) (pv 1) rfl)))) (pss_one (ps_expr (pe_bm PySem.F.plainAttrs_list PySem.F.slot_list_append PySem.F.type_list_append mt_append (pv 1) (pa_cons (pv 2) pa_nil)))) pss_nil)))
      (pss_one (ps_ret (pe_lc (own := [("mark", 2)]) (g := gName 2) rfl sc_numbered.nd (pi_list (pv 0)) (blkOk_by (own := [("mark", 2)]) (N := N_numbered) (sc := defScope s_numbered) (by decide +kernel)) (fun _ _ _ _ _ => pg_name (i := 2) sc_numbered.nd rfl (.inl rfl)) (fun _ _ _ _ _ => pts_nil) (fun _ _ _ _ _ => (pe_ifExp (pt_cmpR (eq_D (K := K) rfl hu) (pv 2) (pe_glob (v := .int (-1)) rfl T.GONE ⟨_, rfl⟩) (nomark _)) (pe_glob (v := .int (-1)) rfl T.GONE ⟨_, rfl⟩) (pe_bmK (K := K) rfl PySem.F.plainAttrs_list PySem.F.slot_list_index PySem.F.type_list_index (index_D (K := K) rfl hu65) (pv 1) (pa_cons (pv 2) pa_nil))))))))), ?_⟩
    refine ⟨le_line (by decide), fun L nL => ?_⟩
    -- what is told is told at the heap of the call
    refine ⟨_, rfl, a, rfl, ⟨_, (same_new nL).seq ha⟩, for_it walk_list (fun i σ H2 => ∃ y zs, σ = [some (.ref a), some (.ref L), y] ∧ Same H H2 ∧ H2 L = some (.lst zs) ∧ DpAll K H zs (((ms.take i).foldl toldF []).map DD)) ⟨_, [], rfl, same_new nL, upd_same, .nil⟩ (fun _ _ _ _ z => by obtain ⟨_, _, _, s2, _⟩ := z; exact s2.seq ha) ?_ ?_⟩
    · rintro i x σ H1 H2 hi ⟨y, zs, rfl, s1, hL, hz⟩ ⟨rfl, hx⟩
      obtain ⟨d, hd1, hd2⟩ := dpAll_get hd hx
      obtain ⟨m, hm, rfl⟩ : ∃ m, ms[i]? = some m ∧ DD m = d := by
        rw [List.getElem?_map] at hd1
        cases e : ms[i]? with
        | none => rw [e] at hd1; cases hd1
        | some m => rw [e] at hd1; exact ⟨m, rfl, Option.some.inj hd1⟩
      have hmm := List.mem_of_getElem? hm
      have e : (ms.take (i + 1)).foldl toldF [] = toldF ((ms.take i).foldl toldF []) m := told_take ms i hm
      have sub : ∀ x ∈ (ms.take i).foldl toldF [], x ∈ ms := fun x hx => by
        rw [told_has] at hx
        rcases hx with z | ⟨z, _⟩
        · cases z
        · exact List.mem_of_mem_take z
      have hzl : zs.length = ((ms.take i).foldl toldF []).length := by rw [dpAll_len hz, List.length_map]
      have hz2 := told_short ms i
      refine ⟨x, rfl, DD m, .int (-1), dp_same s1 hd2, .int (-1), MK.shaped (List.mem_cons_of_mem _ hmm), by decide +kernel, _, rfl, ?_⟩
      have eg : PyData.eqv (DD m) (.int (-1)) = decide (m = -1) := by
        rw [← MK.gone]
        exact MK.eqv m (List.mem_cons_of_mem _ hmm) (-1) List.mem_cons_self
      rw [eg]
      by_cases c1 : m = -1
      · refine iteNS c1 (iteF ⟨_, zs, rfl, s1, hL, ?_⟩)
        rw [e, toldF, if_neg (fun z => z.1 c1)]
        exact hz
      · refine iteNT c1 ⟨x, rfl, .ref L, rfl, ⟨DD m, _, dp_same s1 hd2, .lst (.inl (.inl hL)) (dpAll_same s1 hz), MK.shaped (List.mem_cons_of_mem _ hmm), MK.shapedL sub, _, rfl, ?_⟩⟩
        rw [MK.any sub hmm]
        by_cases c2 : m ∈ (ms.take i).foldl toldF []
        · refine iteNS c2 ⟨_, zs, rfl, s1, hL, ?_⟩
          rw [e, toldF, if_neg (fun z => z.2 c2)]
          exact hz
        · refine iteNT c2 ⟨.ref L, rfl, .inl ⟨rfl, _, .inl (.inl hL)⟩, x, rfl, L, _, _, rfl, rfl, hL, ?_, ?_⟩
          · exact Nat.lt_of_lt_of_le (show zs.length < 1000000 by omega) (by rw [sizeLine_eq]; decide)
          · refine ⟨_, zs ++ [x], rfl, same_mut s1 nL, upd_same, ?_⟩
            rw [e, toldF, if_pos ⟨c1, c2⟩, List.map_append]
            exact dpAll_app hz (.cons hd2 .nil)
    · rintro σ H2 ⟨y, zs, rfl, s2, hL, hz⟩
      rw [hylen, List.take_length] at hz
      have sub : ∀ x ∈ told ms, x ∈ ms := fun x hx => (told_mem.mp hx).1
      refine ⟨_, rfl, a, rfl, ⟨_, s2.seq ha⟩, fun D hD => ?_⟩
      refine lc_sel walk_list (fun i => ((num ms).map V.int)[i]?) (by omega) hD (fun H3 z => (s2.trans z).seq ha) ?_ ?_
      · rintro i x H3 H4 k kn hi z ⟨rfl, hx⟩ ky kk
        obtain ⟨d, hd1, hd2⟩ := dpAll_get hd hx
        obtain ⟨m, hm, rfl⟩ : ∃ m, ms[i]? = some m ∧ DD m = d := by
          rw [List.getElem?_map] at hd1
          cases e : ms[i]? with
          | none => rw [e] at hd1; cases hd1
          | some m => rw [e] at hd1; exact ⟨m, rfl, Option.some.inj hd1⟩
        have hmm := List.mem_of_getElem? hm
        have s4 := s2.trans z
        have e : ((num ms).map V.int)[i]? = some (.int (numOf (told ms) m)) := by rw [List.getElem?_map, num_at hm]; rfl
        have eg : PyData.eqv (DD m) (.int (-1)) = decide (m = -1) := by
          rw [← MK.gone]
          exact MK.eqv m (List.mem_cons_of_mem _ hmm) (-1) List.mem_cons_self
        refine ⟨rfl, ?_⟩
        refine iteT (B := kn H4) ?_
        refine ⟨x, rfl, DD m, .int (-1), dp_same s4 hd2, .int (-1), MK.shaped (List.mem_cons_of_mem _ hmm), by decide +kernel, _, rfl, ?_⟩
        rw [eg]
        by_cases c1 : m = -1
        · refine iteDT c1 (ky _ _ ?_ (Same.refl _))
          rw [e, numOf, if_pos c1]
        · have hmem : m ∈ told ms := told_mem.mpr ⟨hmm, c1⟩
          obtain ⟨i1, i2, i3⟩ := MK.idx sub hmem
          refine iteDF c1 ⟨.ref L, rfl, .inl ⟨rfl, _, .inl (.inl (z _ _ hL))⟩, x, rfl, L, x, DD m, _, (told ms).idxOf m, DD m, rfl, rfl, .lst (.inl (.inl (z _ _ hL))) (dpAll_same s4 hz), dp_same s4 hd2, MK.shapedL sub, MK.shaped (List.mem_cons_of_mem _ hmm), i1, i2, i3, ?_⟩
          refine ky _ _ ?_ (Same.refl _)
          rw [e, numOf, if_neg c1]
      · intro H3 z hD2
        refine q D H3 (s2.trans z) (s2.free hD) ?_
        rw [hD2]
        have e : ys.length = ((num ms).map V.int).length := by rw [List.length_map, num_len]; exact hylen
        rw [e, range_get]
end
end Jc
namespace Jc
open PySem PySem.Spec L2
open PyProof.Rows hiding St
/-- a comprehension without a test, its elements told by R, which stands while the heap grows -/
theorem lc_rel {J : It} {n : Nat} {G : Hp → Prop} {Y : Nat → Hp → V → Hp → Prop} (w : Walk J n G Y) {g : TG} {te : TE} {vs : List Nat} {σ : L2.St} {H1 : Hp} {D : Addr} {Qd : Hp → Prop} (R : Nat → V → Hp → Prop) (hn : n < 1000000) (hD : H1 D = none)
    (hR : ∀ i y H H2, (∀ b o, b ≠ D → H b = some o → H2 b = some o) → R i y H → R i y H2) (hG : ∀ H2, Same H1 H2 → G H2)
    (hs : ∀ i x H H2 (k : V → Hp → Prop), i < n → Same H1 H → (∃ ys, H D = some (.lst ys)) → Y i H x H2 → (∀ y H4, Same H H4 → R i y H4 → k y H4) → g x (wipe σ vs) H2 fun σ2 H3 => wipe σ2 vs = wipe σ vs ∧ te σ2 H3 k)
    (hd : ∀ ys H2, ys.length = n → (∀ i y, ys[i]? = some y → R i y H2) → Same H1 H2 → H2 D = some (.lst ys) → Qd H2) :
    ∃ W : Nat → Nat → Hp → Prop, (∃ m, W 0 m (upd H1 D (.lst []))) ∧ ∀ i m H, W i m H →
      (J.stop i H ∧ Qd H) ∨ (J.go i H ∧ ∃ Nx : Hp → Prop, (∀ H', Nx H' → ∃ m', m' < m ∧ W (i + 1) m' H') ∧ ∀ x H', J.yld i H x H' → g x (wipe σ vs) H' fun σ2 H2 => wipe σ2 vs = wipe σ vs ∧ tYes σ2 H2 fun b H3 =>
        if b = true then te σ2 H3 fun y H4 => ∃ acc, H4 D = some (.lst acc) ∧ acc.length < sizeLine ∧ Nx (upd H4 D (.lst (acc ++ [y]))) else Nx H3) := by
  refine lc_it w (fun i H => Same H1 H ∧ ∃ ys : List V, ys.length = i ∧ (∀ j y, ys[j]? = some y → R j y H) ∧ H D = some (.lst ys)) ⟨same_new hD, [], rfl, fun j y e => by simp at e, upd_same⟩ (fun i H _ p => hG H p.1) ?_ ?_
  · rintro i x H H2 hi ⟨s1, ys, hl, hRs, hy⟩ y
    refine hs i x H H2 _ hi s1 ⟨_, hy⟩ y fun z H4 s4 r => ⟨ys, s4 _ _ hy, Nat.lt_of_lt_of_le (show ys.length < 1000000 by omega) (by rw [sizeLine_eq]; decide), same_mut (s1.trans s4) hD, ys ++ [z], by rw [List.length_append, hl]; rfl, fun j u e => ?_, upd_same⟩
    have kp : ∀ b o, b ≠ D → H4 b = some o → upd H4 D (.lst (ys ++ [z])) b = some o := fun b o hb e => by rw [upd_ne hb]; exact e
    refine hR j u H4 _ kp ?_
    by_cases hj : j < ys.length
    · rw [List.getElem?_append_left hj] at e
      exact hR j u H H4 (fun b o _ e => s4 b o e) (hRs j u e)
    · have hj2 : j = ys.length := by
        have := (List.getElem?_eq_some_iff.mp e).1
        rw [List.length_append] at this
        simp at this
        omega
      subst hj2
      rw [List.getElem?_append_right (Nat.le_refl _)] at e
      simp at e
      subst e
      rw [hl]
      exact r
  · rintro H ⟨s1, ys, hl, hRs, hy⟩
    exact hd ys H hl hRs s1 hy
/-! ### lists of lists of ints -/
structure LL (H : Hp) (q : Addr) (yss : List (List Int)) : Prop where
  ex : ∃ ys : List V, H q = some (.lst ys) ∧ ys.length = yss.length ∧ ∀ (i : Nat) y l, ys[i]? = some y → yss[i]? = some l → ∃ r, y = .ref r ∧ H r = some (.lst (l.map V.int))
theorem LL.same {H H2 : Hp} {q : Addr} {yss : List (List Int)} (s : Same H H2) (h : LL H q yss) : LL H2 q yss := by
  obtain ⟨ys, h1, h2, h3⟩ := h
  refine ⟨ys, s _ _ h1, h2, fun i y l e1 e2 => ?_⟩
  obtain ⟨r, e, e3⟩ := h3 i y l e1 e2
  exact ⟨r, e, s _ _ e3⟩
theorem dpAll_ll {K : PySem.W.Frag} {H : Hp} : ∀ (ys : List V) (yss : List (List Int)), ys.length = yss.length → (∀ (i : Nat) y l, ys[i]? = some y → yss[i]? = some l → ∃ r, y = .ref r ∧ H r = some (.lst (l.map V.int))) →
    DpAll K H ys (yss.map fun l => PyData.list (l.map PyData.int))
  | [], [], _, _ => .nil
  | y :: ys, l :: yss, hl, h => by
    obtain ⟨r, rfl, e⟩ := h 0 y l rfl rfl
    have all : ∀ ns : List Int, DpAll K H (ns.map V.int) (ns.map PyData.int) := fun ns => by
      induction ns with
      | nil => exact .nil
      | cons n r ih => exact .cons (.int n) ih
    exact .cons (.lst (.inl (.inl e)) (all l)) (dpAll_ll ys yss (by simpa using hl) fun i y' l' e1 e2 => h (i + 1) y' l' e1 e2)
  | [], _ :: _, hl, _ => nomatch hl
  | _ :: _, [], hl, _ => nomatch hl
abbrev dLL (yss : List (List Int)) : PyData := .list (yss.map fun l => PyData.list (l.map PyData.int))
theorem LL.dp {K : PySem.W.Frag} {H : Hp} {q : Addr} {yss : List (List Int)} (h : LL H q yss) : Dp K H (.ref q) (dLL yss) := by
  obtain ⟨ys, h1, h2, h3⟩ := h
  exact .lst (.inl (.inl h1)) (dpAll_ll ys yss h2 h3)
theorem eqv_ll : ∀ yss : List (List Int), PyData.eqvAll (yss.map fun l => PyData.list (l.map PyData.int)) (yss.map fun l => PyData.list (l.map PyData.int)) = true
  | [] => by simp [PyData.eqvAll]
  | l :: r => by
    have ih := eqv_ll r
    have h := PySem.W.ked_eqvAll l l
    rw [decide_eq_true rfl] at h
    simp only [List.map_cons, PyData.eqvAll, PyData.eqv, h, ih, Bool.and_self]
theorem shaped_ll (yss : List (List Int)) : SeqAt.shaped (dLL yss) = true := by
  have h1 : ∀ zss : List (List Int), PyData.canLayAll0 (zss.map fun l => PyData.list (l.map PyData.int)) = true := fun zss => by
    induction zss with
    | nil => simp [PyData.canLayAll0]
    | cons l r ih => simp [PyData.canLayAll0, PyData.canLay0, PySem.W.canLayAll0_ints, ih]
  have h2 : ∀ zss : List (List Int), PyData.depthAll (zss.map fun l => PyData.list (l.map PyData.int)) ≤ 2 := fun zss => by
    induction zss with
    | nil => simp [PyData.depthAll]
    | cons l r ih =>
      have h3 := PySem.W.depthAll_ints l
      simp only [List.map_cons, PyData.depthAll, PyData.depth]
      omega
  have h3 : PyData.depth (dLL yss) ≤ 64 := by
    have := h2 yss
    simp only [dLL, PyData.depth]
    omega
  show (PyData.canLay0 (dLL yss) && decide (PyData.depth (dLL yss) ≤ 64)) = true
  rw [Bool.and_eq_true]
  exact ⟨by simp only [dLL, PyData.canLay0]; exact h1 yss, decide_eq_true h3⟩
end Jc
namespace Jc
open PySem PySem.Spec L2
open PyProof.Rows hiding St
/-! ### _gone_marks, _met -/
def gmOf (c : List Int) : List Bool := c.map fun x => decide (x = -1)
def spGM (K : PySem.W.Frag) : Sp := fun vs H Q _ => ∃ (a : Addr) (c : List Int), vs = [.ref a] ∧ SqT K H a (c.map V.int) ∧ c.length ≤ 1000 ∧ ∀ (q : Addr) (H2 : Hp), Same H H2 → H q = none → H2 q = some (.lst ((gmOf c).map V.bl)) → Q (.ref q) H2
/-- the marks of what is alike in both, as ints; and the data they stand for -/
def codeM (x y : Int) : Int := if x = -1 then -1 else 100 * (x + 1) + (y + 1)
def metM (c d : List Int) : List Int := List.zipWith codeM c d
def datM (m : Int) : PyData := if m = -1 then .int (-1) else .tuple [.int (m / 100 - 1), .int (m % 100 - 1)]
def spMet (K : PySem.W.Frag) : Sp := fun vs H Q _ => ∃ (a b : Addr) (c d : List Int), vs = [.ref a, .ref b] ∧ SqT K H a (c.map V.int) ∧ SqT K H b (d.map V.int) ∧ c.length = d.length ∧ c.length ≤ 1000 ∧ (∀ x ∈ c, -1 ≤ x ∧ x < 50) ∧ (∀ x ∈ d, -1 ≤ x ∧ x < 50) ∧
  ∀ (q : Addr) (ys : List V) (H2 : Hp), Same H H2 → H q = none → H2 q = some (.lst ys) → DpAll K H2 ys ((metM c d).map datM) → Q (.ref q) H2
theorem datM_eqv (x y : Int) (hx : x = -1 ∨ 0 ≤ x) (hy : y = -1 ∨ 0 ≤ y) : PyData.eqv (datM x) (datM y) = decide (x = y) := by
  unfold datM
  by_cases a : x = -1
  · by_cases b : y = -1
    · rw [if_pos a, if_pos b, a, b]
      rfl
    · rw [if_pos a, if_neg b, decide_eq_false (fun z => b (z.symm.trans a))]
      rfl
  · by_cases b : y = -1
    · rw [if_neg a, if_pos b, decide_eq_false (fun z => a (z.trans b))]
      rfl
    · rw [if_neg a, if_neg b]
      show ((x / 100 - 1 == y / 100 - 1) && ((x % 100 - 1 == y % 100 - 1) && true)) = decide (x = y)
      by_cases c : x = y
      · subst c
        simp
      · rw [decide_eq_false c]
        by_cases d : x / 100 - 1 = y / 100 - 1
        · have e : ¬ (x % 100 - 1 = y % 100 - 1) := fun e => c (by omega)
          rw [beq_eq_false_iff_ne.mpr e]
          simp
        · rw [beq_eq_false_iff_ne.mpr d]
          simp
theorem codeM_ok {x y : Int} (hx : -1 ≤ x) (hy : -1 ≤ y) : codeM x y = -1 ∨ 0 ≤ codeM x y := by
  unfold codeM
  split
  · exact .inl rfl
  · right
    omega
theorem metM_mem {c d : List Int} {m : Int} (hc : ∀ x ∈ c, -1 ≤ x ∧ x < 50) (hd : ∀ x ∈ d, -1 ≤ x ∧ x < 50) (h : m ∈ metM c d) : m = -1 ∨ 0 ≤ m := by
  unfold metM at h
  obtain ⟨i, hi⟩ := List.getElem?_of_mem h
  rw [List.getElem?_zipWith] at hi
  cases e1 : c[i]? with
  | none => rw [e1] at hi; simp at hi
  | some x =>
    cases e2 : d[i]? with
    | none => rw [e1, e2] at hi; simp at hi
    | some y =>
      rw [e1, e2] at hi
      have e3 : codeM x y = m := Option.some.inj hi
      rw [← e3]
      exact codeM_ok (hc x (List.mem_of_getElem? e1)).1 (hd y (List.mem_of_getElem? e2)).1
theorem marks_met {c d : List Int} (hc : ∀ x ∈ c, -1 ≤ x ∧ x < 50) (hd : ∀ x ∈ d, -1 ≤ x ∧ x < 50) : Marks datM (metM c d) := by
  have h : ∀ x ∈ (-1 : Int) :: metM c d, x = -1 ∨ 0 ≤ x := fun x hx => by
    rcases List.mem_cons.mp hx with e | e
    · exact .inl e
    · exact metM_mem hc hd e
  refine ⟨rfl, fun x hx y hy => datM_eqv x y (h x hx) (h y hy), fun x hx => ?_⟩
  unfold datM
  split
  · exact ⟨rfl, by decide⟩
  · refine ⟨by simp [PyData.canLay0, PyData.canLayAll0], ?_⟩
    simp only [PyData.depth, PyData.depthAll]
    omega
section
variable {P : Program} {w : World} {K : PySem.W.Frag} {mg : Str → Option Value} {base : Heap} {f C : Addr} {fd : FuncData} {t1 : Tok}
abbrev s_gm : Stmt := topS 19
abbrev N_gm : List Str := ["classes", "number"]
theorem sc_gm : FnScope N_gm ["classes"] (defScope s_gm) := ⟨rfl, rfl, rfl, by decide +kernel, rfl, by decide +kernel, by decide +kernel⟩
theorem ok_gm (F : Fun K "_gone_marks" "_gone_marks" s_gm f fd) (T : TxP mg t1) : FnOk P w K mg base CX0 1 f fd ["classes"] (spGM K) := by
  refine F.ok sc_gm (fun vs H Q E h => ?_) (fun cdv A outer s H vs Q E hr h => ?_)
  · obtain ⟨a, c, rfl, _⟩ := h
    rfl
  · obtain ⟨a, c, rfl, ha, hl, q⟩ := h
    refine ⟨_, (pss_one (ps_ret (pe_lc (own := [("number", 1)]) (g := gName 1) rfl sc_gm.nd (pi_tup (pv 0)) (blkOk_by (own := [("number", 1)]) (N := N_gm) (sc := defScope s_gm) (by decide +kernel)) (fun _ _ _ _ _ => pg_name (i := 1) sc_gm.nd rfl (.inl rfl)) (fun _ _ _ _ _ => pts_nil) (fun _ _ _ _ _ => (pe_cmpR op_eq (pv 1) (pe_glob (v := .int (-1)) rfl T.GONE ⟨_, rfl⟩) (nomark _)))))), ?_⟩
    refine ⟨_, rfl, a, rfl, ⟨_, ha⟩, fun D hD => ?_⟩
    refine lc_sel walk_tup (fun i => ((gmOf c).map V.bl)[i]?) (by rw [List.length_map]; omega) hD (fun H3 z => seqT z ha) ?_ ?_
    · rintro i x H3 H4 k kn hi z ⟨rfl, hx⟩ ky kk
      obtain ⟨m, hm, rfl⟩ := get_ints hx
      refine ⟨rfl, ?_⟩
      refine iteT (B := kn H4) ⟨.int m, rfl, rfl, ky _ _ ?_ (Same.refl _)⟩
      rw [List.getElem?_map, gmOf, List.getElem?_map, hm]
      show some (V.bl (decide (m = -1))) = some (V.bl (decide (V.int m = V.int (-1))))
      congr 2
      exact decide_eq_decide.mpr ⟨congrArg V.int, V.int.inj⟩
    · intro H3 z hD2
      refine q D H3 z hD ?_
      rw [hD2]
      have e : (c.map V.int).length = ((gmOf c).map V.bl).length := by simp [gmOf]
      rw [e, range_get]
abbrev s_met : Stmt := topS 23
abbrev N_met : List Str := ["one", "other", "first", "second"]
theorem sc_met : FnScope N_met ["one", "other"] (defScope s_met) := ⟨rfl, rfl, rfl, by decide +kernel, rfl, by decide +kernel, by decide +kernel⟩
theorem ok_met (F : Fun K "_met" "_met" s_met f fd) (B : Blt mg) (T : TxP mg t1) : FnOk P w K mg base CX0 1 f fd ["one", "other"] (spMet K) := by
  refine F.ok sc_met (fun vs H Q E h => ?_) (fun cdv A outer s H vs Q E hr h => ?_)
  · obtain ⟨a, b, c, d, rfl, _⟩ := h
    rfl
  · obtain ⟨a, b, c, d, rfl, ha, hb, hl, hl2, hc, hd, q⟩ := h
    refine ⟨_, (pss_one (ps_ret (pe_lc (own := [("first", 2), ("second", 3)]) (g := _) rfl sc_met.nd (pi_znt rfl B.zip (pa_cons (pv 0) (pa_cons (pv 1) pa_nil))) (blkOk_by (own := [("first", 2), ("second", 3)]) (N := N_met) (sc := defScope s_met) (by decide +kernel)) (fun _ _ _ _ _ => pg_tupK (K := K) (n := 2) rfl rfl (pgs_cons (pg_name (i := 2) sc_met.nd rfl (.inl rfl)) (pgs_cons (pg_name (i := 3) sc_met.nd rfl (.inl rfl)) pgs_nil))) (fun _ _ _ _ _ => pts_nil) (fun _ _ _ _ _ => (pe_ifExp (pt_cmpR op_eq (pv 2) (pe_glob (v := .int (-1)) rfl T.GONE ⟨_, rfl⟩) (nomark _)) (pe_glob (v := .int (-1)) rfl T.GONE ⟨_, rfl⟩) (pe_tup (pa_cons (pv 2) (pa_cons (pv 3) pa_nil)))))))), ?_⟩
    have hcl : (c.map V.int).length = (d.map V.int).length := by rw [List.length_map, List.length_map]; exact hl
    refine ⟨_, rfl, _, rfl, a, b, _, _, rfl, ha, hb, fun D hD => ?_⟩
    refine lc_rel (walk_znt hcl) (fun i y H => ∃ x z, c[i]? = some x ∧ d[i]? = some z ∧ ((x = -1 ∧ y = .int (-1)) ∨ (x ≠ -1 ∧ ∃ r, y = .ref r ∧ r ≠ D ∧ H r = some (.tup [.int x, .int z])))) (by rw [List.length_map]; omega) hD (fun i y H H2 k r => ?_) (fun H3 z => ⟨seqT z ha, seqT z hb⟩) ?_ ?_
    · obtain ⟨x, z, e1, e2, h⟩ := r
      refine ⟨x, z, e1, e2, h.imp (fun w => w) fun ⟨n, r, e, ne, hr⟩ => ⟨n, r, e, ne, k r _ ne hr⟩⟩
    · rintro i v H3 H4 k hi z ⟨ys, hy⟩ ⟨U, v1, v2, rfl, nU, rfl, e1, e2⟩ kk
      obtain ⟨x, hx, rfl⟩ := get_ints e1
      obtain ⟨y, hy2, rfl⟩ := get_ints e2
      refine ⟨U, _, rfl, .inl (.inl upd_same), rfl, _, _, rfl, _, _, rfl, rfl, rfl, .int x, rfl, rfl, _, rfl, ?_⟩
      by_cases c1 : x = -1
      · exact iteDT (congrArg V.int c1) (kk _ _ (same_new nU) ⟨x, y, hx, hy2, .inl ⟨c1, rfl⟩⟩)
      · refine iteDF (fun w => c1 (V.int.inj w)) ⟨.int x, rfl, .int y, rfl, two_le, fun r nr => kk _ _ ((same_new nU).trans (same_new nr)) ⟨x, y, hx, hy2, .inr ⟨c1, r, rfl, ?_, upd_same⟩⟩⟩
        rintro rfl
        rw [(same_new nU) _ _ hy] at nr
        cases nr
    · intro ys H3 hly hR z hD2
      refine q D ys H3 z hD hD2 ?_
      have all : ∀ (n : Nat), n ≤ ys.length → DpAll K H3 (ys.drop (ys.length - n)) (((metM c d).map datM).drop (ys.length - n)) := by
        intro n
        induction n with
        | zero =>
          intro _
          rw [List.drop_of_length_le (by omega), List.drop_of_length_le (by simp [metM]; simp at hly; omega)]
          exact .nil
        | succ n ih =>
          intro hn
          have ih := ih (by omega)
          obtain ⟨y, hy⟩ : ∃ y, ys[ys.length - (n + 1)]? = some y := ⟨_, List.getElem?_eq_getElem (by omega)⟩
          obtain ⟨x, w2, e1, e2, h⟩ := hR _ _ hy
          have e3 : ((metM c d).map datM)[ys.length - (n + 1)]? = some (datM (codeM x w2)) := by
            rw [List.getElem?_map, metM, List.getElem?_zipWith, e1, e2]
            rfl
          obtain ⟨p1, p2⟩ := List.getElem?_eq_some_iff.mp hy
          obtain ⟨p3, p4⟩ := List.getElem?_eq_some_iff.mp e3
          rw [List.drop_eq_getElem_cons p1, List.drop_eq_getElem_cons p3, p2, p4, show ys.length - (n + 1) + 1 = ys.length - n by omega]
          refine .cons ?_ ih
          have b1 := hc x (List.mem_of_getElem? e1)
          have b2 := hd w2 (List.mem_of_getElem? e2)
          rcases h with ⟨h1, rfl⟩ | ⟨h1, r, rfl, _, hr⟩
          · rw [codeM, if_pos h1, datM, if_pos rfl]
            exact .int (-1)
          · have n1 : ¬ (100 * (x + 1) + (w2 + 1) = -1) := by omega
            rw [codeM, if_neg h1, datM, if_neg n1, show (100 * (x + 1) + (w2 + 1)) / 100 - 1 = x by omega, show (100 * (x + 1) + (w2 + 1)) % 100 - 1 = w2 by omega]
            exact .tup (.inl (.inl hr)) (.cons (.int x) (.cons (.int w2) .nil))
      have := all ys.length (Nat.le_refl _)
      rwa [Nat.sub_self, List.drop_zero, List.drop_zero] at this
end
end Jc
namespace Jc
open PySem PySem.Spec L2
open PyProof.Rows hiding St
structure OwnP (P : Program) (w : World) (K : PySem.W.Frag) (mg : Str → Option Value) (base : Heap) (C : Addr) (m : Str) (k : Nat) (sp : Sp) : Prop where
  ex : ∃ (p g : Addr) (fd : FuncData), PropOf K C m p g ∧ FnOk P w K mg base CX0 k g fd ["self"] sp ∧ Binds K fd ["self"] []
theorem pe_opr {X : Cx} {k j : Nat} {C : Addr} {m : Str} {sp : Sp} {pos : Pos} {o : Expr} {ta : TE} (he : PE X o ta) (c : Cls X.K C) (h : OwnP X.prog X.w X.K X.mg X.base C m k sp) (hr : Room j X.A) (hj : k + 1 ≤ j) (hab : attributeBase o m X.env (eval o X.env) = eval o X.env := by rfl) : PE X (.Attribute o m pos) (tProp C sp [] E0 ta) := by
  obtain ⟨p, g, fd, hp, F, hb⟩ := h.ex
  exact pe_prop he c hp F (hr.mono hj) hb .nil pass0 hab
/-- what isinstance asks of the class -/
structure PCi (K : PySem.W.Frag) (C : Addr) : Prop where
  ty : ∀ (H : Hp) (a dx : Addr) (fs : List (Str × V)), H a = some (.ins C dx fs) → TyX K H (.ref a) (.ref C)
  ii : PySem.W.kitOne K (.ref C) (.ref C) = some true
abbrev dB (bs : List Bool) : PyData := .list (bs.map PyData.bool)
theorem dp_bools {K : PySem.W.Frag} {H : Hp} {a : Addr} {bs : List Bool} (h : H a = some (.lst (bs.map V.bl))) : Dp K H (.ref a) (dB bs) := by
  have all : ∀ ns : List Bool, DpAll K H (ns.map V.bl) (ns.map PyData.bool) := fun ns => by
    induction ns with
    | nil => exact .nil
    | cons n r ih => exact .cons (.bl n) ih
  exact .lst (.inl (.inl h)) (all bs)
theorem eqv_bools (bs : List Bool) : PyData.eqv (dB bs) (dB bs) = true := by
  show PyData.eqvAll (bs.map PyData.bool) (bs.map PyData.bool) = true
  induction bs with
  | nil => simp [PyData.eqvAll]
  | cons b r ih =>
    simp only [List.map_cons, PyData.eqvAll, PyData.eqv, ih, Bool.and_true]
    exact beq_self_eq_true b
theorem shaped_bools (bs : List Bool) : SeqAt.shaped (dB bs) = true := by
  have h1 : ∀ zs : List Bool, PyData.canLayAll0 (zs.map PyData.bool) = true ∧ PyData.depthAll (zs.map PyData.bool) ≤ 1 := fun zs => by
    induction zs with
    | nil => simp [PyData.canLayAll0, PyData.depthAll]
    | cons l r ih =>
      refine ⟨by simp [PyData.canLayAll0, PyData.canLay0, ih.1], ?_⟩
      simp only [List.map_cons, PyData.depthAll, PyData.depth]
      omega
  obtain ⟨a, b⟩ := h1 bs
  have e : PyData.depth (dB bs) ≤ 64 := by
    simp only [dB, PyData.depth]
    omega
  show (PyData.canLay0 (dB bs) && decide (PyData.depth (dB bs) ≤ 64)) = true
  rw [decide_eq_true e]
  simp only [dB, PyData.canLay0, a, Bool.and_true]
def spPair (C : Addr) : Sp := fun vs H Q _ => ∃ (p q : Addr) (c d : List Int), vs = [.ref p, .ref q] ∧ PartAt C H p c ∧ PartAt C H q d ∧ gmOf c = gmOf d ∧ ∀ H2, Same H H2 → Q .non H2
/-- the meet of two -/
def spAnd (C : Addr) : Sp := fun vs H Q _ => ∃ (p q : Addr) (c d : List Int), vs = [.ref p, .ref q] ∧ PartAt C H p c ∧ PartAt C H q d ∧ gmOf c = gmOf d ∧ ∀ (r : Addr) (H2 : Hp), Same H H2 → PartAt C H2 r (num (metM c d)) → Q (.ref r) H2
def spFiner (C : Addr) : Sp := fun vs H Q _ => ∃ (p q : Addr) (c d : List Int), vs = [.ref p, .ref q] ∧ PartAt C H p c ∧ PartAt C H q d ∧ gmOf c = gmOf d ∧ ∀ H2, Same H H2 → Q (.bl (decide (num (metM c d) = c))) H2
theorem PartAt.small {C : Addr} {H : Hp} {p : Addr} {c : List Int} (h : PartAt C H p c) : ∀ x ∈ c, -1 ≤ x ∧ x < 50 := fun x hx => by
  have := num_small (h.nu.symm ▸ hx)
  have := h.hi
  omega
theorem gm_len {c d : List Int} (h : gmOf c = gmOf d) : c.length = d.length := by
  have := congrArg List.length h
  simpa [gmOf] using this
theorem metM_len {c d : List Int} (h : c.length = d.length) : (metM c d).length = c.length := by
  unfold metM
  rw [List.length_zipWith]
  omega
section
variable {P : Program} {w : World} {K : PySem.W.Frag} {mg : Str → Option Value} {base : Heap} {f C : Addr} {fd : FuncData} {t1 : Tok}
abbrev s_pair : Stmt := topS 18
abbrev N_pair : List Str := ["one", "other"]
theorem sc_pair : FnScope N_pair ["one", "other"] (defScope s_pair) := ⟨rfl, rfl, rfl, by decide +kernel, rfl, by decide +kernel, by decide +kernel⟩
theorem ok_pair (F : Fun K "_check_pair" "_check_pair" s_pair f fd) (B : Blt mg) (T : PCf K mg C) (TI : PCi K C) (c_gm : OwnK P w K mg base "_gone_marks" 1 ["classes"] (spGM K)) (m_cls : OwnP P w K mg base C "classes" 1 (getSp C "_classes")) :
    FnOk P w K mg base CX0 3 f fd ["one", "other"] (spPair C) := by
  refine F.ok sc_pair (fun vs H Q E h => ?_) (fun cdv A outer s H vs Q E hr h => ?_)
  · obtain ⟨p, q, c, d, rfl, _⟩ := h
    rfl
  · obtain ⟨p, q, c, d, rfl, hp, hq, hg, k⟩ := h
    have hu := hr.units
    obtain ⟨⟨dx, t, a1, a2⟩, lo, hi, nu⟩ := hp
    obtain ⟨⟨dy, u, b1, b2⟩, lo2, hi2, nu2⟩ := hq
    refine ⟨_, (pss_cons (ps_if (pt_not (pt_val (pe_callB call_isi rfl B.isinstance bo_isinstance (pa_cons (pv 1) (pa_cons (pe_glob (v := .ref C) rfl T.mc rfl) pa_nil))))) (pss_one ps_never) pss_nil)
      (pss_one (ps_if (pt_cmpR (op_neD hu) (pe_ownk c_gm hr (by decide) (pa_cons (pe_opr (pv 0) T.cl m_cls hr (by decide)) pa_nil)) (pe_ownk c_gm hr (by decide) (pa_cons (pe_opr (pv 1) T.cl m_cls hr (by decide)) pa_nil)) (nomark _)) (pss_one ps_never) pss_nil))), ?_⟩
    refine ⟨.ref q, rfl, .ref q, .ref C, _, _, true, rfl, .own C, TI.ty _ _ _ _ b1, TI.ii, true, rfl, iteF ?_⟩
    refine ⟨.ref p, rfl, p, dx, _, rfl, a1, p, dx, _, .ref t, rfl, a1, rfl, t, c, rfl, .inl (.inl a2), by omega, fun g1 H2 s2 _ h2 => ?_⟩
    refine ⟨.ref q, rfl, q, dy, _, rfl, s2 _ _ b1, q, dy, _, .ref u, rfl, s2 _ _ b1, rfl, u, d, rfl, .inl (.inl (s2 _ _ b2)), by omega, fun g2 H3 s3 _ h3 => ?_⟩
    rw [← hg] at h3
    refine ⟨dB (gmOf c), dB (gmOf c), dp_bools (s3 _ _ h2), dp_bools h3, shaped_bools _, shaped_bools _, _, rfl, ?_⟩
    rw [eqv_bools]
    exact iteF (k H3 (s2.trans s3))
abbrev s_and : Stmt := inClass (topS 13) 10
abbrev N_and : List Str := ["self", "other"]
theorem sc_and : FnScope N_and ["self", "other"] (defScope s_and) := ⟨rfl, rfl, rfl, by decide +kernel, rfl, by decide +kernel, by decide +kernel⟩
theorem ok_and (F : Fun K "__and__" "Partition.__and__" s_and f fd) (T : PCf K mg C) (c_pair : OwnK P w K mg base "_check_pair" 3 ["one", "other"] (spPair C)) (c_met : OwnK P w K mg base "_met" 1 ["one", "other"] (spMet K)) (c_numberedD : OwnK P w K mg base "numbered" 1 ["marks"] (spNumD K))
    (M : OwnI P w K mg base C 3 (spInit K C)) : FnOk P w K mg base CX0 5 f fd ["self", "other"] (spAnd C) := by
  refine F.ok sc_and (fun vs H Q E h => ?_) (fun cdv A outer s H vs Q E hr h => ?_)
  · obtain ⟨p, q, c, d, rfl, _⟩ := h
    rfl
  · obtain ⟨p, q, c, d, rfl, hp, hq, hg, k⟩ := h
    have sc := hp.small
    have sd := hq.small
    have hl := gm_len hg
    have hp0 := hp
    have hq0 := hq
    obtain ⟨⟨dx, t, a1, a2⟩, lo, hi, nu⟩ := hp
    obtain ⟨⟨dy, u, b1, b2⟩, lo2, hi2, nu2⟩ := hq
    refine ⟨_, (pss_cons (ps_expr (pe_ownk c_pair hr (by decide) (pa_cons (pv 0) (pa_cons (pv 1) pa_nil)))) (pss_one (ps_ret (pe_oi M hr (by decide) T.mc (pa_cons (pe_ownk c_numberedD hr (by decide) (pa_cons (pe_ownk c_met hr (by decide) (pa_cons (pe_fld (pv 0) rfl) (pa_cons (pe_fld (pv 1) rfl) pa_nil))) pa_nil)) pa_nil))))), ?_⟩
    refine ⟨.ref p, rfl, .ref q, rfl, p, q, c, d, rfl, hp0, hq0, hg, fun H2 s2 => ?_⟩
    refine ⟨.ref p, rfl, p, C, dx, _, .ref t, rfl, s2 _ _ a1, T.cl, T.na, rfl, .ref q, rfl, q, C, dy, _, .ref u, rfl, s2 _ _ b1, T.cl, T.na, rfl, ?_⟩
    refine ⟨t, u, c, d, rfl, .inl (.inl (s2 _ _ a2)), .inl (.inl (s2 _ _ b2)), hl, by omega, sc, sd, fun m ys H3 s3 _ h3 hd3 => ?_⟩
    refine ⟨m, ys, metM c d, datM, rfl, .inl (.inl h3), hd3, marks_met sc sd, by rw [metM_len hl]; omega, fun r H4 s4 _ h4 => ?_⟩
    exact mk_of h4 (by rw [num_len, metM_len hl]; omega) (by rw [num_len, metM_len hl]; omega) (num_num _) fun y H5 s5 _ hy => k y H5 (s2.trans (s3.trans (s4.trans s5))) hy
abbrev s_finer : Stmt := inClass (topS 13) 14
abbrev N_finer : List Str := ["self", "other"]
theorem sc_finer : FnScope N_finer ["self", "other"] (defScope s_finer) := ⟨rfl, rfl, rfl, by decide +kernel, rfl, by decide +kernel, by decide +kernel⟩
theorem ok_finer (F : Fun K "is_finer" "Partition.is_finer" s_finer f fd) (B : Blt mg) (T : PCf K mg C) (c_pair : OwnK P w K mg base "_check_pair" 3 ["one", "other"] (spPair C)) (c_met : OwnK P w K mg base "_met" 1 ["one", "other"] (spMet K)) (c_numberedD : OwnK P w K mg base "numbered" 1 ["marks"] (spNumD K)) :
    FnOk P w K mg base CX0 4 f fd ["self", "other"] (spFiner C) := by
  refine F.ok sc_finer (fun vs H Q E h => ?_) (fun cdv A outer s H vs Q E hr h => ?_)
  · obtain ⟨p, q, c, d, rfl, _⟩ := h
    rfl
  · obtain ⟨p, q, c, d, rfl, hp, hq, hg, k⟩ := h
    have hu := hr.units
    have sc := hp.small
    have sd := hq.small
    have hl := gm_len hg
    have hp0 := hp
    have hq0 := hq
    obtain ⟨⟨dx, t, a1, a2⟩, lo, hi, nu⟩ := hp
    obtain ⟨⟨dy, u, b1, b2⟩, lo2, hi2, nu2⟩ := hq
    refine ⟨_, (pss_cons (ps_expr (pe_ownk c_pair hr (by decide) (pa_cons (pv 0) (pa_cons (pv 1) pa_nil)))) (pss_one (ps_ret (pe_cmpR (op_eqD hu) (pe_ownk c_numberedD hr (by decide) (pa_cons (pe_ownk c_met hr (by decide) (pa_cons (pe_fld (pv 0) rfl) (pa_cons (pe_fld (pv 1) rfl) pa_nil))) pa_nil)) (pe_callTy call_list_of rfl B.list bo_list (pa_cons (pe_fld (pv 0) rfl) pa_nil)) (nomark _))))), ?_⟩
    refine ⟨.ref p, rfl, .ref q, rfl, p, q, c, d, rfl, hp0, hq0, hg, fun H2 s2 => ?_⟩
    refine ⟨.ref p, rfl, p, C, dx, _, .ref t, rfl, s2 _ _ a1, T.cl, T.na, rfl, .ref q, rfl, q, C, dy, _, .ref u, rfl, s2 _ _ b1, T.cl, T.na, rfl, ?_⟩
    refine ⟨t, u, c, d, rfl, .inl (.inl (s2 _ _ a2)), .inl (.inl (s2 _ _ b2)), hl, by omega, sc, sd, fun m ys H3 s3 _ h3 hd3 => ?_⟩
    refine ⟨m, ys, metM c d, datM, rfl, .inl (.inl h3), hd3, marks_met sc sd, by rw [metM_len hl]; omega, fun r H4 s4 _ h4 => ?_⟩
    have s24 := s2.trans (s3.trans s4)
    refine ⟨.ref p, rfl, p, C, dx, _, .ref t, rfl, s24 _ _ a1, T.cl, T.na, rfl, t, _, rfl, .inr (.inl (.inl (s24 _ _ a2))), fun l nl => ?_⟩
    refine ⟨dI (num (metM c d)), dI c, dp_ints ((same_new nl) _ _ h4), dp_ints upd_same, PySem.W.shaped_ints _, PySem.W.shaped_ints _, ?_⟩
    rw [eqv_ints]
    exact k _ (s24.trans (same_new nl))
end
end Jc
namespace Jc
open PySem PySem.Spec L2
open PyProof.Rows hiding St
/-! ### _joined, | -/
theorem at_int2 {ns : List Int} {k : Int} {i : Nat} {m : Int} (h : k = (i : Int)) (e : ns[i]? = some m) : atI (ns.map V.int) k = some (.int m) := by
  subst h
  exact at_ints e
def boundM (d ms : List Int) (n : Int) : List Int := (members d n).map fun h => ms.getD h.toNat 0
def stepM (d ms : List Int) (n : Int) : List Int := ms.map fun m => if m ∈ boundM d ms n then (boundM d ms n).headD 0 else m
def joinM (c d : List Int) : Nat → List Int
  | 0 => c
  | n + 1 => stepM d (joinM c d n) (n : Int)
theorem joinM_len (c d : List Int) : ∀ n, (joinM c d n).length = c.length
  | 0 => rfl
  | n + 1 => by
    show (stepM d (joinM c d n) (n : Int)).length = c.length
    unfold stepM
    rw [List.length_map, joinM_len c d n]
theorem members_lt {d : List Int} {n h : Int} (hh : h ∈ members d n) : 0 ≤ h ∧ h < d.length := by
  unfold members at hh
  obtain ⟨i, hi, e⟩ := List.mem_filterMap.mp hh
  rw [List.mem_range] at hi
  split at e
  · cases e
    omega
  · cases e
def spJoin (K : PySem.W.Frag) : Sp := fun vs H Q _ => ∃ (a b : Addr) (c d : List Int), vs = [.ref a, .ref b] ∧ SqT K H a (c.map V.int) ∧ SqT K H b (d.map V.int) ∧ c.length = d.length ∧ 1 ≤ d.length ∧ d.length ≤ 1000 ∧ (∀ x ∈ d, -1 ≤ x ∧ x < 50) ∧
  ∀ (q : Addr) (H2 : Hp) (M : Int), Same H H2 → H q = none → M ∈ d → (∀ y ∈ d, y ≤ M) → H2 q = some (.lst ((joinM c d (M + 1).toNat).map V.int)) → Q (.ref q) H2
def spOr (C : Addr) : Sp := fun vs H Q _ => ∃ (p q : Addr) (c d : List Int), vs = [.ref p, .ref q] ∧ PartAt C H p c ∧ PartAt C H q d ∧ gmOf c = gmOf d ∧
  ∀ (r : Addr) (H2 : Hp) (M : Int), Same H H2 → M ∈ d → (∀ y ∈ d, y ≤ M) → PartAt C H2 r (num (joinM c d (M + 1).toNat)) → Q (.ref r) H2
section
variable {P : Program} {w : World} {K : PySem.W.Frag} {mg : Str → Option Value} {base : Heap} {f C : Addr} {fd : FuncData} {t1 : Tok}
abbrev s_joined : Stmt := topS 24
abbrev N_joined : List Str := ["one", "other", "marks", "number", "bound", "holder", "mark"]
theorem sc_joined : FnScope N_joined ["one", "other"] (defScope s_joined) := ⟨rfl, rfl, rfl, by decide +kernel, rfl, by decide +kernel, by decide +kernel⟩
theorem ok_joined (F : Fun K "_joined" "_joined" s_joined f fd) (B : Blt mg) (c_members : OwnK P w K mg base "_members" 1 ["classes", "number"] (spMem K)) : FnOk P w K mg base CX0 2 f fd ["one", "other"] (spJoin K) := by
  refine F.ok sc_joined (fun vs H Q E h => ?_) (fun cdv A outer s H vs Q E hr h => ?_)
  · obtain ⟨a, b, c, d, rfl, _⟩ := h
    rfl
  · obtain ⟨a, b, c, d, rfl, ha, hb, hl, lo, hi, hd, q⟩ := h
    refine ⟨_, (pss_cons (ps_set (i := 2) sc_joined.nd rfl (.inr rfl) (pe_callTy call_list_of rfl B.list bo_list (pa_cons (pv 0) pa_nil)))
      (pss_cons (ps_for PassesOwn.never rfl (pi_range1 rfl B.range (pa_cons (pe_op op_add (pe_callB (cr_maxT rfl) rfl B.max bo_max (pa_cons (pv 1) pa_nil)) pe_int) pa_nil)) (pg_name (i := 3) sc_joined.nd rfl (.inl rfl))
        (pss_cons (ps_set (i := 4) sc_joined.nd rfl (.inr rfl) (pe_lc (own := [("holder", 5)]) (g := gName 5) rfl sc_joined.nd (pi_list (pe_ownk c_members hr (by decide) (pa_cons (pv 1) (pa_cons (pv 3) pa_nil)))) (blkOk_by (own := [("holder", 5)]) (N := N_joined) (sc := defScope s_joined) (by decide +kernel)) (fun _ _ _ _ _ => pg_name (i := 5) sc_joined.nd rfl (.inl rfl)) (fun _ _ _ _ _ => pts_nil) (fun _ _ _ _ _ => (pe_ix (ixl_K (K := K) rfl) (pv 2) (pv 5) (fun _ _ => rfl)))))
        (pss_one (ps_set (i := 2) sc_joined.nd rfl (.inr rfl) (pe_lc (own := [("mark", 6)]) (g := gName 6) rfl sc_joined.nd (pi_list (pv 2)) (blkOk_by (own := [("mark", 6)]) (N := N_joined) (sc := defScope s_joined) (by decide +kernel)) (fun _ _ _ _ _ => pg_name (i := 6) sc_joined.nd rfl (.inl rfl)) (fun _ _ _ _ _ => pts_nil) (fun _ _ _ _ _ => (pe_ifExp (pt_cmpR (in_K (K := K) rfl) (pv 6) (pv 4) rfl) (pe_ix (ixl_K (K := K) rfl) (pv 4) pe_int (fun _ _ => rfl)) (pv 6))))))))
      (pss_one (ps_ret (pv 2))))), ?_⟩
    refine ⟨.ref a, rfl, a, _, rfl, .inr ha, fun L nL => ?_⟩
    have s0 : Same H (upd H L (.lst (c.map V.int))) := same_new nL
    refine ⟨.ref b, rfl, b, d, rfl, seqT s0 hb, by omega, fun M hM hmax => ?_⟩
    have hMb := hd M hM
    refine ⟨M, 1, rfl, rfl, M + 1, rfl, by omega, by omega, for_it walk_range (fun i σ H2 => ∃ l y3 y4 y5 y6, σ = [some (.ref a), some (.ref b), some (.ref l), y3, y4, y5, y6] ∧ Same H H2 ∧ H l = none ∧ H2 l = some (.lst ((joinM c d i).map V.int))) ⟨L, _, _, _, _, rfl, s0, nL, upd_same⟩ (fun _ _ _ _ _ => trivial) ?_ ?_⟩
    · rintro i x σ H1 H2 hi2 ⟨l, y3, y4, y5, y6, rfl, s1, nl, hl2⟩ ⟨rfl, hx⟩
      obtain rfl : x = .int (i : Int) := hx.trans (congrArg V.int (by omega))
      have hjl := joinM_len c d i
      refine ⟨.ref b, rfl, .int (i : Int), rfl, b, d, (i : Int), rfl, seqT s1 hb, hi, fun m H3 s3 nm hm => ?_⟩
      have s13 := s1.trans s3
      refine ⟨m, rfl, ⟨_, .inl (.inl hm)⟩, fun D hD => ?_⟩
      have bl : (boundM d (joinM c d i) (i : Int)).length = (members d (i : Int)).length := by unfold boundM; rw [List.length_map]
      have ml : (members d (i : Int)).length ≤ d.length := by
        unfold members
        have := List.length_filterMap_le (fun j : Nat => if d[j]? = some (i : Int) then some (j : Int) else none) (List.range d.length)
        rwa [List.length_range] at this
      refine lc_sel walk_list (fun j => ((boundM d (joinM c d i) (i : Int)).map V.int)[j]?) (by rw [List.length_map]; omega) hD (fun H4 z => .inl (.inl (z _ _ hm))) ?_ ?_
      · rintro j x H4 H5 k kn hj z ⟨rfl, hx2⟩ ky kk
        obtain ⟨h, hh, rfl⟩ := get_ints hx2
        obtain ⟨h0, h1⟩ := members_lt (List.mem_of_getElem? hh)
        have hg : (joinM c d i)[h.toNat]? = some ((joinM c d i).getD h.toNat 0) := by
          rw [List.getD_eq_getElem?_getD, List.getElem?_eq_getElem (show h.toNat < (joinM c d i).length by omega)]
          rfl
        refine ⟨rfl, ?_⟩
        refine iteT (B := kn H5) ⟨.ref l, rfl, .int h, rfl, l, _, h, _, rfl, rfl, .inl (.inl (z _ _ (s3 _ _ hl2))), at_int2 (i := h.toNat) (by omega) hg, ky _ _ ?_ (Same.refl _)⟩
        rw [List.getElem?_map, boundM, List.getElem?_map, hh]
        rfl
      · intro H4 z hD2
        have e : ((members d (i : Int)).map V.int).length = ((boundM d (joinM c d i) (i : Int)).map V.int).length := by rw [List.length_map, List.length_map, bl]
        rw [e, range_get] at hD2
        have s14 := s13.trans z
        have hl4 := z _ _ (s3 _ _ hl2)
        refine ⟨.ref l, rfl, l, rfl, ⟨_, .inl (.inl hl4)⟩, fun E nE => ?_⟩
        refine lc_sel walk_list (fun j => ((stepM d (joinM c d i) (i : Int)).map V.int)[j]?) (by rw [List.length_map]; omega) nE (fun H5 z => .inl (.inl (z _ _ hl4))) ?_ ?_
        · rintro j x H5 H6 k kn hj z5 ⟨rfl, hx2⟩ ky kk
          obtain ⟨m2, hm2, rfl⟩ := get_ints hx2
          have hD5 := z5 _ _ hD2
          have ef : ((stepM d (joinM c d i) (i : Int)).map V.int)[j]? = some (.int (if m2 ∈ boundM d (joinM c d i) (i : Int) then (boundM d (joinM c d i) (i : Int)).headD 0 else m2)) := by
            rw [List.getElem?_map, stepM, List.getElem?_map, hm2]
            rfl
          refine ⟨rfl, ?_⟩
          refine iteT (B := kn H6) ⟨.int m2, rfl, .ref D, rfl, ⟨D, _, rfl, .inl (.inl (.inl hD5)), rfl, flat_ints _, _, rfl, ?_⟩⟩
          rw [if_neg (show ¬ (false = true) from Bool.false_ne_true), inV_ints]
          by_cases cm : m2 ∈ boundM d (joinM c d i) (i : Int)
          · have h0 : (boundM d (joinM c d i) (i : Int))[0]? = some ((boundM d (joinM c d i) (i : Int)).headD 0) := by
              cases eb : boundM d (joinM c d i) (i : Int) with
              | nil => rw [eb] at cm; cases cm
              | cons p r => rfl
            refine iteDT cm ⟨.ref D, rfl, D, _, 0, _, rfl, rfl, .inl (.inl hD5), at_ints (i := 0) h0, ky _ _ ?_ (Same.refl _)⟩
            rw [ef, if_pos cm]
          · refine iteDF cm ⟨.int m2, rfl, ky _ _ ?_ (Same.refl _)⟩
            rw [ef, if_neg cm]
        · intro H5 z5 hE
          have e5 : ((joinM c d i).map V.int).length = ((stepM d (joinM c d i) (i : Int)).map V.int).length := by unfold stepM; simp
          rw [e5, range_get] at hE
          exact ⟨E, _, _, _, _, rfl, s14.trans z5, s14.free nE, hE⟩
    · rintro σ H2 ⟨l, y3, y4, y5, y6, rfl, s2, nl, hl2⟩
      exact ⟨.ref l, rfl, q l H2 M s2 nl hM hmax hl2⟩
abbrev s_or : Stmt := inClass (topS 13) 12
abbrev N_or : List Str := ["self", "other"]
theorem sc_or : FnScope N_or ["self", "other"] (defScope s_or) := ⟨rfl, rfl, rfl, by decide +kernel, rfl, by decide +kernel, by decide +kernel⟩
theorem ok_or (F : Fun K "__or__" "Partition.__or__" s_or f fd) (T : PCf K mg C) (c_pair : OwnK P w K mg base "_check_pair" 3 ["one", "other"] (spPair C)) (c_joined : OwnK P w K mg base "_joined" 2 ["one", "other"] (spJoin K)) (c_numbered : OwnK P w K mg base "numbered" 1 ["marks"] (spNum K))
    (M : OwnI P w K mg base C 3 (spInit K C)) : FnOk P w K mg base CX0 5 f fd ["self", "other"] (spOr C) := by
  refine F.ok sc_or (fun vs H Q E h => ?_) (fun cdv A outer s H vs Q E hr h => ?_)
  · obtain ⟨p, q, c, d, rfl, _⟩ := h
    rfl
  · obtain ⟨p, q, c, d, rfl, hp, hq, hg, k⟩ := h
    have sd := hq.small
    have hl := gm_len hg
    have hp0 := hp
    have hq0 := hq
    obtain ⟨⟨dx, t, a1, a2⟩, lo, hi, nu⟩ := hp
    obtain ⟨⟨dy, u, b1, b2⟩, lo2, hi2, nu2⟩ := hq
    refine ⟨_, (pss_cons (ps_expr (pe_ownk c_pair hr (by decide) (pa_cons (pv 0) (pa_cons (pv 1) pa_nil)))) (pss_one (ps_ret (pe_oi M hr (by decide) T.mc (pa_cons (pe_ownk c_numbered hr (by decide) (pa_cons (pe_ownk c_joined hr (by decide) (pa_cons (pe_fld (pv 0) rfl) (pa_cons (pe_fld (pv 1) rfl) pa_nil))) pa_nil)) pa_nil))))), ?_⟩
    refine ⟨.ref p, rfl, .ref q, rfl, p, q, c, d, rfl, hp0, hq0, hg, fun H2 s2 => ?_⟩
    refine ⟨.ref p, rfl, p, C, dx, _, .ref t, rfl, s2 _ _ a1, T.cl, T.na, rfl, .ref q, rfl, q, C, dy, _, .ref u, rfl, s2 _ _ b1, T.cl, T.na, rfl, ?_⟩
    refine ⟨t, u, c, d, rfl, .inl (.inl (s2 _ _ a2)), .inl (.inl (s2 _ _ b2)), hl, lo2, by omega, sd, fun m H3 Mx s3 _ hM hmax h3 => ?_⟩
    refine ⟨m, _, rfl, .inl (.inl h3), by rw [joinM_len]; omega, fun r H4 s4 _ h4 => ?_⟩
    exact mk_of h4 (by rw [num_len, joinM_len]; omega) (by rw [num_len, joinM_len]; omega) (num_num _) fun y H5 s5 _ hy => k y H5 Mx (s2.trans (s3.trans (s4.trans s5))) hM hmax hy
end
end Jc
namespace Jc
open PySem PySem.Spec L2
open PyProof.Rows hiding St
abbrev dT (ns : List Int) : PyData := .tuple (ns.map PyData.int)
theorem dp_tup {K : PySem.W.Frag} {H : Hp} {a : Addr} {ns : List Int} (h : SqT K H a (ns.map V.int)) : Dp K H (.ref a) (dT ns) := .tup h (dpAll_ints ns)
theorem eqv_tup (ns ms : List Int) : PyData.eqv (dT ns) (dT ms) = decide (ns = ms) := PySem.W.ked_eqvAll ns ms
theorem shaped_tup (ns : List Int) : SeqAt.shaped (dT ns) = true := by
  have h1 := PySem.W.depthAll_ints ns
  have e : PyData.depth (dT ns) ≤ 64 := by
    simp only [dT, PyData.depth]
    omega
  show (PyData.canLay0 (dT ns) && decide (PyData.depth (dT ns) ≤ 64)) = true
  rw [decide_eq_true e]
  simp only [dT, PyData.canLay0, PySem.W.canLayAll0_ints, Bool.and_true]
def spEqP (C : Addr) : Sp := fun vs H Q _ => ∃ (p q : Addr) (c d : List Int), vs = [.ref p, .ref q] ∧ PartAt C H p c ∧ PartAt C H q d ∧ Q (.bl (decide (c = d))) H
def spLenP (C : Addr) : Sp := fun vs H Q _ => ∃ (p : Addr) (c : List Int), vs = [.ref p] ∧ PartAt C H p c ∧ Q (.int (c.length : Int)) H
section
variable {P : Program} {w : World} {K : PySem.W.Frag} {mg : Str → Option Value} {base : Heap} {f C : Addr} {fd : FuncData} {t1 : Tok}
abbrev s_eq : Stmt := inClass (topS 13) 8
abbrev N_eq : List Str := ["self", "other"]
theorem sc_eq : FnScope N_eq ["self", "other"] (defScope s_eq) := ⟨rfl, rfl, rfl, by decide +kernel, rfl, by decide +kernel, by decide +kernel⟩
theorem ok_eq (F : Fun K "__eq__" "Partition.__eq__" s_eq f fd) (B : Blt mg) (T : PCf K mg C) (TI : PCi K C) : FnOk P w K mg base CX0 1 f fd ["self", "other"] (spEqP C) := by
  refine F.ok sc_eq (fun vs H Q E h => ?_) (fun cdv A outer s H vs Q E hr h => ?_)
  · obtain ⟨p, q, c, d, rfl, _⟩ := h
    rfl
  · obtain ⟨p, q, c, d, rfl, hp, hq, k⟩ := h
    have hu := hr.units
    obtain ⟨⟨dx, t, a1, a2⟩, lo, hi, nu⟩ := hp
    obtain ⟨⟨dy, u, b1, b2⟩, lo2, hi2, nu2⟩ := hq
    refine ⟨_, (pss_one (ps_ret (pe_and (pe_callB call_isi rfl B.isinstance bo_isinstance (pa_cons (pv 1) (pa_cons (pe_glob (v := .ref C) rfl T.mc rfl) pa_nil))) (pe_one (pe_cmpR (op_eqD hu) (pe_fld (pv 0) rfl) (pe_fld (pv 1) rfl) (nomark _)))))), ?_⟩
    refine ⟨.ref q, rfl, .ref q, .ref C, _, _, true, rfl, .own C, TI.ty _ _ _ _ b1, TI.ii, true, rfl, ?_⟩
    refine iteT ⟨.ref p, rfl, p, C, dx, _, .ref t, rfl, a1, T.cl, T.na, rfl, .ref q, rfl, q, C, dy, _, .ref u, rfl, b1, T.cl, T.na, rfl, dT c, dT d, dp_tup (.inl (.inl a2)), dp_tup (.inl (.inl b2)), shaped_tup _, shaped_tup _, ?_⟩
    rw [eqv_tup]
    exact k
abbrev s_len : Stmt := inClass (topS 13) 5
abbrev N_len : List Str := ["self"]
theorem sc_len : FnScope N_len ["self"] (defScope s_len) := ⟨rfl, rfl, rfl, by decide +kernel, rfl, by decide +kernel, by decide +kernel⟩
theorem ok_len (F : Fun K "__len__" "Partition.__len__" s_len f fd) (B : Blt mg) (T : PCf K mg C) : FnOk P w K mg base CX0 1 f fd ["self"] (spLenP C) := by
  refine F.ok sc_len (fun vs H Q E h => ?_) (fun cdv A outer s H vs Q E hr h => ?_)
  · obtain ⟨p, c, rfl, _⟩ := h
    rfl
  · obtain ⟨p, c, rfl, hp, k⟩ := h
    obtain ⟨⟨dx, t, a1, a2⟩, lo, hi, nu⟩ := hp
    refine ⟨_, (pss_one (ps_ret (pe_callB call_len_seq rfl B.len bo_len (pa_cons (pe_fld (pv 0) rfl) pa_nil)))), ?_⟩
    refine ⟨.ref p, rfl, p, C, dx, _, .ref t, rfl, a1, T.cl, T.na, rfl, t, _, rfl, .inr (.inl (.inl a2)), ?_⟩
    rw [List.length_map]
    exact k
end
end Jc
namespace Jc
open PySem PySem.Spec L2
open PyProof.Rows hiding St
/-! ### _is_order, renamed -/
def upto (n : Nat) : List Int := (List.range n).map fun i : Nat => (i : Int)
theorem upto_lt (n : Nat) : (upto n).Pairwise (· < ·) := by
  unfold upto
  rw [List.pairwise_map]
  exact List.pairwise_lt_range.imp fun h => by omega
theorem rgV_upto (n : Nat) : rgV 0 (n : Int) = (upto n).map V.int := by
  unfold rgV upto
  rw [List.map_map, show ((n : Int) - 0).toNat = n by omega]
  refine List.map_congr_left fun i _ => ?_
  show V.int (0 + (i : Int)) = V.int (i : Int)
  rw [Int.zero_add]
theorem lt_ext : ∀ {xs ys : List Int}, xs.Pairwise (· < ·) → ys.Pairwise (· < ·) → (∀ k, k ∈ xs ↔ k ∈ ys) → xs = ys
  | [], [], _, _, _ => rfl
  | [], y :: ys, _, _, h => by have := (h y).mpr List.mem_cons_self; cases this
  | x :: xs, [], _, _, h => by have := (h x).mp List.mem_cons_self; cases this
  | x :: xs, y :: ys, h1, h2, h => by
    obtain ⟨a1, b1⟩ := List.pairwise_cons.mp h1
    obtain ⟨a2, b2⟩ := List.pairwise_cons.mp h2
    have e : x = y := by
      rcases List.mem_cons.mp ((h x).mp List.mem_cons_self) with z | z
      · exact z
      · have p := a2 x z
        rcases List.mem_cons.mp ((h y).mpr List.mem_cons_self) with w | w
        · exact w.symm
        · have := a1 y w
          omega
    subst e
    rw [lt_ext b1 b2 fun k => ?_]
    constructor
    · intro hk
      have p := a1 k hk
      rcases List.mem_cons.mp ((h k).mp (List.mem_cons_of_mem _ hk)) with z | z
      · omega
      · exact z
    · intro hk
      have p := a2 k hk
      rcases List.mem_cons.mp ((h k).mpr (List.mem_cons_of_mem _ hk)) with z | z
      · omega
      · exact z
theorem sorted_upto {ns : List Int} {n : Nat} (hp : ns.Perm (upto n)) (hs : ns.Pairwise (· ≤ ·)) : ns = upto n := by
  have nd : ns.Nodup := hp.nodup_iff.mpr ((upto_lt n).imp fun h => by omega)
  refine lt_ext ?_ (upto_lt n) fun k => hp.mem_iff
  have h2 := List.pairwise_and_iff.mpr ⟨hs, nd⟩
  exact h2.imp fun h => by
    have := h.1
    have := h.2
    omega
def spOrder : Sp := fun vs H Q _ => ∃ (a : Addr) (n : Nat) (os : List Int), vs = [.ref a, .int (n : Int)] ∧ H a = some (.lst (os.map V.int)) ∧ n ≤ 8 ∧ os.Perm (upto n) ∧ ∀ H2, Same H H2 → Q (.bl true) H2
def spRen (C : Addr) : Sp := fun vs H Q _ => ∃ (p o : Addr) (c os : List Int), vs = [.ref p, .ref o] ∧ PartAt C H p c ∧ H o = some (.lst (os.map V.int)) ∧ os.Perm (upto c.length) ∧ ∀ (q : Addr) (H2 : Hp), Same H H2 → PartAt C H2 q (num (pick c os)) → Q (.ref q) H2
section
variable {P : Program} {w : World} {K : PySem.W.Frag} {mg : Str → Option Value} {base : Heap} {f C : Addr} {fd : FuncData} {t1 : Tok}
end
end Jc
namespace Jc
/-! ### what marks tell: who is alike -/
def gv (c : List Int) (i : Nat) : Int := c.getD i (-1)
def Al (c : List Int) (i j : Nat) : Prop := gv c i = gv c j ∧ gv c i ≠ -1
theorem gv_some {c : List Int} {i : Nat} {x : Int} (h : c[i]? = some x) : gv c i = x := by
  unfold gv
  rw [List.getD_eq_getElem?_getD, h]
  rfl
theorem gv_out {c : List Int} {i : Nat} (h : c.length ≤ i) : gv c i = -1 := by
  unfold gv
  rw [List.getD_eq_getElem?_getD, List.getElem?_eq_none h]
  rfl
theorem gv_in {c : List Int} {i : Nat} (h : i < c.length) : c[i]? = some (gv c i) := by
  rw [List.getElem?_eq_getElem h]
  congr 1
  exact (gv_some (List.getElem?_eq_getElem h)).symm
theorem gv_lt {c : List Int} {i : Nat} (h : gv c i ≠ -1) : i < c.length := by
  by_cases z : i < c.length
  · exact z
  · exact absurd (gv_out (Nat.le_of_not_lt z)) h
theorem gv_mem {c : List Int} {i : Nat} (h : i < c.length) : gv c i ∈ c := List.mem_of_getElem? (gv_in h)
theorem Al.left {c : List Int} {i j : Nat} (h : Al c i j) : i < c.length := gv_lt h.2
theorem Al.right {c : List Int} {i j : Nat} (h : Al c i j) : j < c.length := gv_lt (h.1 ▸ h.2)
theorem Al.self {c : List Int} {i j : Nat} (h : Al c i j) : Al c i i ∧ Al c j j := ⟨⟨rfl, h.2⟩, ⟨rfl, h.1 ▸ h.2⟩⟩
theorem al_self {c : List Int} {i : Nat} : Al c i i ↔ gv c i ≠ -1 := ⟨fun h => h.2, fun h => ⟨rfl, h⟩⟩
theorem can_ext {c d : List Int} (hc : num c = c) (hd : num d = d) (hl : c.length = d.length) (h : ∀ i j, Al c i j ↔ Al d i j) : c = d := by
  rw [← hc, ← hd]
  have gone : ∀ i, gv c i = -1 ↔ gv d i = -1 := fun i => by
    have := h i i
    rw [al_self, al_self] at this
    constructor
    · intro z
      by_cases w : gv d i = -1
      · exact w
      · exact absurd z (this.mpr w)
    · intro z
      by_cases w : gv c i = -1
      · exact w
      · exact absurd z (this.mp w)
  refine num_cong hl fun i j a b x y h1 h2 h3 h4 => ?_
  have e1 := gv_some h1
  have e2 := gv_some h2
  have e3 := gv_some h3
  have e4 := gv_some h4
  have gi := gone i
  have gj := gone j
  rw [e1, e2] at gi
  rw [e3, e4] at gj
  refine ⟨?_, gi⟩
  by_cases z : a = -1
  · constructor
    · intro w
      rw [gi.mp z, gj.mp (w ▸ z)]
    · intro w
      rw [z, gj.mpr (w ▸ gi.mp z)]
  · have := h i j
    unfold Al at this
    rw [e1, e2, e3, e4] at this
    constructor
    · intro w
      exact (this.mp ⟨w, z⟩).1
    · intro w
      exact (this.mpr ⟨w, fun q => z (gi.mpr q)⟩).1
theorem gv_num (ms : List Int) (i : Nat) : gv (num ms) i = numOf (told ms) (gv ms i) := by
  by_cases z : i < ms.length
  · exact gv_some (num_at (gv_in z))
  · rw [gv_out (by rw [num_len]; omega), gv_out (Nat.le_of_not_lt z)]
    rfl
theorem al_num {ms : List Int} {i j : Nat} : Al (num ms) i j ↔ Al ms i j := by
  unfold Al
  rw [gv_num, gv_num]
  have gn : ∀ x, numOf (told ms) x ≠ -1 ↔ x ≠ -1 := fun x => not_congr numOf_gone
  rw [gn]
  constructor
  · rintro ⟨h1, h2⟩
    have h3 : gv ms j ≠ -1 := (gn _).mp (h1 ▸ (gn _).mpr h2)
    exact ⟨(numOf_inj (gv_mem (gv_lt h2)) (gv_mem (gv_lt h3))).mp h1, h2⟩
  · rintro ⟨h1, h2⟩
    exact ⟨by rw [h1], h2⟩
/-! ### the same ones gone -/
theorem gv_gm {c d : List Int} (h : gmOf c = gmOf d) (i : Nat) : gv c i = -1 ↔ gv d i = -1 := by
  have hl := gm_len h
  by_cases z : i < c.length
  · have e1 : (gmOf c)[i]? = some (decide (gv c i = -1)) := by rw [gmOf, List.getElem?_map, gv_in z]; rfl
    have e2 : (gmOf d)[i]? = some (decide (gv d i = -1)) := by rw [gmOf, List.getElem?_map, gv_in (hl ▸ z)]; rfl
    rw [h, e2] at e1
    have := decide_eq_decide.mp (Option.some.inj e1)
    exact this.symm
  · rw [gv_out (Nat.le_of_not_lt z), gv_out (by omega)]
theorem al_gm {c d : List Int} (h : gmOf c = gmOf d) (i : Nat) : Al c i i ↔ Al d i i := by
  rw [al_self, al_self]
  exact not_congr (gv_gm h i)
theorem gm_of {c d : List Int} (hl : c.length = d.length) (h : ∀ i, Al c i i ↔ Al d i i) : gmOf c = gmOf d := by
  refine List.ext_getElem? fun i => ?_
  by_cases z : i < c.length
  · rw [gmOf, gmOf, List.getElem?_map, List.getElem?_map, gv_in z, gv_in (hl ▸ z)]
    have := h i
    rw [al_self, al_self] at this
    have t : gv c i = -1 ↔ gv d i = -1 := by
      constructor
      · intro w
        by_cases q : gv d i = -1
        · exact q
        · exact absurd w (this.mpr q)
      · intro w
        by_cases q : gv c i = -1
        · exact q
        · exact absurd w (this.mp q)
    show some (decide (gv c i = -1)) = some (decide (gv d i = -1))
    rw [decide_eq_decide.mpr t]
  · rw [List.getElem?_eq_none (by rw [gmOf, List.length_map]; omega), List.getElem?_eq_none (by rw [gmOf, List.length_map]; omega)]
/-! ### the meet -/
theorem gv_met {c d : List Int} (hl : c.length = d.length) (i : Nat) : gv (metM c d) i = codeM (gv c i) (gv d i) := by
  by_cases z : i < c.length
  · refine gv_some ?_
    rw [metM, List.getElem?_zipWith, gv_in z, gv_in (hl ▸ z)]
  · rw [gv_out (by rw [metM_len hl]; omega), gv_out (Nat.le_of_not_lt z)]
    rfl
theorem gv_range {c : List Int} (h : ∀ x ∈ c, -1 ≤ x ∧ x < 50) (i : Nat) : -1 ≤ gv c i ∧ gv c i < 50 := by
  by_cases z : i < c.length
  · exact h _ (gv_mem z)
  · rw [gv_out (Nat.le_of_not_lt z)]
    omega
theorem al_met {c d : List Int} (hl : c.length = d.length) (hg : gmOf c = gmOf d) (hc : ∀ x ∈ c, -1 ≤ x ∧ x < 50) (hd : ∀ x ∈ d, -1 ≤ x ∧ x < 50) {i j : Nat} : Al (metM c d) i j ↔ Al c i j ∧ Al d i j := by
  unfold Al
  rw [gv_met hl, gv_met hl]
  have gi := gv_gm hg i
  have gj := gv_gm hg j
  have c1 := gv_range hc i
  have c2 := gv_range hc j
  have d1 := gv_range hd i
  have d2 := gv_range hd j
  unfold codeM
  split <;> split <;> omega
theorem met_num {c d : List Int} (cc : num c = c) (hl : c.length = d.length) (hg : gmOf c = gmOf d) (hc : ∀ x ∈ c, -1 ≤ x ∧ x < 50) (hd : ∀ x ∈ d, -1 ≤ x ∧ x < 50) : num (metM c d) = c ↔ ∀ i j, Al c i j → Al d i j := by
  constructor
  · intro h i j a
    rw [← h, al_num, al_met hl hg hc hd] at a
    exact a.2
  · intro h
    refine can_ext (num_num _) cc (by rw [num_len, metM_len hl]) fun i j => ?_
    rw [al_num, al_met hl hg hc hd]
    exact ⟨fun z => z.1, fun z => ⟨z, h i j z⟩⟩
/-! ### the join -/
theorem mem_bound {d ms : List Int} {n m : Int} : m ∈ boundM d ms n ↔ ∃ i : Nat, d[i]? = some n ∧ ms.getD i 0 = m := by
  unfold boundM members
  rw [List.mem_map]
  constructor
  · rintro ⟨h, hh, e⟩
    obtain ⟨i, _, e2⟩ := List.mem_filterMap.mp hh
    split at e2
    · rename_i hd
      cases e2
      exact ⟨i, hd, by rw [← e]; rfl⟩
    · cases e2
  · rintro ⟨i, hd, e⟩
    refine ⟨(i : Int), List.mem_filterMap.mpr ⟨i, List.mem_range.mpr (List.getElem?_eq_some_iff.mp hd).1, by rw [if_pos hd]⟩, by rw [← e]; rfl⟩
structure JoinI (c d ms : List Int) (n : Nat) : Prop where
  len : ms.length = c.length
  gone : ∀ i, gv ms i = -1 ↔ gv c i = -1
  one : ∀ i j, Al c i j → Al ms i j
  two : ∀ i j, Al d i j → gv d i < n → Al ms i j
  least : ∀ e : List Int, (∀ i j, Al c i j → Al e i j) → (∀ i j, Al d i j → Al e i j) → ∀ i j, Al ms i j → Al e i j
theorem join_step {c d ms : List Int} {n : Nat} (hl : c.length = d.length) (hg : gmOf c = gmOf d) (I : JoinI c d ms n) : JoinI c d (stepM d ms (n : Int)) (n + 1) := by
  have hb : ∀ m, m ∈ boundM d ms (n : Int) ↔ ∃ i, gv d i = (n : Int) ∧ gv ms i = m := fun m => by
    rw [mem_bound]
    constructor
    · rintro ⟨i, h1, h2⟩
      have li := (List.getElem?_eq_some_iff.mp h1).1
      have e : ms.getD i 0 = gv ms i := by
        have := gv_in (c := ms) (i := i) (by rw [I.len]; omega)
        rw [List.getD_eq_getElem?_getD, this]
        rfl
      exact ⟨i, gv_some h1, e ▸ h2⟩
    · rintro ⟨i, h1, h2⟩
      have li : i < d.length := gv_lt (by omega)
      have e : ms.getD i 0 = gv ms i := by
        have := gv_in (c := ms) (i := i) (by rw [I.len]; omega)
        rw [List.getD_eq_getElem?_getD, this]
        rfl
      exact ⟨i, h1 ▸ gv_in li, e ▸ h2⟩
  have hm : ∀ m, m ∈ boundM d ms (n : Int) → m ≠ -1 := fun m h => by
    obtain ⟨i, h1, h2⟩ := (hb m).mp h
    intro z
    have := (gv_gm hg i).mp ((I.gone i).mp (h2.trans z))
    omega
  obtain ⟨bd, hbd⟩ : ∃ bd, boundM d ms (n : Int) = bd := ⟨_, rfl⟩
  rw [hbd] at hb hm
  let f : Int → Int := fun m => if m ∈ bd then bd.headD 0 else m
  have hd0 : ∀ m, m ∈ bd → bd.headD 0 ∈ bd := fun m h => by
    cases bd with
    | nil => cases h
    | cons x r => exact List.mem_cons_self
  have fin : ∀ m, m ∈ bd → f m = bd.headD 0 := fun m h => if_pos h
  have fout : ∀ m, m ∉ bd → f m = m := fun m h => if_neg h
  have f1 : f (-1) = -1 := fout _ fun h => hm _ h rfl
  have fg : ∀ m, f m = -1 ↔ m = -1 := fun m => by
    by_cases h : m ∈ bd
    · rw [fin m h]
      exact ⟨fun z => absurd z (hm _ (hd0 m h)), fun z => absurd z (hm m h)⟩
    · rw [fout m h]
  have gs : ∀ i, gv (stepM d ms (n : Int)) i = f (gv ms i) := fun i => by
    by_cases z : i < ms.length
    · refine gv_some ?_
      unfold stepM
      rw [hbd, List.getElem?_map, gv_in z]
      rfl
    · rw [gv_out (by unfold stepM; rw [List.length_map]; omega), gv_out (Nat.le_of_not_lt z), f1]
  have up : ∀ i j, Al ms i j → Al (stepM d ms (n : Int)) i j := fun i j h => by
    refine ⟨by rw [gs, gs, h.1], ?_⟩
    rw [gs]
    exact fun z => h.2 ((fg _).mp z)
  refine ⟨by unfold stepM; rw [List.length_map, I.len], fun i => by rw [gs, fg, I.gone], fun i j h => up i j (I.one i j h), fun i j h hn => ?_, fun e h1 h2 i j h => ?_⟩
  · by_cases z : gv d i < n
    · exact up i j (I.two i j h z)
    · have e1 : gv d i = (n : Int) := by omega
      have b1 : gv ms i ∈ bd := (hb _).mpr ⟨i, e1, rfl⟩
      have b2 : gv ms j ∈ bd := (hb _).mpr ⟨j, h.1 ▸ e1, rfl⟩
      refine ⟨by rw [gs, gs, fin _ b1, fin _ b2], ?_⟩
      rw [gs, fin _ b1]
      exact hm _ (hd0 _ b1)
  · have hi : gv ms i ≠ -1 := fun z => h.2 (by rw [gs, fg]; exact z)
    have hj : gv ms j ≠ -1 := fun z => h.2 (by rw [h.1, gs, fg]; exact z)
    have hf : f (gv ms i) = f (gv ms j) := by rw [← gs, ← gs]; exact h.1
    by_cases b1 : gv ms i ∈ bd
    · by_cases b2 : gv ms j ∈ bd
      · obtain ⟨i', p1, p2⟩ := (hb _).mp b1
        obtain ⟨j', q1, q2⟩ := (hb _).mp b2
        have a1 := I.least e h1 h2 i i' ⟨p2.symm, hi⟩
        have a2 := I.least e h1 h2 j j' ⟨q2.symm, hj⟩
        have a3 := h2 i' j' ⟨p1.trans q1.symm, by omega⟩
        exact ⟨a1.1.trans (a3.1.trans a2.1.symm), a1.2⟩
      · rw [fin _ b1, fout _ b2] at hf
        exact absurd (hf ▸ hd0 _ b1) b2
    · by_cases b2 : gv ms j ∈ bd
      · rw [fout _ b1, fin _ b2] at hf
        exact absurd (hf ▸ hd0 _ b2) b1
      · rw [fout _ b1, fout _ b2] at hf
        exact I.least e h1 h2 i j ⟨hf, hi⟩
theorem join_all {c d : List Int} (hl : c.length = d.length) (hg : gmOf c = gmOf d) (hd : ∀ x ∈ d, -1 ≤ x) : ∀ n, JoinI c d (joinM c d n) n
  | 0 => ⟨rfl, fun _ => Iff.rfl, fun _ _ h => h, fun i j h hn => by
    have h2 := h.2
    have h3 := hd _ (gv_mem h.left)
    omega, fun _ h _ i j z => h i j z⟩
  | n + 1 => join_step hl hg (join_all hl hg hd n)
/-- what the join is -/
structure IsJoin (c d J : List Int) : Prop where
  len : J.length = c.length
  gone : ∀ i, Al J i i ↔ Al c i i
  one : ∀ i j, Al c i j → Al J i j
  two : ∀ i j, Al d i j → Al J i j
  least : ∀ e : List Int, (∀ i j, Al c i j → Al e i j) → (∀ i j, Al d i j → Al e i j) → ∀ i j, Al J i j → Al e i j
theorem join_is {c d : List Int} (hl : c.length = d.length) (hg : gmOf c = gmOf d) (hd : ∀ x ∈ d, -1 ≤ x) {M : Int} (hM : ∀ y ∈ d, y ≤ M) : IsJoin c d (num (joinM c d (M + 1).toNat)) := by
  have I := join_all hl hg hd (M + 1).toNat
  refine ⟨by rw [num_len, I.len], fun i => ?_, fun i j h => al_num.mpr (I.one i j h), fun i j h => al_num.mpr (I.two i j h ?_), fun e h1 h2 i j h => I.least e h1 h2 i j (al_num.mp h)⟩
  · rw [al_num, al_self, al_self]
    exact not_congr (I.gone i)
  · have h1 := h.2
    have h2 := hd _ (gv_mem h.left)
    have h3 := hM _ (gv_mem h.left)
    omega
/-! ### deeds -/
/-- a deed on lists of so many: some are new together, some keep what another one had -/
def Does (n : Nat) (f : List Int → List Int) : Prop := ∃ (nw kp : Nat → Prop) (sg : Nat → Nat), (∀ i, nw i → ¬ kp i) ∧ ∀ c, c.length = n → (∀ x ∈ c, -1 ≤ x ∧ x < (n : Int)) → (f c).length = n ∧ ∀ i j, Al (f c) i j ↔ (nw i ∧ nw j) ∨ (kp i ∧ kp j ∧ Al c (sg i) (sg j))
theorem gv_marked (c ts : List Int) (m : Int) (i : Nat) : gv (marked c ts m) i = if i < c.length ∧ (i : Int) ∈ ts then m else gv c i := by
  by_cases z : i < c.length
  · refine gv_some ?_
    unfold marked
    rw [List.getElem?_mapIdx, gv_in z]
    show some (if (i : Int) ∈ ts then m else gv c i) = _
    by_cases h : (i : Int) ∈ ts
    · rw [if_pos h, if_pos ⟨z, h⟩]
    · rw [if_neg h, if_neg (fun q => h q.2)]
  · rw [if_neg (fun q => z q.1), gv_out (by rw [marked_len]; omega), gv_out (Nat.le_of_not_lt z)]
theorem does_copied {n t s : Nat} (ht : t < n) (hs : s < n) : Does n fun c => marked c [(t : Int)] (gv c s) := by
  refine ⟨fun _ => False, fun _ => True, fun i => if i = t then s else i, fun _ h => h.elim, fun c hl _ => ⟨by rw [marked_len, hl], fun i j => ?_⟩⟩
  have e : ∀ i, gv (marked c [(t : Int)] (gv c s)) i = gv c (if i = t then s else i) := fun i => by
    rw [gv_marked]
    by_cases h : i = t
    · subst h
      rw [if_pos ⟨by omega, by simp⟩, if_pos rfl]
    · rw [if_neg (fun q => h (by have := List.mem_singleton.mp q.2; omega)), if_neg h]
  unfold Al
  rw [e, e]
  simp
theorem does_without {n t : Nat} : Does n fun c => marked c [(t : Int)] (-1) := by
  refine ⟨fun _ => False, fun i => i ≠ t, fun i => i, fun _ h => h.elim, fun c hl _ => ⟨by rw [marked_len, hl], fun i j => ?_⟩⟩
  have e : ∀ i, gv (marked c [(t : Int)] (-1)) i = if i = t then -1 else gv c i := fun i => by
    rw [gv_marked]
    by_cases h : i = t
    · subst h
      rw [if_pos rfl]
      by_cases z : i < c.length
      · rw [if_pos ⟨z, by simp⟩]
      · rw [if_neg (fun q => z q.1), gv_out (Nat.le_of_not_lt z)]
    · rw [if_neg (fun q => h (by have := List.mem_singleton.mp q.2; omega)), if_neg h]
  unfold Al
  rw [e, e]
  by_cases h1 : i = t
  · rw [if_pos h1]
    simp [h1]
  · by_cases h2 : j = t
    · rw [if_neg h1, if_pos h2]
      simp [h1, h2]
    · rw [if_neg h1, if_neg h2]
      simp [h1, h2]
theorem does_fresh {n : Nat} {ts : List Int} (hn : 0 < n) : Does n fun c => marked c ts (c.length : Int) := by
  refine ⟨fun i => i < n ∧ (i : Int) ∈ ts, fun i => (i : Int) ∉ ts, fun i => i, fun i h h2 => h2 h.2, fun c hl hc => ⟨by rw [marked_len, hl], fun i j => ?_⟩⟩
  have r : ∀ i, gv c i ≠ (c.length : Int) := fun i z => by
    by_cases q : i < c.length
    · have := (hc _ (gv_mem q)).2
      omega
    · rw [gv_out (Nat.le_of_not_lt q)] at z
      omega
  unfold Al
  rw [gv_marked, gv_marked, hl]
  rw [hl] at r
  have o : ∀ i, ¬ i < n → gv c i = -1 := fun i h => gv_out (by omega)
  by_cases a1 : (i : Int) ∈ ts
  · by_cases a2 : (j : Int) ∈ ts
    · by_cases b1 : i < n
      · by_cases b2 : j < n
        · rw [if_pos ⟨b1, a1⟩, if_pos ⟨b2, a2⟩]
          simp [a1, a2, b1, b2]
        · rw [if_pos ⟨b1, a1⟩, if_neg (fun q => b2 q.1), o j b2]
          simp [a1, a2, b1, b2]
      · rw [if_neg (fun q => b1 q.1), o i b1]
        simp [a1, a2, b1]
    · by_cases b1 : i < n
      · rw [if_pos ⟨b1, a1⟩, if_neg (fun q => a2 q.2)]
        simp [a1, a2, b1]
        intro q
        exact absurd q.symm (r j)
      · rw [if_neg (fun q => b1 q.1), o i b1]
        simp [a1, a2, b1]
  · by_cases a2 : (j : Int) ∈ ts
    · by_cases b2 : j < n
      · rw [if_neg (fun q => a1 q.2), if_pos ⟨b2, a2⟩]
        simp [a1, a2]
        intro q
        exact absurd q (r i)
      · rw [if_neg (fun q => a1 q.2), if_neg (fun q => b2 q.1), o j b2]
        simp [a1, a2]
    · rw [if_neg (fun q => a1 q.2), if_neg (fun q => a2 q.2)]
      simp [a1, a2]
/-- the holder that stands at a place of an order -/
def at_ (os : List Int) (i : Nat) : Nat := (os.getD i 0).toNat
theorem gv_pick {c os : List Int} (hl : os.length = c.length) (ho : ∀ h ∈ os, 0 ≤ h ∧ h < (c.length : Int)) (i : Nat) : gv (pick c os) i = if i < c.length then gv c (at_ os i) else -1 := by
  by_cases z : i < c.length
  · rw [if_pos z]
    refine gv_some ?_
    obtain ⟨h, hh⟩ : ∃ h, os[i]? = some h := ⟨_, List.getElem?_eq_getElem (by omega)⟩
    have hr := ho h (List.mem_of_getElem? hh)
    have e : at_ os i = h.toNat := by unfold at_; rw [List.getD_eq_getElem?_getD, hh]; rfl
    rw [pick, List.getElem?_map, hh, e]
    show some (c.getD h.toNat 0) = _
    rw [List.getD_eq_getElem?_getD, gv_in (show h.toNat < c.length by omega)]
    rfl
  · rw [if_neg z, gv_out (by unfold pick; rw [List.length_map]; omega)]
theorem al_pick {c os : List Int} (hl : os.length = c.length) (ho : ∀ h ∈ os, 0 ≤ h ∧ h < (c.length : Int)) (i j : Nat) : Al (pick c os) i j ↔ i < c.length ∧ j < c.length ∧ Al c (at_ os i) (at_ os j) := by
  unfold Al
  rw [gv_pick hl ho, gv_pick hl ho]
  by_cases a : i < c.length
  · by_cases b : j < c.length
    · rw [if_pos a, if_pos b]
      simp [a, b]
    · rw [if_pos a, if_neg b]
      simp [b]
  · rw [if_neg a]
    simp [a]
theorem does_renamed {n : Nat} {os : List Int} (hl : os.length = n) (ho : ∀ h ∈ os, 0 ≤ h ∧ h < (n : Int)) : Does n fun c => pick c os := by
  refine ⟨fun _ => False, fun i => i < n, at_ os, fun _ h => h.elim, fun c hc _ => ⟨by unfold pick; rw [List.length_map, hl], fun i j => ?_⟩⟩
  rw [al_pick (by omega) (by rw [hc]; exact ho), hc]
  simp
/-! ### what a deed keeps -/
/-- canonical ones of so many -/
structure Can (n : Nat) (c : List Int) : Prop where
  len : c.length = n
  nu : num c = c
theorem Can.small {n : Nat} {c : List Int} (h : Can n c) : ∀ x ∈ c, -1 ≤ x ∧ x < (n : Int) := fun x hx => by
  have := num_small (h.nu.symm ▸ hx)
  rw [h.len] at this
  exact this
theorem Can.small50 {n : Nat} {c : List Int} (h : Can n c) (hn : n ≤ 8) : ∀ x ∈ c, -1 ≤ x ∧ x < 50 := fun x hx => by
  have := h.small x hx
  omega
theorem can_num {n : Nat} {c : List Int} (h : c.length = n) : Can n (num c) := ⟨by rw [num_len, h], num_num c⟩
section
variable {n : Nat} {f : List Int → List Int} {c d : List Int}
theorem Does.can (D : Does n f) (hc : Can n c) : Can n (num (f c)) := by
  obtain ⟨nw, kp, sg, dis, h⟩ := D
  exact can_num (h c hc.len hc.small).1
theorem Does.mono (D : Does n f) (hc : Can n c) (hd : Can n d) (h : ∀ i j, Al c i j → Al d i j) (i j : Nat) : Al (num (f c)) i j → Al (num (f d)) i j := by
  obtain ⟨nw, kp, sg, dis, hf⟩ := D
  rw [al_num, al_num, (hf c hc.len hc.small).2, (hf d hd.len hd.small).2]
  rintro (z | ⟨a, b, z⟩)
  · exact .inl z
  · exact .inr ⟨a, b, h _ _ z⟩
theorem Does.gm (D : Does n f) (hc : Can n c) (hd : Can n d) (hg : gmOf c = gmOf d) : gmOf (num (f c)) = gmOf (num (f d)) := by
  refine gm_of (by rw [(D.can hc).len, (D.can hd).len]) fun i => ?_
  obtain ⟨nw, kp, sg, dis, hf⟩ := D
  rw [al_num, al_num, (hf c hc.len hc.small).2, (hf d hd.len hd.small).2, al_gm hg]
theorem can_met (hc : Can n c) (hd : Can n d) : Can n (num (metM c d)) := can_num (by rw [metM_len (by rw [hc.len, hd.len]), hc.len])
theorem Does.met (D : Does n f) (hn : n ≤ 8) (hc : Can n c) (hd : Can n d) (hg : gmOf c = gmOf d) : num (metM (num (f c)) (num (f d))) = num (f (num (metM c d))) := by
  have c1 := D.can hc
  have d1 := D.can hd
  have m := can_met hc hd
  have g1 := D.gm hc hd hg
  have fm := D.can m
  refine can_ext (num_num _) (num_num _) (by rw [(can_met c1 d1).len, fm.len]) fun i j => ?_
  rw [al_num, al_met (by rw [c1.len, d1.len]) g1 (c1.small50 hn) (d1.small50 hn)]
  obtain ⟨nw, kp, sg, dis, hf⟩ := D
  rw [al_num, al_num, al_num, (hf c hc.len hc.small).2, (hf d hd.len hd.small).2, (hf _ m.len m.small).2, al_num, al_met (by rw [hc.len, hd.len]) hg (hc.small50 hn) (hd.small50 hn)]
  constructor
  · rintro ⟨a | ⟨a1, a2, a3⟩, b | ⟨b1, b2, b3⟩⟩
    · exact .inl a
    · exact absurd b1 (dis _ a.1)
    · exact absurd a1 (dis _ b.1)
    · exact .inr ⟨a1, a2, a3, b3⟩
  · rintro (a | ⟨a1, a2, a3, a4⟩)
    · exact ⟨.inl a, .inl a⟩
    · exact ⟨.inr ⟨a1, a2, a3⟩, .inr ⟨a1, a2, a4⟩⟩
end
end Jc
namespace Jc
section
variable {n : Nat} {f : List Int → List Int} {c d : List Int}
theorem IsJoin.can {J : List Int} (hc : Can n c) (h : IsJoin c d J) (hn : num J = J) : Can n J := ⟨by rw [h.len, hc.len], hn⟩
theorem IsJoin.gm {J : List Int} (h : IsJoin c d J) : gmOf c = gmOf J := gm_of h.len.symm fun i => (h.gone i).symm
/-- the join behind a deed is finer than the deed of the join -/
theorem Does.below (D : Does n f) {J N : List Int} (hc : Can n c) (hd : Can n d) (hJ : IsJoin c d J) (cJ : Can n J) (hN : IsJoin (num (f c)) (num (f d)) N) : ∀ i j, Al N i j → Al (num (f J)) i j :=
  hN.least _ (D.mono hc cJ hJ.one) (D.mono hd cJ hJ.two)
theorem Does.gmJ (D : Does n f) {J N : List Int} (hc : Can n c) (hJ : IsJoin c d J) (cJ : Can n J) (hN : IsJoin (num (f c)) (num (f d)) N) : gmOf N = gmOf (num (f J)) := by
  rw [← hN.gm, D.gm hc cJ hJ.gm]
/-! orders -/
theorem upto_at {n i : Nat} (h : i < n) : (upto n)[i]? = some (i : Int) := by
  unfold upto
  rw [List.getElem?_map, List.getElem?_range h]
  rfl
theorem upto_len (n : Nat) : (upto n).length = n := by unfold upto; rw [List.length_map, List.length_range]
theorem upto_mem {n : Nat} {k : Int} : k ∈ upto n ↔ 0 ≤ k ∧ k < n := by
  unfold upto
  rw [List.mem_map]
  constructor
  · rintro ⟨i, hi, rfl⟩
    have := List.mem_range.mp hi
    omega
  · intro h
    exact ⟨k.toNat, List.mem_range.mpr (by omega), by omega⟩
theorem upto_nd (n : Nat) : (upto n).Nodup := (upto_lt n).imp fun h => by omega
structure Ord (n : Nat) (os : List Int) : Prop where
  perm : os.Perm (upto n)
section
variable {os ts : List Int}
theorem Ord.len (h : Ord n os) : os.length = n := by rw [h.perm.length_eq, upto_len]
theorem Ord.nd (h : Ord n os) : os.Nodup := h.perm.nodup_iff.mpr (upto_nd n)
theorem Ord.range (h : Ord n os) : ∀ k ∈ os, 0 ≤ k ∧ k < (n : Int) := fun k hk => upto_mem.mp (h.perm.mem_iff.mp hk)
theorem at_get {i : Nat} {k : Int} (h : os[i]? = some k) : at_ os i = k.toNat := by
  unfold at_
  rw [List.getD_eq_getElem?_getD, h]
  rfl
theorem Ord.get (h : Ord n os) {i : Nat} (hi : i < n) : os[i]? = some (at_ os i : Int) := by
  obtain ⟨k, hk⟩ : ∃ k, os[i]? = some k := ⟨_, List.getElem?_eq_getElem (by rw [h.len]; exact hi)⟩
  have r := h.range k (List.mem_of_getElem? hk)
  rw [hk, at_get hk]
  congr 1
  omega
theorem Ord.lt (h : Ord n os) {i : Nat} (hi : i < n) : at_ os i < n := by
  have := h.range _ (List.mem_of_getElem? (h.get hi))
  omega
theorem idx_nd {os : List Int} (nd : os.Nodup) {i : Nat} {k : Int} (h : os[i]? = some k) : os.idxOf k = i := by
  obtain ⟨l1, x1⟩ := List.getElem?_eq_some_iff.mp h
  have l2 := List.idxOf_lt_length_of_mem (List.mem_of_getElem? h)
  have x2 := List.getElem_idxOf l2
  rcases Nat.lt_trichotomy (os.idxOf k) i with z | z | z
  · exact absurd (x2.trans x1.symm) (List.pairwise_iff_getElem.mp nd _ i l2 l1 z)
  · exact z
  · exact absurd (x1.trans x2.symm) (List.pairwise_iff_getElem.mp nd i _ l1 l2 z)
def backM (os : List Int) : List Int := (upto os.length).map fun k => (os.idxOf k : Int)
theorem Ord.back (h : Ord n os) : Ord n (backM os) := by
  refine ⟨?_⟩
  unfold backM
  rw [h.len]
  have e : os.map (fun k => (os.idxOf k : Int)) = upto n := by
    refine List.ext_getElem? fun i => ?_
    by_cases hi : i < n
    · rw [List.getElem?_map, h.get hi, upto_at hi]
      show some ((os.idxOf (at_ os i : Int) : Nat) : Int) = _
      rw [idx_nd h.nd (h.get hi)]
    · rw [List.getElem?_eq_none (by rw [List.length_map, h.len]; omega), List.getElem?_eq_none (by rw [upto_len]; omega)]
  exact ((h.perm.map fun k => (os.idxOf k : Int)).symm).trans (.of_eq e)
theorem Ord.at_back (h : Ord n os) {i : Nat} (hi : i < n) : at_ os (at_ (backM os) i) = i := by
  have m : (i : Int) ∈ os := h.perm.mem_iff.mpr (upto_mem.mpr ⟨by omega, by omega⟩)
  have e : at_ (backM os) i = os.idxOf (i : Int) := by
    refine (at_get (k := (os.idxOf (i : Int) : Int)) ?_).trans (by omega)
    unfold backM
    rw [List.getElem?_map, h.len, upto_at hi]
    rfl
  have l := List.idxOf_lt_length_of_mem m
  rw [e, at_get (k := (i : Int)) (by rw [List.getElem?_eq_getElem l, List.getElem_idxOf l])]
  omega
theorem Ord.back_at (h : Ord n os) {i : Nat} (hi : i < n) : at_ (backM os) (at_ os i) = i := by
  have e : at_ (backM os) (at_ os i) = os.idxOf (at_ os i : Int) := by
    refine (at_get (k := (os.idxOf (at_ os i : Int) : Int)) ?_).trans (by omega)
    unfold backM
    rw [List.getElem?_map, h.len, upto_at (h.lt hi)]
    rfl
  rw [e, idx_nd h.nd (h.get hi)]
theorem Ord.comp (h : Ord n os) (g : Ord n ts) : Ord n (pick os ts) := by
  refine ⟨?_⟩
  have e : (upto n).map (fun k => os.getD k.toNat 0) = os := by
    refine List.ext_getElem? fun i => ?_
    by_cases hi : i < n
    · rw [List.getElem?_map, upto_at hi, h.get hi]
      show some (os.getD ((i : Int).toNat) 0) = _
      rw [show ((i : Int)).toNat = i by omega, List.getD_eq_getElem?_getD, h.get hi]
      rfl
    · rw [List.getElem?_eq_none (by rw [List.length_map, upto_len]; omega), List.getElem?_eq_none (by rw [h.len]; omega)]
  exact ((g.perm.map fun k => os.getD k.toNat 0).trans (.of_eq e)).trans h.perm
theorem Ord.at_comp (h : Ord n os) (g : Ord n ts) {i : Nat} (hi : i < n) : at_ (pick os ts) i = at_ os (at_ ts i) := by
  refine (at_get (k := (at_ os (at_ ts i) : Int)) ?_).trans (by omega)
  unfold pick
  rw [List.getElem?_map, g.get hi]
  show some (os.getD ((at_ ts i : Int).toNat) 0) = _
  rw [show ((at_ ts i : Int)).toNat = at_ ts i by omega, List.getD_eq_getElem?_getD, h.get (g.lt hi)]
  rfl
theorem Ord.does (h : Ord n os) : Does n fun c => pick c os := does_renamed h.len h.range
theorem Ord.al (h : Ord n os) {c : List Int} (hc : c.length = n) (i j : Nat) : Al (pick c os) i j ↔ i < n ∧ j < n ∧ Al c (at_ os i) (at_ os j) := by
  rw [al_pick (by rw [h.len, hc]) (by rw [hc]; exact h.range), hc]
/-- an order and its way back -/
theorem Ord.there (h : Ord n os) (hc : Can n c) : num (pick (num (pick c os)) (backM os)) = c := by
  have c1 := h.does.can hc
  have c2 := h.back.does.can c1
  refine can_ext c2.nu hc.nu (by rw [c2.len, hc.len]) fun i j => ?_
  rw [al_num, h.back.al c1.len, al_num, h.al hc.len]
  constructor
  · rintro ⟨a, b, a2, b2, z⟩
    rwa [h.at_back a, h.at_back b] at z
  · intro z
    have a : i < n := hc.len ▸ z.left
    have b : j < n := hc.len ▸ z.right
    exact ⟨a, b, h.back.lt a, h.back.lt b, by rw [h.at_back a, h.at_back b]; exact z⟩
/-- two orders are one -/
theorem Ord.both (h : Ord n os) (g : Ord n ts) (hc : Can n c) : num (pick (num (pick c os)) ts) = num (pick c (pick os ts)) := by
  have c1 := h.does.can hc
  have c2 := g.does.can c1
  have c3 := (h.comp g).does.can hc
  refine can_ext c2.nu c3.nu (by rw [c2.len, c3.len]) fun i j => ?_
  rw [al_num, g.al c1.len, al_num, h.al hc.len, al_num, (h.comp g).al hc.len]
  constructor
  · rintro ⟨a, b, _, _, z⟩
    exact ⟨a, b, by rw [h.at_comp g a, h.at_comp g b]; exact z⟩
  · rintro ⟨a, b, z⟩
    rw [h.at_comp g a, h.at_comp g b] at z
    exact ⟨a, b, g.lt a, g.lt b, z⟩
/-- the join behind another order is that of the join -/
theorem Ord.join (h : Ord n os) {J N : List Int} (hc : Can n c) (hd : Can n d) (hJ : IsJoin c d J) (cJ : Can n J) (hN : IsJoin (num (pick c os)) (num (pick d os)) N) (cN : Can n N) : num (pick J os) = N := by
  have c1 := h.does.can cJ
  have e1 := h.back.does.can cN
  refine can_ext c1.nu cN.nu (by rw [c1.len, cN.len]) fun i j => ⟨fun z => ?_, fun z => h.does.below hc hd hJ cJ hN i j z⟩
  rw [al_num, h.al cJ.len] at z
  obtain ⟨a, b, z⟩ := z
  have up : ∀ x y : Nat, x < n → y < n → Al N (at_ (backM os) x) (at_ (backM os) y) → Al (num (pick N (backM os))) x y := fun x y hx hy q => by
    rw [al_num, h.back.al cN.len]
    exact ⟨hx, hy, q⟩
  have w := hJ.least (num (pick N (backM os))) (fun x y q => ?_) (fun x y q => ?_) _ _ z
  · rw [al_num, h.back.al cN.len, h.back_at a, h.back_at b] at w
    exact w.2.2
  · have hx : x < n := hc.len ▸ q.left
    have hy : y < n := hc.len ▸ q.right
    refine up x y hx hy (hN.one _ _ ?_)
    rw [al_num, h.al hc.len, h.at_back hx, h.at_back hy]
    exact ⟨h.back.lt hx, h.back.lt hy, q⟩
  · have hx : x < n := hd.len ▸ q.left
    have hy : y < n := hd.len ▸ q.right
    refine up x y hx hy (hN.two _ _ ?_)
    rw [al_num, h.al hd.len, h.at_back hx, h.at_back hy]
    exact ⟨h.back.lt hx, h.back.lt hy, q⟩
end
end
end Jc
namespace Jc
open PySem PySem.Spec L2
open PyProof.Rows hiding St
/-! ### {t!r}, t a tuple of small ints, while other texts are made -/
def shInts (c : List Int) : Str := tupleText (c.map fun i => toString i)
theorem repr_ints {P : Program} {w : World} {h : Heap} : ∀ (its : List Value) (c : List Int), Vals (c.map V.int) its → (∀ i ∈ c, i.natAbs.log2 < 1920) → ReprAllK P w [] h 0 its (c.map fun i => toString i)
  | _, [], r, _ => by cases r; exact .nil
  | _, i :: c, r, hi => by
    cases r with
    | cons a b =>
      obtain ⟨t, rfl⟩ := a
      exact .cons (fun base hb A g E s Q _ _ _ _ hQ => ReprIs.int t (hi i List.mem_cons_self) base hb A E s Q fun tk => hQ s.heap tk fun _ _ e => e) (repr_ints _ c b fun j hj => hi j (List.mem_cons_of_mem _ hj))
def tFmtRI (K : PySem.W.Frag) (g : List Code) (te : TE) : TE := fun σ H Q => te σ H fun x H1 => ∃ (a : Addr) (c : List Int), x = .ref a ∧ SqT K H1 a (c.map V.int) ∧ Clear g a ∧ (∀ i ∈ c, i.natAbs.log2 < 1920) ∧ (shInts c).length ≤ sizeLine ∧ Q (.str (shInts c)) H1
theorem pe_fmtRI {X : Cx} {k : Nat} {g : List Code} {e : Expr} {te : TE} {pos : Pos} (hr : Room k X.A) (hg : X.A.guards = some g) (he : PE X e te) : PE X (.FormattedValue e 114 none pos) (tFmtRI X.K g te) := by
  refine ⟨fun pins s σ H Q I h => ?_⟩
  refine wpAny_FormattedValue_repr (thn (he.run pins s σ H _ I h) fun v s1 hv => ?_)
  obtain ⟨x, H1, I1, r1, a, c, rfl, ht, hcl, hi, hz, q⟩ := hv
  cases r1
  obtain ⟨its, rv, ⟨o, ho, hcls, n, hd⟩, _⟩ := I1.tuple ht
  have hT : ReprAllK X.prog X.w [] s1.heap 0 its (c.map fun i => toString i) := repr_ints its c rv hi
  have hu := hr.units
  refine wpAny_pyReprObj_tupleK (g := g) (as := []) (h₀ := s1.heap) (d := 0) ho hcls hd (by simp) (by simpa using hT) hg (fun b hb => by rw [List.mem_singleton.mp hb]; exact hcl) (by omega) (fun _ _ e => e) (fun h' u tk hk => ?_) hz
  have I2 := I1.kept (h' := h') (t' := tk) hk
  exact wpAny_formatField_str ⟨.str (shInts c), H1, I2.tok _, ⟨_, rfl⟩, q⟩ ⟨.str (shInts c), H1, I2.tok _, ⟨_, rfl⟩, q⟩ hz
end Jc
namespace Jc
open PySem PySem.Spec L2
open PyProof.Rows hiding St
/-! ### repr of a list whose items have an own __repr__ -/
section
variable {P : Program} {w : World} {A : Around} {E : Value → Shared → Prop} {s : Shared} {K : PySem.W.Frag} {x C f : Addr} {ox : Obj} {od : Option Obj}
theorem by_own {M : Model} {last : Value → List Value → Sem Value} {name : Str} {Q : Option Value → Shared → Prop} (KX : K.In s.heap) (J : PySem.W.InstAt s.heap x ox C od) (hs : PySem.W.findIn K (.ref C) name = some (some (.ref f))) (hf : PySem.W.isFn K (.ref f) = true)
    (hl : last (.ref f) [.ref x] = call (.ref f) [.ref x]) (h : wpAny M A (call (.ref f) [.ref x]) (fun v => Q (some v)) E s) : wpAny M A (callSpecialIfBoundBy? last (.ref x) name) Q E s := by
  simp only [callSpecialIfBoundBy?, bindSpecialIfBound?]
  refine wpAny_holding (wpAny_bind (wpAny_bind (wpAny_bind (J.type.here ((PySem.W.looks_findIn KX hs).here ?_)))))
  refine wpAny_bind (wpAny_askSetting (wpAny_ite ?_))
  have fin : wpAny M A (last (.ref f) [.ref x] >>= fun v => pure (some v)) Q E s := by
    rw [hl]
    exact wpAny_bind (wpAny_mono h (fun v t z => wpAny_pure z) fun _ _ z => z)
  split
  · exact wpAny_bind ((PySem.W.bind_fn KX _ (beq_iff_eq.mp hf)).here (wpAny_pure (by exact fin)))
  · exact wpAny_tryCatch (wpAny_bind ((PySem.W.bind_fn KX _ (beq_iff_eq.mp hf)).here (wpAny_pure (by exact fin))))
theorem under_own {b : Nat} {Q : Str → Shared → Prop} (hb : b ≤ sizeLine) (hu : A.units < cLine) (KX : K.In s.heap) (J : PySem.W.InstAt s.heap x ox C od) (hs : PySem.W.findIn K (.ref C) "__repr__" = some (some (.ref f))) (hf : PySem.W.isFn K (.ref f) = true)
    (h : wpAny (model P w) A (call (.ref f) [.ref x]) (fun v t => ∃ y u, v = .str y u ∧ Q y t) E s) : wpAny (model P w) A (pyReprUnder b (.ref x)) Q E s := by
  refine wpAny_pyReprUnder_ref hb ?_
  unfold pyReprObjUnder pyReprObjBy
  refine wpAny_bind (wpAny_cRoomFor hu ?_)
  refine wpAny_bind (wpAny_bind (J.type.here ((PySem.W.looks_findIn KX hs).here ?_)))
  show wpAny _ _ (if (some (Value.ref f)).isNone = true then _ else _) _ _ _
  rw [if_neg (by simp)]
  refine wpAny_bind (m := callSpecialIfBoundBy? _ (.ref x) _) (by_own KX J hs hf rfl (wpAny_mono h (fun v t z => ?_) fun _ _ z => z))
  obtain ⟨y, u, rfl, q⟩ := z
  refine wpAny_bind (wpAny_isInstance (typeIs_str _ _ _) isSubtype_str_str ?_)
  first
    | exact wpAny_pure ⟨y, u, rfl, q⟩
    | (rw [if_pos rfl]; exact wpAny_pure ⟨y, u, rfl, q⟩)
end
end Jc
namespace Jc
open PySem PySem.Spec L2
open PyProof.Rows hiding St
/-! ### a def that is called while some texts are made -/
structure FnQ (P : Program) (w : World) (K : PySem.W.Frag) (mg : Str → Option Value) (base : Heap) (k : Nat) (f : Addr) (fd : FuncData) (ps : List Str) (Ok : Around → Hp → Prop) (sp : Sp) : Prop where
  lenQ : ∀ vs H Q E, sp vs H Q E → vs.length = ps.length
  runQ : ∀ (A : Around) (outer : List Env) (s : Shared) (H : Hp) (args : Args) (us : List Value) (vs : List V) (Q : VK), Room k A → Ok A H →
    Env0 P w K mg base A outer s H → BindsTo s fd args (ps.zip us) → Vals vs us → sp vs H Q E0 → codeAny (model P w) A (.call (.ref f) args) (CR CX0 outer P w H s Q E0) s
theorem fnQ_of {P : Program} {w : World} {K : PySem.W.Frag} {mg : Str → Option Value} {base : Heap} {x qual : Str} {st : Stmt} {f : Addr} {fd : FuncData} {N ps : List Str} {k : Nat} {sp : Sp} {Ok : Around → Hp → Prop} (F : Fun K x qual st f fd) (S : FnScope N ps (defScope st)) (len : ∀ vs H Q E, sp vs H Q E → vs.length = ps.length)
    (hkind : ∀ us : List Value, us.length = ps.length → ((ps.zip us).all fun y => (defScope st).names.lookup y.1 == some .local || (defScope st).names.lookup y.1 == some .cell) = true)
    (body : ∀ (cdv : Value) (A : Around) (outer : List Env) (s : Shared) (H : Hp) (vs : List V) (Q : VK), Room k (A.deeper (envOfC qual (defScope st) s.heap.objs.size f cdv)) → Ok A H → sp vs H Q E0 →
      ∃ t, PSs (cxOf CX0 P w K mg base N qual (defScope st) f cdv A outer s H E0).nox (defBody st) t ∧ t { nx := fun _ H' => Q .non H', rt := Q } (start N vs) H) :
    FnQ P w K mg base (k + 1) f fd ps Ok sp := by
  obtain ⟨oc, od, kV, doc, pm, an, cdv, ct, osl, rfl, lk, hcd⟩ := F.ex
  refine ⟨len, fun A outer s H args us vs Q hr hok e0 hb r h => ?_⟩
  have hlu : us.length = ps.length := r.length.symm.trans (len _ _ _ _ h)
  obtain ⟨t, ht, q⟩ := body cdv A outer s H vs Q (hr.deeper _) hok h
  refine Att.call_fn (e0.mod.kin.keeps fun b o e => (e0.bs b o e).1) (e0.mod.nolimit.keeps fun b o e => (e0.bs b o e).1) lk hcd hr.depth hb (hkind us hlu) (fun s1 ic => ?_) S.co S.gen S.kind
  have I : Inv (cxOf CX0 P w K mg base N qual (defScope st) f cdv A outer s H E0) [] (start N vs) H s1 := inv_start S hr.hd e0 (len _ _ _ _ h) r ic
  refine wpAny_mono (ht.nox.run [] s1 (start N vs) H _ I q) (fun fl s2 z => ?_) fun _ _ z => z
  match fl, z with
  | .ret u, ⟨v, σ2, H2, J, rv, q2⟩ => exact ⟨v, H2, J.os, J.bare, J.base, J.hok, rv, q2⟩
  | .next, ⟨σ2, H2, J, q2⟩ => exact ⟨.non, H2, J.os, J.bare, J.base, J.hok, rfl, q2⟩
  | .brk, ⟨_, _, _, q2⟩ => exact q2.elim
  | .cont, ⟨_, _, _, q2⟩ => exact q2.elim
/-- no text of a tuple is under way -/
def TupFree (A : Around) (H : Hp) : Prop := ∃ g, A.guards = some g ∧ ∀ a xs, H a = some (.tup xs) → Clear g a
def txP (c : List Int) : Str := ((Str.empty ++ ("Partition(" : Str)) ++ shInts c) ++ (")" : Str)
theorem small_text : ∀ k : Fin 60, (Str.ofString (toString ((k.val : Int) - 1))).length ≤ 8 := by decide +kernel
theorem ints_text {c : List Int} (h : ∀ x ∈ c, -1 ≤ x ∧ x < 50) : (shInts c).length ≤ 10 * c.length + 3 := by
  have h1 := tupleText_len_le (c.map fun i => (toString i : Str))
  have h2 : ((c.map fun i => (toString i : Str)).map (·.length)).sum ≤ 8 * c.length := by
    clear h1
    induction c with
    | nil => simp
    | cons x r ih =>
      have i1 := ih fun y hy => h y (List.mem_cons_of_mem _ hy)
      obtain ⟨a, b⟩ := h x List.mem_cons_self
      have i2 := small_text ⟨(x + 1).toNat, by omega⟩
      rw [show (((⟨(x + 1).toNat, by omega⟩ : Fin 60).val : Nat) : Int) - 1 = x by show (((x + 1).toNat : Nat) : Int) - 1 = x; omega] at i2
      simp only [List.map_cons, List.sum_cons, List.length_cons]
      have i3 : (toString x : Str).length ≤ 8 := i2
      omega
  rw [List.length_map] at h1
  unfold shInts
  omega
theorem tx_len {c : List Int} (h : ∀ x ∈ c, -1 ≤ x ∧ x < 50) (hl : c.length ≤ 8) : (txP c).length ≤ 100 ∧ ((Str.empty ++ ("Partition(" : Str)) ++ shInts c).length ≤ 100 ∧ (Str.empty ++ ("Partition(" : Str)).length ≤ 100 := by
  have := ints_text h
  unfold txP
  simp only [strLen_append]
  have e1 : (Str.empty).length = 0 := rfl
  have e2 : ("Partition(" : Str).length = 10 := by decide +kernel
  have e3 : (")" : Str).length = 1 := by decide +kernel
  omega
theorem log_small {i : Int} (h : -1 ≤ i ∧ i < 50) : i.natAbs.log2 < 1920 := by
  have h1 : i.natAbs < 2 ^ 6 := by omega
  have h2 : i.natAbs.log2 < 6 := by
    by_cases h0 : i.natAbs = 0
    · rw [h0]; decide
    · exact (Nat.log2_lt h0).mpr h1
  omega
def spRepr (C : Addr) : Sp := fun vs H Q _ => ∃ (p : Addr) (c : List Int), vs = [.ref p] ∧ PartAt C H p c ∧ Q (.str (txP c)) H
section
variable {P : Program} {w : World} {K : PySem.W.Frag} {mg : Str → Option Value} {base : Heap} {f C : Addr} {fd : FuncData} {t1 : Tok}
abbrev s_repr : Stmt := inClass (topS 13) 9
abbrev N_repr : List Str := ["self"]
theorem sc_repr : FnScope N_repr ["self"] (defScope s_repr) := ⟨rfl, rfl, rfl, by decide +kernel, rfl, by decide +kernel, by decide +kernel⟩
theorem ok_repr (F : Fun K "__repr__" "Partition.__repr__" s_repr f fd) (T : PCf K mg C) : FnQ P w K mg base 1 f fd ["self"] TupFree (spRepr C) := by
  refine fnQ_of F sc_repr (fun vs H Q E h => ?_) (fun us hl => ?_) (fun cdv A outer s H vs Q hr hq h => ?_)
  · obtain ⟨p, c, rfl, _⟩ := h
    rfl
  · match us, hl with
    | [_], _ => rfl
  · obtain ⟨p, c, rfl, hp, q⟩ := h
    obtain ⟨g, hg, cl⟩ := hq
    have sm := hp.small
    obtain ⟨t1, t2, t3⟩ := tx_len sm hp.hi
    have t0 := ints_text sm
    have t4 := hp.hi
    obtain ⟨⟨dx, t, a1, a2⟩, lo, hi, nu⟩ := hp
    refine ⟨_, (pss_one (ps_ret (pe_joined (.cons pe_str (.cons (pe_fmtRI (g := g) hr hg (pe_fld (pv 0) rfl)) (.cons pe_str .nil)))))), ?_⟩
    refine ⟨_, rfl, le_line (by omega), ?_⟩
    refine ⟨.ref p, rfl, p, C, dx, _, .ref t, rfl, a1, T.cl, T.na, rfl, t, c, rfl, .inl (.inl a2), cl t _ a2, fun i hi => log_small (sm i hi), le_line (by omega), _, rfl, le_line (by omega), ?_⟩
    exact ⟨_, rfl, le_line (by show (txP c).length ≤ _; omega), q⟩
end
end Jc
namespace Jc
open PySem PySem.Spec L2
open PyProof.Rows hiding St
/-! ### repr of a list of partitions -/
theorem vals_strs : ∀ {ts : List Str} {its : List Value}, Vals (ts.map V.str) its → ∃ done : List (Str × Tok), its = strValues done ∧ done.map (·.1) = ts
  | [], _, r => by cases r; exact ⟨[], rfl, rfl⟩
  | z :: ts, _, r => by
    cases r with
    | cons a b =>
      obtain ⟨t, rfl⟩ := a
      obtain ⟨d, rfl, e⟩ := vals_strs b
      exact ⟨(z, t) :: d, rfl, by simp [e]⟩
theorem vals_refs : ∀ {ps : List Addr} {its : List Value}, Vals (ps.map V.ref) its → its = ps.map Value.ref
  | [], _, r => by cases r; rfl
  | z :: ts, _, r => by
    cases r with
    | cons a b =>
      cases a
      rw [vals_refs b]
      rfl
theorem depth_loop (A : Around) (args : Args) : (A.under (.builtin "list.__repr__.loop" args)).depth ≤ A.depth + 1 := by
  simp [Around.under, Code.weight, Code.isCreation, Code.isGuard, Code.isCaller, Code.frames, Code.isFrame, guardIds]
theorem frames_loop {A : Around} {o : List Env} (args : Args) (h : A.frames = some o) : (A.under (.builtin "list.__repr__.loop" args)).frames = some o := by
  first | exact h | (simpa [Around.under, Code.envs, Code.isFrame, pushEnvs] using h)
theorem list_text_len : ∀ ts : List Str, (listText ts).length ≤ piled ts + 2
  | [] => by decide +kernel
  | t :: r => by
    have h := textFrom_length_pos r 1 (("[" : Str) ++ (if (0 : Nat) > 0 then ", " else "" : String) ++ t) (Nat.succ_pos 0)
    have e : ((("[" : Str) ++ (if (0 : Nat) > 0 then ", " else "" : String) ++ t)).length = 1 + t.length := by
      rw [strLen_append, strLen_append]; rfl
    have hX : (listText (t :: r)).length = (textFrom 0 "[" (t :: r)).length + 1 := by
      show (textFrom 0 "[" (t :: r) ++ "]").length = _
      rw [strLen_append]; rfl
    have hY : (textFrom 0 "[" (t :: r)).length = (textFrom 1 (("[" : Str) ++ (if (0 : Nat) > 0 then ", " else "" : String) ++ t) r).length := rfl
    rw [hX, hY, h, e, piled_cons]; omega
theorem room_loop {k : Nat} {A : Around} (r : Room (k + 1) A) (args : Args) : Room k (A.under (.builtin "list.__repr__.loop" args)) :=
  ⟨r.hd, by have := r.dp; have := depth_loop A args; omega, by rw [units_under_list_loop]; have := r.un; omega⟩
theorem pile_le : ∀ l : List Str, (∀ t ∈ l, t.length ≤ 100) → piled l ≤ 102 * l.length
  | [], _ => Nat.le_refl _
  | x :: r, h => by
    have i1 := pile_le r fun t ht => h t (List.mem_cons_of_mem _ ht)
    have i2 := h x List.mem_cons_self
    rw [piled_cons, List.length_cons]
    omega
theorem loop_own {X : Cx} {C f a Pa : Addr} {fd : FuncData} (G : FnQ X.prog X.w X.K X.mg X.base 1 f fd ["self"] TupFree (spRepr C)) (hs : PySem.W.findIn X.K (.ref C) "__repr__" = some (some (.ref f))) (hf : PySem.W.isFn X.K (.ref f) = true)
    (hb : ∀ (s : Shared) (u : Value), BindsTo s fd ⟨[u], []⟩ ((["self"] : List Str).zip [u])) {A : Around} (hg : A.guards = some []) (hr : Room 2 A) {pins : List (Addr × Obj)} {σ : St} {H0 : Hp} {ps : List (Addr × List Int)}
    (ha : H0 a = some (.lst ((ps.map (·.1)).map V.ref))) (hp : ∀ p ∈ ps, PartAt C H0 p.1 p.2) (n0 : H0 Pa = none) (hfr : A.frames = some X.stack) (hl : ps.length ≤ 8) {R : Result → Shared → Prop}
    (hR : ∀ H2 s2 u, Inv X pins σ H2 s2 → Same H0 H2 → R (.ok (.ret (.str (listText (ps.map fun p => txP p.2)) u))) s2) :
    ∀ (k i : Nat) (s : Shared) (H : Hp), ps.length - i = k → i ≤ ps.length → Inv X pins σ H s → Same H0 H → H Pa = some (.lst (((ps.map fun p => txP p.2).take i).map V.str)) →
    codeAny (model X.prog X.w) A (.builtin "list.__repr__.loop" ⟨[.ref a, rawInt i, .ref Pa, rawInt ((piled ((ps.map fun p => txP p.2).take i) : Nat) : Int)], []⟩) R s := by
  have hne : a ≠ Pa := fun e => by rw [e, n0] at ha; cases ha
  have hbig : ∀ t ∈ (ps.map fun p => txP p.2), t.length ≤ 100 := fun t ht => by
    obtain ⟨p, h1, rfl⟩ := List.mem_map.mp ht
    have P := hp p h1
    exact (tx_len P.small P.hi).1
  have hlen : (ps.map fun p => txP p.2).length = ps.length := List.length_map ..
  generalize htx : (ps.map fun p => txP p.2) = txs at hbig hR hlen ⊢
  have hpl := pile_le _ hbig
  have hlt0 := list_text_len txs
  have hln : (2000 : Nat) ≤ sizeLine := le_line (by omega)
  intro k
  induction k with
  | zero =>
    intro i s H hk hi I sm hPa
    have hin : i = ps.length := by omega
    obtain ⟨its, n, rv, ea, _⟩ := I.lst (sm _ _ ha)
    obtain ⟨itp, np, rvp, ep, _⟩ := I.lst hPa
    have hits := vals_refs rv
    obtain ⟨done, hd1, hd2⟩ := vals_strs rvp
    refine codeAny_builtin F.entry_list_repr_loop ?_
    show wpAny _ _ (Builtin.«list.__repr__.loop» ⟨[.ref a, .int i 0, .ref Pa, .int ((piled (txs.take i) : Nat) : Int) 0], []⟩) _ _ s
    rw [repr_loop_tree]
    refine wpAny_bind (wpAny_listItems ea rfl ?_)
    have hnone : its.toArray[(i : Int).toNat]? = none := by simp [hin, hits]
    simp only [hnone]
    unfold reprEnd
    refine wpAny_bind (wpAny_listItems ep rfl ?_)
    have e0 : itp.toArray.toList = strValues done := by rw [hd1]
    rw [e0, repr_fold]
    refine wpAny_bind (wpAny_pure ?_)
    have hall : done.map (·.1) = txs := by rw [hd2, hin, ← hlen, List.take_length]
    rw [hall]
    refine wpAny_bind (wpAny_mkStr (wpAny_pure ?_) (show (listText txs).length ≤ sizeLine by omega))
    exact hR H _ _ (I.tok _) sm
  | succ k ih =>
    intro i s H hk hi I sm hPa
    have hlt : i < ps.length := by omega
    obtain ⟨its, n, rv, ea, _⟩ := I.lst (sm _ _ ha)
    have hits := vals_refs rv
    have ht : txs[i]? = some (txP ps[i].2) := by rw [← htx]; simp [hlt]
    have hp1 := piled_take_succ ht
    have hp2 := piled_take_le txs (i + 1)
    have hb1 := hbig _ (List.mem_of_getElem? ht)
    have PI := hp _ (List.getElem_mem hlt)
    refine codeAny_builtin F.entry_list_repr_loop ?_
    show wpAny _ _ (Builtin.«list.__repr__.loop» ⟨[.ref a, .int i 0, .ref Pa, .int ((piled (txs.take i) : Nat) : Int) 0], []⟩) _ _ s
    rw [repr_loop_tree]
    refine wpAny_bind (wpAny_listItems ea rfl ?_)
    have hsome : its.toArray[(i : Int).toNat]? = some (.ref ps[i].1) := by simp [hits, hlt]
    simp only [hsome]
    rw [Int.toNat_natCast]
    obtain ⟨dx, t, a1, a2⟩ := (PI.same sm).ex
    obtain ⟨mA, O, _, _, _, _⟩ := ins_get I.hok a1
    obtain ⟨od, J, _⟩ := O.look
    refine wpAny_bind (wpAny_holding (under_own (A := A.under _) (by omega) (room_loop hr _).units0 I.kIn J hs hf (wpAny_call (codeAny_mono (G.runQ (A.under _) X.stack s H ⟨[.ref ps[i].1], []⟩ [.ref ps[i].1] [.ref ps[i].1] (fun v H' => v = .str (txP ps[i].2) ∧ H' = H) (room_loop hr _) ?_ ⟨frames_loop _ hfr, I.env0.mod, I.env0.bs, I.env0.bsz, I.env0.funs, I.env0.frf, I.env0.hok, I.env0.bare⟩ (hb s _) (.cons rfl .nil) ⟨_, _, rfl, PI.same sm, rfl, rfl⟩) fun rs s2 z => ?_))))
    · refine ⟨[.builtin "list.__repr__.loop" _], guards_under_guard (isGuard_list_loop _) hg, fun b xs hb => (Clear.nil b).cons fun e => ?_⟩
      rw [← e, sm _ _ ha] at hb
      cases hb
    match rs, z with
    | .ok .next, z => exact z.elim
    | .ok .brk, z => exact z.elim
    | .ok .cont, z => exact z.elim
    | .error _, z => exact z.elim
    | .ok (.ret u), z =>
      obtain ⟨v2, H2, I2, rv2, e2, e3⟩ := I.after (Q := fun v H' => v = .str (txP ps[i].2) ∧ H' = H) z
      subst e2 e3
      obtain ⟨t2, rfl⟩ := rv2
      refine ⟨_, _, rfl, ?_⟩
      refine wpAny_bind (wpAny_mkStr ?_ (le_line (by omega)))
      refine wpAny_bind ?_
      show wpAny _ _ (updateSeq Pa _) _ _ _
      obtain ⟨itp, np, rvp, ep, _⟩ := I2.lst hPa
      have hsz : itp.toArray.size ≤ sizeLine := by
        have l1 := rvp.length
        rw [List.length_map, List.length_take] at l1
        rw [List.size_toArray]
        omega
      refine wpAny_updateSeq ep rfl (wpAny_pure ⟨F.quiet_list_repr_loop _, ?_⟩) hsz
      have e1 : ((i : Int) + 1) = ((i + 1 : Nat) : Int) := by omega
      have e2 : piled (txs.take i) + ((txP ps[i].2).length + 2) = piled (txs.take (i + 1)) := by omega
      rw [e1, e2]
      have e3 : (txs.take (i + 1)).map V.str = (txs.take i).map V.str ++ [V.str (txP ps[i].2)] := by
        rw [List.take_add_one, ht]; simp
      refine ih (i + 1) _ (upd H2 Pa (.lst ((txs.take (i + 1)).map V.str))) (by omega) hlt (I2.lset (its' := itp ++ [.str (txP ps[i].2) _]) hPa ep (List.push_toArray ..) (by rw [e3]; exact Vals.append rvp (.cons ⟨_, rfl⟩ .nil)) (by rw [List.length_map, List.length_take]; omega)) ?_ upd_same
      intro b o hbo
      by_cases hb : b = Pa
      · rw [hb, n0] at hbo; cases hbo
      · exact (upd_ne hb).trans (sm _ _ hbo)
end Jc
namespace Jc
open PySem PySem.Spec L2
open PyProof.Rows hiding St
def rReprO (C : Addr) : List V → Hp → VK → Prop := fun xs H Q => ∃ (a : Addr) (p : Addr × List Int) (ps : List (Addr × List Int)), xs = [.ref a] ∧ H a = some (.lst (((p :: ps).map (·.1)).map V.ref)) ∧ (∀ q ∈ p :: ps, PartAt C H q.1 q.2) ∧ (p :: ps).length ≤ 8 ∧
  ∀ H2, Same H H2 → Q (.str (listText ((p :: ps).map fun q => txP q.2))) H2
theorem call_reprO {X : Cx} {C f : Addr} {fd : FuncData} (G : FnQ X.prog X.w X.K X.mg X.base 1 f fd ["self"] TupFree (spRepr C)) (hs : PySem.W.findIn X.K (.ref C) "__repr__" = some (some (.ref f))) (hf : PySem.W.isFn X.K (.ref f) = true)
    (hb : ∀ (s : Shared) (u : Value), BindsTo s fd ⟨[u], []⟩ ((["self"] : List Str).zip [u])) (hg : X.A.guards = some []) (hr : Room 4 X.A) : CallR X (.builtin "repr") (rReprO C) := by
  intro pins s σ H xs us Q I r h
  obtain ⟨a, p, ps, rfl, ha, hp, hl, q⟩ := h
  rw [Vals.ref1 r]
  obtain ⟨its, n, rv, ea, _⟩ := I.lst ha
  have hits := vals_refs rv
  have hTy : s.TypeIs (.ref a) "list" := ⟨_, ea, rfl⟩
  have hun := hr.units
  have hd : ({ cls := .type "list", data := .seq its.toArray n } : Obj).data = .seq (Value.ref p.1 :: (ps.map (·.1)).map Value.ref).toArray n := by rw [hits]; rfl
  have hr1 : Room 3 X.A.in1 := Room.in1 hr
  have hr2 : Room 2 X.A.in1.in1 := Room.in1 hr1
  refine call_repr_slot (by omega) hTy F.slot_list_repr.toG (wpAny_call (codeAny_call_builtin F.slot_list_repr.plain F.entry_list_repr (F.slot_list_repr.check _ _ _ _ _ _ _ _ hTy (F.args_list_repr_1 _) ?_)))
  refine wpAny_list_repr_head (b := 0) (g := []) (A := X.A.in1.in1) hg (fun _ _ _ hm => nomatch hm) ea hd ?_
  refine wpAny_bind (m := newList []) (wpAny_newObj_type ?_)
  refine wpAny_pure ⟨F.quiet_list_repr_loop _, ?_⟩
  have n0 : H s.heap.objs.size = none := I.fresh
  have I1 := I.lnew (ys := []) (its := []) (t' := s.toks) .nil (Nat.zero_le _)
  refine loop_own G hs hf hb (A := X.A.in1) hg (hr1.mono (by omega)) (pins := pins) (σ := σ) (H0 := H) (ps := p :: ps) (Pa := s.heap.objs.size) ha hp n0 (by exact I.env0.frames) hl (fun H2 s2 u I2 sm => ?_) _ 0 _ (upd H s.heap.objs.size (.lst [])) rfl (Nat.zero_le _) I1 (same_new n0) upd_same
  exact ⟨_, _, rfl, .str _, H2, I2, ⟨_, rfl⟩, q H2 sm⟩
end Jc
namespace Jc
open PySem PySem.Spec L2
open PyProof.Rows hiding St
theorem toldF_pre : ∀ (ms acc : List Int), ∃ r, ms.foldl toldF acc = acc ++ r
  | [], acc => ⟨[], by simp⟩
  | m :: ms, acc => by
    obtain ⟨r, h⟩ := toldF_pre ms (toldF acc m)
    show ∃ r, ms.foldl toldF (toldF acc m) = acc ++ r
    rw [h]
    unfold toldF
    split
    · exact ⟨[m] ++ r, by simp⟩
    · exact ⟨r, rfl⟩
/-- the place in what is told so far is that in the whole -/
theorem told_idx (ms : List Int) (i : Nat) {m : Int} (h : m ∈ (ms.take i).foldl toldF []) : ((ms.take i).foldl toldF []).idxOf m = (told ms).idxOf m := by
  have e : told ms = (ms.drop i).foldl toldF ((ms.take i).foldl toldF []) := by
    unfold told
    rw [← List.foldl_append, List.take_append_drop]
  obtain ⟨r, e2⟩ := toldF_pre (ms.drop i) ((ms.take i).foldl toldF [])
  rw [e, e2, List.idxOf_append, if_pos h]
/-- a mark: None for -1 -/
def mV (m : Int) : V := if m = -1 then .non else .int m
theorem mV_no : mV (-1) = .non := rfl
theorem mV_int {m : Int} (h : m ≠ -1) : mV m = .int m := if_neg h
theorem get_marks {ts : List Int} {i : Nat} {x : V} (h : (ts.map mV)[i]? = some x) : ∃ k : Int, ts[i]? = some k ∧ x = mV k := by
  rw [List.getElem?_map] at h
  cases e : ts[i]? with
  | none => rw [e] at h; cases h
  | some k => rw [e] at h; exact ⟨k, rfl, (Option.some.inj h).symm⟩
def spNumbers : Sp := fun vs H Q _ => ∃ (a : Addr) (bs : List Int), vs = [.ref a] ∧ H a = some (.lst (bs.map mV)) ∧ bs.length ≤ 1000 ∧ ∀ (q : Addr) (H2 : Hp), Same H H2 → H2 q = some (.lst ((num bs).map V.int)) → Q (.ref q) H2
section
variable {P : Program} {w : World} {K : PySem.W.Frag} {mg : Str → Option Value} {base : Heap} {f C : Addr} {fd : FuncData} {t1 : Tok}
abbrev s_pick : Stmt := topS 29
abbrev N_pick : List Str := ["_law_pot_here", "_law_some"]
theorem sc_pick : FnScope N_pick ["_law_pot_here", "_law_some"] (defScope s_pick) := ⟨rfl, rfl, rfl, by decide +kernel, rfl, by decide +kernel, by decide +kernel⟩
theorem ok_pick (F : Fun K "_law_pick" "_law_pick" s_pick f fd) (B : Blt mg) (c_draw : Own P w K mg base "_law_draw" 1 ["_law_pot_here", "_law_lot"] spDraw) : FnG P w K mg base 2 f fd ["_law_pot_here", "_law_some"] (spPick K) := by
  refine fnG_of F sc_pick (fun vs H Q E h => ?_) (fun us hl => ?_) (fun cdv A outer s H vs Q hr hq h => ?_)
  · obtain ⟨p, l, xs, rfl, _⟩ := h
    rfl
  · match us, hl with
    | [_, _], _ => rfl
  · obtain ⟨p, l, xs, rfl, hp, hl, h0, h1, q⟩ := h
    refine ⟨_, (pss_one (ps_ret (pe_ix ix_list (pv 1) (pe_own c_draw hr hq (by decide) (pa_cons (pv 0) (pa_cons (pe_callB call_len_seq rfl B.len bo_len (pa_cons (pv 1) pa_nil)) pa_nil))) (fun _ _ => rfl)))), ?_⟩
    refine ⟨.ref l, rfl, .ref p, rfl, .ref l, rfl, l, xs, rfl, .inl hl, p, _, rfl, hp, by omega, by omega, fun d H2 d0 d1 s2 => ?_⟩
    have hlt : d.toNat < xs.length := by omega
    have g : xs[d.toNat]? = some xs[d.toNat] := List.getElem?_eq_getElem hlt
    refine ⟨l, xs, d, _, rfl, rfl, s2.seq hl, at_of (j := d.toNat) (by omega) g, ?_⟩
    exact q d.toNat _ H2 g s2
end
end Jc
/-! ### all_partitions -/
namespace Jg
open PySem PySem.Spec L2 Jc
open PyProof.Rows hiding St
def Lin (m : Nat) : List (List Int) → Prop
  | [] => True
  | c :: r => c.length = m ∧ num c = c ∧ nextC c = r.head? ∧ Lin m r
/-- the rows of so many holders are as they should be -/
structure LinR (m : Nat) : Prop where
  lin : Lin m (rowsOf m)
  head : (rowsOf m).head? = some (List.replicate m 0)
def rowAt (m : Nat) : Nat → List Int → Prop := fun j c => (rowsOf m)[(rowsOf m).length - 1 - j]? = some c
def spAll (C : Addr) : SpN := fun vs H n Vy => ∃ m : Nat, vs = [.int (m : Int)] ∧ 1 ≤ m ∧ m ≤ 8 ∧ LinR m ∧ n = (rowsOf m).length ∧ Vy = VyP C (rowAt m)
/-- what a turn of the loop begins with -/
def HeadV (H : Hp) (l : Addr) : List (List Int) → V → Prop
  | [], v => v = .non
  | c :: _, v => v = .ref l ∧ H l = some (.lst (c.map V.int))
section
variable {X : Cx} {f C : Addr} {fd : FuncData}
abbrev s_allp : Stmt := topS 14
abbrev N_allp : List Str := ["many", "classes"]
theorem sc_allp : GSc N_allp ["many"] (defScope s_allp) where
  kind := rfl
  co := rfl
  gen := rfl
  nd := by decide +kernel
  pre := rfl
  par := by decide +kernel
  old := ⟨rfl, rfl, rfl, by decide +kernel, rfl, by decide +kernel, by decide +kernel⟩
  z := fun L => ⟨rfl, rfl, fun x => by
    have h : ∀ y ∈ (defScope s_allp).names, y.2 ≠ .cell ∧ y.2 ≠ .free := by decide +kernel
    exact ⟨fun e => (h _ (PySem.mem_of_lookup e)).1 rfl, fun e => (h _ (PySem.mem_of_lookup e)).2 rfl⟩⟩
abbrev allEnv (L f : Addr) (cdv : Value) : Env := envOfC "all_partitions" (defScope s_allp) L f cdv
abbrev zX (X : Cx) (f : Addr) (cdv : Value) (L : Addr) (s : Shared) : Cx := zC X N_allp "all_partitions" (defScope s_allp) f cdv L s
theorem mk_ofG {K : PySem.W.Frag} {C : Addr} {H : Hp} {R : Addr → Hp → Prop} {a : Addr} {c : List Int} (ha : H a = some (.lst (c.map V.int))) (l1 : 1 ≤ c.length) (l8 : c.length ≤ 8) (hn : num c = c) (q : ∀ p H2, Same H H2 → H p = none → PartAt C H2 p c → R p H2) :
    ∀ x dx, H x = none → H dx = none → dx ≠ x → spInit K C [.ref x, .ref a] (upd (upd H dx (.own x)) x (.ins C dx [])) (fun v H2 => v = .non ∧ R x H2) E0 := by
  intro x dx nx nd hne
  have s0 : Same H (upd (upd H dx (.own x)) x (.ins C dx [])) := same_mut (same_new nd) nx
  refine ⟨x, dx, a, c, rfl, upd_same, s0 _ _ ha, l1, l8, hn, fun t H2 h1 h2 k => ⟨rfl, q x H2 (fun b o e => k b o (ne_of_none e nx) (s0 _ _ e)) nx ⟨⟨dx, t, h1, h2⟩, l1, l8, hn⟩⟩⟩
def whT : List Stmt → Expr
  | [_, _, .While t _ _ _] => t
  | _ => default
def whB : List Stmt → List Stmt
  | [_, _, .While _ b _ _] => b
  | _ => []
abbrev wT : Expr := whT (defBody s_allp)
abbrev wB : List Stmt := whB (defBody s_allp)
theorem over_all {A : Around} {L f : Addr} {cdv : Value} {k : Result → Sem PySem.Fin} {g : Bool} {lv kp : List Value} {p : Pos} :
    A.over (.whileLoop wT wB [] (allEnv L f cdv)) [.ret k none g lv (.func (defBody s_allp) (allEnv L f cdv)) p kp] = A.deeper (allEnv L f cdv) := by
  rw [GenW.over_loop rfl rfl]
  exact GenW.over_func
/-- the loop: as many items as rows are left -/
theorem all_loop {m : Nat} {cdv : Value} {a L : Addr} {oa : Obj} (T : PCf X.K X.mg C) (M : OwnI X.prog X.w X.K X.mg X.base C 3 (spInit X.K C)) (c_next : OwnK X.prog X.w X.K X.mg X.base "_next_classes" 1 ["classes"] (spNext X.K))
    (hcalm : X.calm = true) (hr : Room 6 X.A.in1) (m1 : 1 ≤ m) (m8 : m ≤ 8) (ne : a ≠ L) (LO : LOk X L) {k : Result → Sem PySem.Fin} {lv kp : List Value} {p : Pos}
    (hend : ∀ s₀ s, FP X L 0 s₀ s → Seg (model X.prog X.w) X.A.in1 (RP X L) (YP X a L (VyP C (rowAt m))) 0 s₀ (.func (defBody s_allp) (allEnv L f cdv)) (k (.ok .next)) [] s) :
    ∀ (rs pre : List (List Int)), rowsOf m = pre ++ rs → Lin m rs → ∀ (fp : List (Addr × Obj)) (oL : Obj) (fl : List (Addr × Obj × List V)) (s₀ s : Shared) (Hg : Hp) (l : Addr) (v : V), (a, oa) ∈ fp → (L, oL) ∈ fp → Wake X fp s₀ →
      Inv (zX X f cdv L s₀) [] [some (.int (m : Int)), some v] Hg s → Same (zH X L fl s₀) Hg → (∀ q ∈ fl, s₀.heap.get? q.1 = some q.2.1) → HeadV Hg l rs v →
      Seg (model X.prog X.w) X.A.in1 (RP X L) (YP X a L (VyP C (rowAt m))) rs.length s₀ (.whileLoop wT wB [] (allEnv L f cdv)) ((model X.prog X.w).den (.whileLoop wT wB [] (allEnv L f cdv)))
        [.ret k none false lv (.func (defBody s_allp) (allEnv L f cdv)) p kp] s := by
  intro rs
  induction rs with
  | nil =>
    intro pre hpre hlin fp oL fl s₀ s Hg l v hoa hoL hw J hs hfl hv
    have hv' : v = .non := hv
    subst hv'
    refine seg_whileLoop ?_
    rw [over_all]
    refine wpAny_mono ((show PT (zX X f cdv L s₀) wT _ from pt_cmpR op_notN (pv 1) pe_non (nomark _)).run [] s _ Hg (fun b H1 => b = false ∧ H1 = Hg) J ?_) (fun b s1 hb => ?_) fun x s' hx => hx.elim
    · exact ⟨.non, rfl, rfl, _, rfl, rfl, rfl⟩
    · obtain ⟨H1, J1, rfl, rfl⟩ := hb
      rw [if_neg Bool.false_ne_true]
      refine seg_execs_nil ?_
      exact seg_leaf (.ok .next) (hend s₀ s1 (end_fp (fp := fp) LO J1 hs hfl))
  | cons c rs ih =>
    intro pre hpre hlin fp oL fl s₀ s Hg l v hoa hoL hw J hs hfl hv
    obtain ⟨rfl, hl⟩ := (show v = .ref l ∧ Hg l = some (.lst (c.map V.int)) from hv)
    obtain ⟨hclen, hcnum, hcnext, hlin'⟩ := hlin
    refine seg_whileLoop ?_
    rw [over_all]
    refine wpAny_mono ((show PT (zX X f cdv L s₀) wT _ from pt_cmpR op_notN (pv 1) pe_non (nomark _)).run [] s _ Hg (fun b H1 => b = true ∧ H1 = Hg) J ?_) (fun b s1 hb => ?_) fun x s' hx => hx.elim
    · exact ⟨.ref l, rfl, rfl, _, rfl, rfl, rfl⟩
    obtain ⟨H1, J1, rfl, rfl⟩ := hb
    rw [if_pos rfl]
    refine seg_execs_cons ?_
    refine seg_Expr_Yield rfl rfl rfl ?_
    rw [over_all]
    have hrz : Room 5 (zX X f cdv L s₀).A := hr.deeper _
    refine wpAny_mono ((show PE (zX X f cdv L s₀) _ _ from pe_oi M hrz (by decide) T.mc (pa_cons (pv 1) pa_nil)).run [] s1 _ H1 (fun u H2 => ∃ q, u = .ref q ∧ Same H1 H2 ∧ PartAt C H2 q c) J1 ?_) (fun u s2 hb => ?_) fun x s' hx => hx.elim
    · exact ⟨.ref l, rfl, mk_ofG hl (by omega) (by omega) hcnum fun q H2 s2 _ hq => ⟨q, rfl, s2, hq⟩⟩
    obtain ⟨v2, H2, J2, r2, q, rfl, s2, hq⟩ := hb
    obtain rfl : u = Value.ref q := r2
    intro kap hkap
    have hrow : rowAt m rs.length c := by
      unfold rowAt
      rw [hpre]
      have e : (pre ++ c :: rs).length - 1 - rs.length = pre.length := by
        rw [List.length_append, List.length_cons]; omega
      rw [e]
      simp
    refine yield_yp (sc_allp.z L) LO hw hoa hoL ne J2 (hs.trans s2) hfl hq hrow (s2 _ _ hl) fun oL2 ol s3 hF hlo lne lb hw3 z hz => ?_
    refine hkap z s3 ?_
    suffices main : Seg (model X.prog X.w) X.A.in1 (RP X L) (YP X a L (VyP C (rowAt m))) rs.length s3 _ _ _ s3 by
      rcases hz with rfl | rfl <;> exact main
    have J3 : Inv (zX X f cdv L s3) [] [some (.int (m : Int)), some (.ref l)] (zH X L [(l, ol, c.map V.int)] s3) s3 := wake_inv hw3 hcalm (sc_allp.z L) LO (by simp) hF rfl fun p hp => by
      rw [List.mem_singleton.mp hp]
      exact ⟨lne, lb, by simp, hlo⟩
    have hfl3 : ∀ q ∈ [(l, ol, c.map V.int)], s3.heap.get? q.1 = some q.2.1 := fun q hq => by
      rw [List.mem_singleton.mp hq]
      obtain ⟨pins, σ, H, I⟩ := hw3
      exact (I.pin (l, ol) (List.mem_append_right _ (List.mem_append_right _ (by simp)))).1
    refine seg_execs_cons (seg_wrap ?_)
    rw [over_all]
    have hr3 : Room 5 (zX X f cdv L s3).A := hr.deeper _
    refine wpAny_mono ((show PS (zX X f cdv L s3) _ _ from ps_set (i := 1) sc_allp.nd rfl (.inl rfl) (pe_ownk c_next hr3 (by decide) (pa_cons (pv 1) pa_nil))).run [] s3 _ _ { nx := fun σ H => ∃ l' v', σ = [some (.int (m : Int)), some v'] ∧ Same (zH X L [(l, ol, c.map V.int)] s3) H ∧ HeadV H l' rs v', rt := fun _ _ => False } J3 ?_) (fun fl4 s4 h4 => ?_) fun x s' hx => hx.elim
    · refine ⟨.ref l, rfl, l, c, rfl, ?_, by omega, by omega, fun H4 s4 => ?_⟩
      · exact .inl (.inr ⟨ol, by unfold zH; simp⟩)
      · rw [hcnext]
        cases rs with
        | nil => exact ⟨l, .non, rfl, s4, rfl⟩
        | cons d rs' => exact fun p np hp => ⟨p, .ref p, rfl, s4, rfl, hp⟩
    cases fl4 with
    | brk => obtain ⟨_, _, _, z⟩ := h4; exact z.elim
    | cont => obtain ⟨_, _, _, z⟩ := h4; exact z.elim
    | ret u => obtain ⟨_, _, _, _, _, z⟩ := h4; exact z.elim
    | next =>
      obtain ⟨σ4, H4, J4, l', v', rfl, s4', hv4⟩ := h4
      refine seg_execs_nil ?_
      refine seg_again rfl ?_
      exact ih (pre ++ [c]) (by rw [hpre]; simp) hlin' _ oL2 _ s3 s4 H4 l' v' (by simp) (by simp) hw3 J4 s4' hfl3 hv4
theorem all_seg {m : Nat} (T : PCf X.K X.mg C) (M : OwnI X.prog X.w X.K X.mg X.base C 3 (spInit X.K C)) (c_many : OwnK X.prog X.w X.K X.mg X.base "_check_many" 2 ["many"] spMany) (c_next : OwnK X.prog X.w X.K X.mg X.base "_next_classes" 1 ["classes"] (spNext X.K))
    (hcalm : X.calm = true) (hr : Room 6 X.A.in1) (m1 : 1 ≤ m) (m8 : m ≤ 8) (hlin : LinR m) (cdv : Value) (a : Addr) (oa : Obj) (L : Addr) (oL : Obj) (fp : List (Addr × Obj)) (s0 : Shared) (hoa : (a, oa) ∈ fp) (hoL : (L, oL) ∈ fp) (ne : a ≠ L) (LO : LOk X L)
    (hF : FrAt (defScope s_allp) N_allp (L2.start N_allp [.int (m : Int)]) oL) (hw : Wake X fp s0) :
    Seg (model X.prog X.w) X.A.in1 (RP X L) (YP X a L (VyP C (rowAt m))) (rowsOf m).length s0 (.func (defBody s_allp) (allEnv L f cdv)) ((model X.prog X.w).den (.func (defBody s_allp) (allEnv L f cdv))) [] s0 := by
  have J0 : Inv (zX X f cdv L s0) [] [some (.int (m : Int)), none] (zH X L [] s0) s0 := wake_inv hw hcalm (sc_allp.z L) LO hoL hF rfl fun p hp => by simp at hp
  have hrz : Room 5 (zX X f cdv L s0).A := hr.deeper _
  refine seg_func ?_
  refine seg_execs_cons (seg_wrap ?_)
  rw [GenW.over_func]
  refine wpAny_mono ((show PS (zX X f cdv L s0) _ _ from ps_expr (pe_ownk c_many hrz (by decide) (pa_cons (pv 0) pa_nil))).run [] s0 _ _ { nx := fun σ H => σ = [some (.int (m : Int)), none] ∧ H = zH X L [] s0, rt := fun _ _ => False } J0 ?_) (fun fl1 s1 h1 => ?_) fun x s' hx => hx.elim
  · exact ⟨.int _, rfl, m, rfl, m1, m8, rfl, rfl⟩
  cases fl1 with
  | brk => obtain ⟨_, _, _, z⟩ := h1; exact z.elim
  | cont => obtain ⟨_, _, _, z⟩ := h1; exact z.elim
  | ret u => obtain ⟨_, _, _, _, _, z⟩ := h1; exact z.elim
  | next =>
    obtain ⟨σ1, H1, J1, rfl, rfl⟩ := h1
    refine seg_execs_cons (seg_wrap ?_)
    rw [GenW.over_func]
    refine wpAny_mono ((show PS (zX X f cdv L s0) _ _ from ps_set (i := 1) sc_allp.nd rfl (.inl rfl) (pe_op op_rep (pe_lst (pa_cons pe_int pa_nil)) (pv 0))).run [] s1 _ _ { nx := fun σ H => ∃ l, σ = [some (.int (m : Int)), some (.ref l)] ∧ Same (zH X L [] s0) H ∧ H l = some (.lst ((List.replicate m (0 : Int)).map V.int)), rt := fun _ _ => False } J1 ?_) (fun fl2 s2 h2 => ?_) fun x s' hx => hx.elim
    · refine ⟨le_line (by show (1 : Nat) ≤ 1000000; decide), fun q nq => ?_⟩
      refine ⟨.int _, rfl, q, _, [.int 0], rfl, rfl, upd_same, by omega, by omega, le_line (by show 1 * ((m : Int)).toNat ≤ 1000000; omega), fun r nr => ?_⟩
      refine ⟨r, rfl, (same_new nq).trans (same_new nr), ?_⟩
      have hz : (List.replicate ((m : Int)).toNat [V.int 0]).flatten = (List.replicate m (0 : Int)).map V.int := by
        rw [Int.toNat_natCast]
        clear hlin hF J0 m1 m8 J1
        induction m with
        | zero => rfl
        | succ j ih => rw [List.replicate_succ, List.replicate_succ, List.flatten_cons, ih]; rfl
      rw [hz]
      exact upd_same
    cases fl2 with
    | brk => obtain ⟨_, _, _, z⟩ := h2; exact z.elim
    | cont => obtain ⟨_, _, _, z⟩ := h2; exact z.elim
    | ret u => obtain ⟨_, _, _, _, _, z⟩ := h2; exact z.elim
    | next =>
      obtain ⟨σ2, H2, J2, l, rfl, ss, hl⟩ := h2
      refine seg_execs_cons ?_
      refine seg_While fun p => ?_
      refine all_loop (f := f) (cdv := cdv) (oa := oa) T M c_next hcalm hr m1 m8 ne LO (fun s₀ s hfp => ?_) (rowsOf m) [] rfl hlin.lin fp oL [] s0 s2 H2 l (.ref l) hoa hoL hw J2 ss (fun q hq => by simp at hq) ?_
      · exact seg_end (.ok (.ret .none)) (.inl ⟨.inl rfl, hfp⟩)
      · have hh := hlin.head
        cases hrs : rowsOf m with
        | nil => rw [hrs] at hh; simp at hh
        | cons c r =>
          rw [hrs] at hh
          simp only [List.head?_cons, Option.some.injEq] at hh
          subst hh
          exact ⟨rfl, hl⟩
end
section
variable {P : Program} {w : World} {K : PySem.W.Frag} {mg : Str → Option Value} {base : Heap} {f C : Addr} {fd : FuncData}
theorem ok_all (F : Fun K "all_partitions" "all_partitions" s_allp f fd) (hm : mg "all_partitions" = some (.ref f)) (T : PCf K mg C) (M : OwnI P w K mg base C 3 (spInit K C)) (c_many : OwnK P w K mg base "_check_many" 2 ["many"] spMany) (c_next : OwnK P w K mg base "_next_classes" 1 ["classes"] (spNext K)) :
    OwnG P w K mg base "all_partitions" 7 ["many"] (spAll C) := by
  refine ⟨f, fd, hm, F.kp, fun vs H n Vy h => ?_, F.binds (fun _ _ _ _ _ _ us hl => match us, hl with | [_], _ => rfl), fun s u _ => ?_, fun X hP hw hK hmg hbase hcalm hr pins σ H s args us vs n Vy I r h hbt E => ?_⟩
  · obtain ⟨m, rfl, _⟩ := h
    rfl
  · obtain ⟨oc, od, kV, doc, pm, an, cdv, ct, osl, rfl, lk, hcd⟩ := F.ex
    exact .of_eq rfl
  · subst hP hw hK hmg hbase
    obtain ⟨m, rfl, m1, m8, hlin, rfl, rfl⟩ := h
    refine made_of F sc_allp I (I.ok.hd hcalm) hr.depth hbt r rfl fun cdv a oa L oL fp s'' hoa hoL ne LO hF hw => ?_
    exact all_seg T M c_many c_next hcalm hr.in1 m1 m8 hlin cdv a oa L oL fp s'' hoa hoL ne LO hF hw
end
end Jg
/-! ### x in a list of partitions, by their own __eq__ -/
namespace Jg
open PySem PySem.Spec L2 Jc
open PyProof.Rows hiding St
theorem map_int_inj {c d : List Int} (h : c.map V.int = d.map V.int) : c = d := by
  induction c generalizing d with
  | nil => cases d with
    | nil => rfl
    | cons _ _ => cases h
  | cons x c ih => cases d with
    | nil => cases h
    | cons y d =>
      simp only [List.map_cons, List.cons.injEq, V.int.injEq] at h
      rw [h.1, ih h.2]
theorem PartAt.inj {C : Addr} {H : Hp} {p : Addr} {c d : List Int} (h : PartAt C H p c) (h' : PartAt C H p d) : c = d := by
  obtain ⟨dx, t, a1, a2⟩ := h.ex
  obtain ⟨dy, t2, b1, b2⟩ := h'.ex
  rw [a1] at b1
  cases b1
  rw [a2] at b2
  simp only [Option.some.injEq, HO.tup.injEq] at b2
  exact map_int_inj b2
section
open AutoSeq1 MeetsSeq MeetsSeq2 MeetsSeq3 SeqRoads2
variable {X : Cx} {C f : Addr} {k : Nat} {A : Around} {pins : List (Addr × Obj)} {σ : L2.St} {H : Hp} {s : Shared} {E : Value → Shared → Prop}
theorem env_of {A : Around} (I : Inv X pins σ H s) (hfr : A.frames = some X.stack) : Env0 X.prog X.w X.K X.mg X.base A X.stack s H := ⟨hfr, I.env0.mod, I.env0.bs, I.env0.bsz, I.env0.funs, I.env0.frf, I.env0.hok, I.env0.bare⟩
theorem item_eqB (hs : PySem.W.findIn X.K (.ref C) "__eq__" = some (some (.ref f))) (hf : PySem.W.isFn X.K (.ref f) = true) (G : FnR X.prog X.w X.K X.mg X.base CX0 k f (spEqP C)) (hr : Room k A) (hfr : A.frames = some X.stack) (I : Inv X pins σ H s)
    {p q : Addr} {c d : List Int} (PI : PartAt C H p c) (QI : PartAt C H q d) {Q : Bool → Shared → Prop} (h : ∀ s2, Inv X pins σ H s2 → Q (decide (c = d)) s2) : wpAny (model X.prog X.w) A (eqBool (.ref p) (.ref q)) Q E s := by
  by_cases hpq : p = q
  · subst hpq
    have e := PartAt.inj PI QI
    subst e
    unfold eqBool
    refine wpAny_holding ?_
    rw [if_pos (by simp)]
    have q := h s I
    rw [decide_eq_true rfl] at q
    obtain ⟨hp, g, d, tk, os⟩ := s
    wp_walk
    exact q
  · obtain ⟨dx, t, a1, a2⟩ := PI.ex
    obtain ⟨dy, t2, b1, b2⟩ := QI.ex
    obtain ⟨mA, O, _, _, _, _⟩ := ins_get I.hok a1
    obtain ⟨od, J, _⟩ := O.look
    obtain ⟨mB, OB, _, _, _, _⟩ := ins_get I.hok b1
    obtain ⟨od2, J2, _⟩ := OB.look
    have hu : A.units < cLine := by have := hr.un; omega
    unfold eqBool
    refine wpAny_holding ?_
    refine wpAny_ite_split (fun hab => absurd (by have := eq_of_beq hab; injection this) hpq) (fun _ => ?_)
    refine wpAny_bind (cmp_raw (op := .Eq) hu I.kIn J J2.type hs hf (wpAny_call (codeAny_mono (G A X.stack s H [.ref p, .ref q] [.ref p, .ref q] (fun v H' => v = .bl (decide (c = d)) ∧ H' = H) E0 hr (env_of I hfr) (.cons rfl (.cons rfl .nil)) ⟨_, _, _, _, rfl, PI, QI, rfl, rfl⟩) fun rs s2 z => ?_)))
    match rs, z with
    | .ok .next, z => exact z.elim
    | .ok .brk, z => exact z.elim
    | .ok .cont, z => exact z.elim
    | .error _, z => exact z.elim
    | .ok (.ret r), z =>
      obtain ⟨v2, H2, I2, rv2, e3, e4⟩ := I.after (Q := fun v H' => v = .bl (decide (c = d)) ∧ H' = H) z
      subst e3 e4
      obtain rfl : r = Value.bool (decide (c = d)) := rv2
      exact wpAny_truthy_bool (h _ I2)
/-- a list of partitions: where they lie, their classes -/
structure PL (C : Addr) (H : Hp) (a : Addr) (L : List (Addr × List Int)) : Prop where
  lst : H a = some (.lst (L.map fun x => V.ref x.1))
  at_ : ∀ x ∈ L, PartAt C H x.1 x.2
theorem in_loopP (hs : PySem.W.findIn X.K (.ref C) "__eq__" = some (some (.ref f))) (hf : PySem.W.isFn X.K (.ref f) = true) (G : FnR X.prog X.w X.K X.mg X.base CX0 k f (spEqP C)) (hr : Room k A.in1) (hfr : A.frames = some X.stack)
    {a q : Addr} {L : List (Addr × List Int)} {d : List Int} (hL : PL C H a L) (QI : PartAt C H q d) {R : Result → Shared → Prop} (hR : ∀ s2, Inv X pins σ H s2 → R (.ok (.ret (.bool (decide (d ∈ L.map (·.2)))))) s2) :
    ∀ (j i : Nat) (s : Shared), L.length - i = j → i ≤ L.length → (∀ x ∈ L.take i, x.2 ≠ d) → Inv X pins σ H s → codeAny (model X.prog X.w) A (.builtin "list.__contains__.loop" ⟨[.ref a, .ref q, rawInt i], []⟩) R s := by
  intro j
  induction j with
  | zero =>
    intro i s hd hi hne I
    obtain ⟨its, n, rv, ea, _⟩ := I.lst hL.lst
    have l1 := rv.length
    rw [List.length_map] at l1
    refine codeAny_builtin entry_contains_loop ?_
    rw [Around.under_plainId plain_contains_loop _]
    obtain ⟨hp, g, d', tk, os⟩ := s
    wp_walk using wpAny_loadPart' ea
    have hi1 : its.toArray[((i : Nat) : Int).toNat]? = none := by simp; omega
    rw [hi1]
    wp_walk
    have e : decide (d ∈ L.map (·.2)) = false := by
      apply decide_eq_false
      intro hm
      obtain ⟨x, hx, hx2⟩ := List.mem_map.mp hm
      have : L.take i = L := List.take_of_length_le (by omega)
      rw [this] at hne
      exact hne x hx hx2
    have := hR _ I
    rw [e] at this
    exact this
  | succ j ih =>
    intro i s hd hi hne I
    have hlt : i < L.length := by omega
    obtain ⟨its, n, rv, ea, _⟩ := I.lst hL.lst
    have l1 := rv.length
    rw [List.length_map] at l1
    have m1 : L[i]? = some L[i] := List.getElem?_eq_getElem hlt
    obtain ⟨v, hv, rvi⟩ := rv.get (i := i) (x := .ref L[i].1) (by rw [List.getElem?_map, m1]; rfl)
    obtain rfl : v = Value.ref L[i].1 := rvi
    refine codeAny_builtin entry_contains_loop ?_
    rw [Around.under_plainId plain_contains_loop _]
    obtain ⟨hp, g, d', tk, os⟩ := s
    wp_walk using wpAny_loadPart' ea
    have hi1 : its.toArray[((i : Nat) : Int).toNat]? = some (.ref L[i].1) := by simpa using hv
    rw [hi1]
    refine wpAny_bind (item_eqB (A := A.in1) hs hf G hr hfr I (hL.at_ _ (List.getElem_mem hlt)) QI fun s2 I2 => ?_)
    by_cases he : L[i].2 = d
    · rw [decide_eq_true he]
      have e : decide (d ∈ L.map (·.2)) = true := decide_eq_true (List.mem_map.mpr ⟨L[i], List.getElem_mem hlt, he⟩)
      have := hR _ I2
      rw [e] at this
      obtain ⟨hp, g, d', tk, os⟩ := s2
      wp_walk
      exact this
    · rw [decide_eq_false he]
      have hc : ((i : Int) + 1) = ((i + 1 : Nat) : Int) := by push_cast; rfl
      obtain ⟨hp, g, d', tk, os⟩ := s2
      wp_walk
      rw [hc]
      refine ⟨plainId_quiet plain_contains_loop _, ih (i + 1) _ (by omega) (by omega) (fun x hx => ?_) I2⟩
      rw [List.take_add_one, m1] at hx
      rcases List.mem_append.mp hx with hx | hx
      · exact hne x hx
      · have : x = L[i] := by simpa using hx
        rw [this]; exact he
end
def rInP (C : Addr) (neg : Bool) : R2 := fun x y H Q => ∃ (q a : Addr) (L : List (Addr × List Int)) (d : List Int), x = .ref q ∧ y = .ref a ∧ PL C H a L ∧ PartAt C H q d ∧ Q (.bl (if neg then !decide (d ∈ L.map (·.2)) else decide (d ∈ L.map (·.2)))) H
open AutoSeq1 MeetsSeq MeetsSeq2 MeetsSeq3 SeqRoads2 in
theorem contP {X : Cx} {C f : Addr} {k : Nat} {pins : List (Addr × Obj)} {σ : L2.St} {H : Hp} {s : Shared} {E : Value → Shared → Prop} (hs : PySem.W.findIn X.K (.ref C) "__eq__" = some (some (.ref f))) (hf : PySem.W.isFn X.K (.ref f) = true) (G : FnR X.prog X.w X.K X.mg X.base CX0 k f (spEqP C)) (hr : Room (k + 2) X.A) (I : Inv X pins σ H s)
    {q a : Addr} {L : List (Addr × List Int)} {d : List Int} (hL : PL C H a L) (QI : PartAt C H q d) {Q : Bool → Shared → Prop} (h : ∀ s2, Inv X pins σ H s2 → Q (decide (d ∈ L.map (·.2))) s2) : wpAny (model X.prog X.w) X.A (contains (.ref a) (.ref q)) Q E s := by
  obtain ⟨its, n, rv, ea, _⟩ := I.lst hL.lst
  have ta : s.TypeIs (.ref a) "list" := ⟨_, ea, rfl⟩
  refine wpAny_contains_slot ta F.slot_list_contains (wpAny_call (codeAny_call_builtin F.slot_list_contains.plain F.entry_list_contains (F.slot_list_contains.check _ _ _ _ _ _ _ _ ta (F.args_list_contains_2 _ _) ?_)))
  have hR : Room (k + 1) X.A.in1 := Room.in1 hr
  obtain ⟨hp, g, d', tk, os⟩ := s
  wp_walk using wpAny_loadPart' ea
  refine ⟨plainId_quiet plain_contains_loop _, in_loopP hs hf G (hR.mono (by omega)) I.env0.frames hL QI (fun s2 I2 => ?_) _ 0 _ rfl (Nat.zero_le _) (fun x hx => by simp at hx) I⟩
  exact wpAny_truthy_bool (h _ I2)
theorem op_inP {X : Cx} {C f : Addr} {k : Nat} (hs : PySem.W.findIn X.K (.ref C) "__eq__" = some (some (.ref f))) (hf : PySem.W.isFn X.K (.ref f) = true) (G : FnR X.prog X.w X.K X.mg X.base CX0 k f (spEqP C)) (hr : Room (k + 2) X.A) : OpR X (compareOp .In) (rInP C false) := by
  intro pins s σ H x y v u Q I rx ry h
  obtain ⟨q, a, L, d, rfl, rfl, hL, hq, hQ⟩ := h
  obtain rfl : v = Value.ref q := rx
  obtain rfl : u = Value.ref a := ry
  show wpAny _ X.A (do return Value.bool (← contains (.ref a) (.ref q))) _ _ s
  exact wpAny_bind (contP hs hf G hr I hL hq fun s2 I2 => wpAny_pure ⟨.bl _, H, I2, rfl, hQ⟩)
theorem op_notInP {X : Cx} {C f : Addr} {k : Nat} (hs : PySem.W.findIn X.K (.ref C) "__eq__" = some (some (.ref f))) (hf : PySem.W.isFn X.K (.ref f) = true) (G : FnR X.prog X.w X.K X.mg X.base CX0 k f (spEqP C)) (hr : Room (k + 2) X.A) : OpR X (compareOp .NotIn) (rInP C true) := by
  intro pins s σ H x y v u Q I rx ry h
  obtain ⟨q, a, L, d, rfl, rfl, hL, hq, hQ⟩ := h
  obtain rfl : v = Value.ref q := rx
  obtain rfl : u = Value.ref a := ry
  show wpAny _ X.A (do return Value.bool (!(← contains (.ref a) (.ref q)))) _ _ s
  exact wpAny_bind (contP hs hf G hr I hL hq fun s2 I2 => wpAny_pure ⟨.bl _, H, I2, rfl, hQ⟩)
end Jg
/-! ### [elt for target in g(..) if ..]: a comprehension over a generator -/
namespace Jg
open PySem PySem.Spec L2 Jc
open PyProof.Rows hiding St
section
variable {X : Cx}
abbrev blkG (X : Cx) (s3 : Shared) (H3 : Hp) (scope : Scope) (ce : Env) (L : Addr) : Cx := X.blk s3 H3 scope ce [L]
/-- the block's state is one of the def's, too -/
theorem blk_back {pins fp : List (Addr × Obj)} {σ σ' : L2.St} {H3 H' : Hp} {s3 s' : Shared} {scope : Scope} {ce : Env} {L : Addr} (I : Inv X pins σ H3 s3) (ht : TurnOk X pins L) (J : Inv (blkG X s3 H3 scope ce L) fp σ' H' s') (hf : ∀ p ∈ fp, p.1 ≠ X.env.locals ∧ p.1 ∉ X.fs) :
    Inv X (pins ++ fp) σ H' s' := by
  have I7 : Inv X pins σ H' s' := I.call' (ch := [L]) J.os J.base J.hok J.bare fun b hb => by rw [List.mem_singleton.mp hb]; exact ht
  refine I7.pins_of fun p hp => ?_
  rcases List.mem_append.mp hp with z | z
  · exact I7.pin p (List.mem_append_right _ z)
  · obtain ⟨q1, q2, _, _, q5⟩ := J.pin p (List.mem_append_right _ z)
    exact ⟨q1, q2, (hf p z).1, (hf p z).2, q5⟩
theorem lc_coreG {pins : List (Addr × Obj)} {s : Shared} {σ : L2.St} {H : Hp} {Q : VK} {elt tg iter : Expr} {ifs : List Expr} {scope : Scope} {own : List (Str × Nat)} {pos pos' : Pos} {wi : TGm} {g : TG} {tt : TT} {te : TE} {use : Option (Value → Sem Unit)} {Qf : Value → Shared → Prop}
    (hc : X.calm = true) (hd : X.A.depth < recursionLimit) (hN : X.N.Nodup) (I : Inv X pins σ H s) (hi : PGm X iter wi) (ok : BlkOk X.N X.env.scope scope own)
    (hg : ∀ (s : Shared) (H : Hp) (C : Addr) (cl : List (Str × Addr)) (fp : List Addr), PG (X.blk s H scope (compEnvC scope cl C X.env) fp) tg g) (ht : ∀ (s : Shared) (H : Hp) (C : Addr) (cl : List (Str × Addr)) (fp : List Addr), PTs (X.blk s H scope (compEnvC scope cl C X.env) fp) ifs tt)
    (he : ∀ (s : Shared) (H : Hp) (C : Addr) (cl : List (Str × Addr)) (fp : List Addr), PE (X.blk s H scope (compEnvC scope cl C X.env) fp) elt te) (hs : ∀ x, foldedSetIterable iter X.env x = pure x)
    (h : tLc (iGen wi) g tt te (own.map (·.2)) σ H Q)
    (hRR : ∀ D C s' m H', Inv X pins σ H' s' → Q (.ref D) H' → s'.heap.Ns C m → FpOk X pins H' C → compPost (model X.prog X.w) X.A X.xe use Qf (.ref D) C (.ok .next) s') :
    wpAny (model X.prog X.w) X.A (comprehension (.ListComp elt [⟨tg, iter, ifs, 0⟩] scope pos) scope X.env pos' (newList []) false (eval iter X.env) use) Qf X.xe s := by
  have there : ∀ y ∈ scope.names, y.2 = .free → ∃ c, X.env.cells.lookup y.1 = some c := fun y hy e => (ok.free y hy e).elim (fun k => I.ok.has _ (.inl k)) fun k => I.ok.has _ (.inr k)
  refine wpAny_comprehension_free (use := use) rfl hs (closure_ok there) ok.kind (fun y hy e => by rw [ok.uniq y hy, e]) (thn (hi.run pins s σ H _ I h) fun xv s2 hx => ?_)
  obtain ⟨N, Vy, H2, a, g', L, fp, rfl, I2, Z2, q⟩ := hx
  refine wpAny_pyIter_gen Z2.gen ?_
  refine wpAny_newObj_type (newEnv_comp ?_) (by show 0 ≤ sizeLine; decide)
  generalize eD : s2.heap.objs.size = D
  have hDn : H2 D = none := I2.hok.fresh (Nat.le_of_eq eD)
  obtain ⟨W, ⟨m0, w0⟩, turn⟩ := q D hDn
  generalize es3 : ({ s2 with heap := s2.heap.push { cls := .type "list", data := .seq ([] : List Value).toArray } } : Shared) = s3
  have kp3 : ∀ b o, s2.heap.get? b = some o → s3.heap.get? b = some o := fun b o e => by rw [← es3]; exact Heap.get?_push_of_some _ e
  have I3p : Inv X (pins ++ fp) σ (upd H2 D (.lst [])) s3 := by
    rw [← es3]
    refine I2.laid (t' := s2.toks) (fun b o e => Heap.get?_push_of_some _ e) (Nat.le_of_eq eD) ⟨Nat.zero_le _, [], 0, .nil, ?_⟩
    rw [← eD]
    exact Heap.get?_push_size _ rfl
  have I3 : Inv X pins σ (upd H2 D (.lst [])) s3 := I3p.unpinned
  generalize hH3 : upd H2 D (.lst []) = H3 at I3p I3 w0
  obtain ⟨oL, hoL⟩ := Z2.inL
  have pL := I3p.pin (L, oL) (List.mem_append_right _ (List.mem_append_right _ hoL))
  have f3 : ∀ b ∈ [L], FpOk X pins H3 b ∧ b < s3.heap.objs.size := fun b hb => by
    rw [List.mem_singleton.mp hb]
    exact ⟨⟨pL.2.1, pL.2.2.1, pL.2.2.2.1, Z2.tok.1, Z2.tok.2.2.1, Z2.tok.2.2.2⟩, Heap.lt_size pL.1⟩
  have away : ∀ p ∈ fp, p.1 ≠ X.env.locals ∧ p.1 ∉ X.fs := fun p hp => by
    obtain ⟨_, _, h3, h4, _⟩ := I3p.pin p (List.mem_append_right _ (List.mem_append_right _ hp))
    exact ⟨h3, h4⟩
  have I4 := block_start I3 ok hN f3
  have pg := hg s3 H3 s3.heap.objs.size (cellsFrom (s3.heap.objs.size + 1) scope.names (cloFrom X.env.cells scope.names [])) [L]
  have pt := ht s3 H3 s3.heap.objs.size (cellsFrom (s3.heap.objs.size + 1) scope.names (cloFrom X.env.cells scope.names [])) [L]
  have pe := he s3 H3 s3.heap.objs.size (cellsFrom (s3.heap.objs.size + 1) scope.names (cloFrom X.env.cells scope.names [])) [L]
  show codeAny _ _ (.compStart (.ListComp elt [⟨tg, iter, ifs, 0⟩] scope pos) 0 (.ref a) (.ref D) (compEnvC scope (cellsFrom (s3.heap.objs.size + 1) scope.names (cloFrom X.env.cells scope.names [])) s3.heap.objs.size X.env)) (compPost (model X.prog X.w) X.A X.xe use Qf (.ref D) s3.heap.objs.size) { s3 with heap := pushCells (s3.heap.push { cls := .type "dict", data := .dict #[] }) scope.names }
  generalize hce : compEnvC scope (cellsFrom (s3.heap.objs.size + 1) scope.names (cloFrom X.env.cells scope.names [])) s3.heap.objs.size X.env = ce at I4 pg pt pe ⊢
  have cL : ce.locals = s3.heap.objs.size := by subst hce; rfl
  have gens3 : s3.gens = s2.gens := by rw [← es3]
  generalize hs4 : ({ s3 with heap := pushCells (s3.heap.push { cls := .type "dict", data := .dict #[] }) scope.names } : Shared) = s4 at I4 ⊢
  have kp4 : ∀ b o, s3.heap.get? b = some o → s4.heap.get? b = some o := fun b o e => by rw [← hs4]; exact pushCells_keeps _ _ _ _ (Heap.get?_push_of_some _ e)
  have gens4 : s4.gens = s2.gens := by rw [← hs4]; exact gens3
  have I4p : Inv (blkG X s3 H3 scope ce L) fp (wipe σ (own.map (·.2))) H3 s4 := I4.pins_of fun p hp => by
    obtain ⟨q1, q2, _, q4, q5⟩ := I3p.pin p (List.mem_append_right _ (List.mem_append_right _ hp))
    refine ⟨kp4 _ _ q1, q2, ?_, ?_, q5⟩
    · show p.1 ≠ ce.locals
      rw [cL]; exact Nat.ne_of_lt (Heap.lt_size q1)
    · exact frs_of I3p (List.mem_append_right _ (List.mem_append_right _ hp))
  have tokB : TurnOk (blkG X s3 H3 scope ce L) [] L := by
    obtain ⟨e1, e2⟩ := I4.ok.exf L (List.mem_singleton.mpr rfl)
    exact ⟨.inl (List.mem_singleton.mpr rfl), e1, e2, fun p hp => absurd (show p ∈ ([] : List (Addr × Obj)) ++ [] from hp) (by simp)⟩
  obtain ⟨og, nm, qn, hog, gc, gd, gsl⟩ := id Z2.gen
  obtain ⟨oa, hoa⟩ := Z2.inA
  have eoa : oa = og := by
    have := (I2.pin (a, oa) (List.mem_append_right _ (List.mem_append_right _ hoa))).1
    rw [hog] at this
    exact (Option.some.inj this).symm
  subst eoa
  obtain ⟨gs, hgs, hgo⟩ := Z2.ex
  -- the loop
  have loop : codeAny (model X.prog X.w) X.A (.compLoop (.ListComp elt [⟨tg, iter, ifs, 0⟩] scope pos) 0 (.ref a) (.ref D) ce) (compPost (model X.prog X.w) X.A X.xe use Qf (.ref D) s3.heap.objs.size) s4 := by
    refine compLoop_any (fun n s' => ∃ i H' fp' gs', i ≤ N ∧ Inv (blkG X s3 H3 scope ce L) fp' (wipe σ (own.map (·.2))) H' s' ∧ (∀ p ∈ fp', p.1 ≠ X.env.locals ∧ p.1 ∉ X.fs) ∧ (a, oa) ∈ fp' ∧ (∃ o, (L, o) ∈ fp') ∧ s'.gens[g']? = some gs' ∧
      (∀ s'', Wake X fp' s'' → gs'.Goes (model X.prog X.w) X.A.in1 (RP X L) (YP X a L Vy) (N - i) (.send .none) s'') ∧ W i n H') ?_ m0 ⟨0, H3, fp, gs, Nat.zero_le _, I4p, away, hoa, ⟨oL, hoL⟩, by rw [gens4]; exact hgs, hgo, w0⟩
    rintro n s5 ⟨i, H5, fp5, gs5, hi5, I5, aw5, ha5, ⟨oL5, hL5⟩, hgs5, hgo5, w5⟩
    have J5 : Inv X (pins ++ fp5) σ H5 s5 := blk_back I3 Z2.tok I5 aw5
    have wk : Wake X fp5 (s5.setGen g' .running) := Wake.regen ⟨pins, σ, H5, J5⟩ rfl rfl (allBare_setGen I5.bare rfl)
    have pa := I5.pin (a, oa) (List.mem_append_right _ ha5)
    have pL5 := I5.pin (L, oL5) (List.mem_append_right _ hL5)
    have gen5 : s5.heap.IsGen a g' := ⟨oa, nm, qn, pa.1, gc, gd, gsl⟩
    have I5u : Inv (blkG X s3 H3 scope ce L) [] (wipe σ (own.map (·.2))) H5 s5 := I5.pins_of fun p hp => by simp at hp
    have hlt : g' < s5.gens.size := (Array.getElem?_eq_some_iff.mp hgs5).1
    have aS : a ∉ frs X.stack := pa.2.2.2.1
    have xloc : ∃ o, s5.heap.get? X.env.locals = some o := by
      obtain ⟨m, ⟨o, _, _, ho, _⟩, _⟩ := J5.loc
      exact ⟨o, ho⟩
    have bloc : ∃ o, s5.heap.get? ce.locals = some o := by
      obtain ⟨m, ⟨o, _, _, ho, _⟩, _⟩ := I5.loc
      exact ⟨o, ho⟩
    have back : ∀ {s6 : Shared} {Hn : Hp}, s6.os = s5.os → AllBare s6.gens → Un (frs X.stack) [L] (fun _ => none) Hn s5.heap s6.heap → HOk X.prog X.w Hn s6.heap → Inv (blkG X s3 H3 scope ce L) [] (wipe σ (own.map (·.2))) (mrg H5 Hn) s6 := fun {s6 Hn} o b u k => Inv.mrg I5u o b u k pL5.2.1 tokB
    -- what is the generator's own behind a segment
    have ownp : ∀ {s6 : Shared} {Hn : Hp} {fp6 : List (Addr × Obj)}, Inv (blkG X s3 H3 scope ce L) [] (wipe σ (own.map (·.2))) (mrg H5 Hn) s6 → (∀ p ∈ fp6, s6.heap.get? p.1 = some p.2 ∧ Hn p.1 = none ∧ (p.1 = a ∨ p.1 = L ∨ s5.heap.get? p.1 = none) ∧ ∀ v, p.2.data ≠ .cell v) →
        Inv (blkG X s3 H3 scope ce L) fp6 (wipe σ (own.map (·.2))) (mrg H5 Hn) s6 ∧ ∀ p ∈ fp6, p.1 ≠ X.env.locals ∧ p.1 ∉ X.fs := fun {s6 Hn fp6} J6 hfp => by
      have ne : ∀ {b c : Addr} {o : Obj}, s5.heap.get? b = none → s5.heap.get? c = some o → b ≠ c := fun e1 e2 z => by rw [z, e2] at e1; cases e1
      refine ⟨J6.pins_of fun p hp => ?_, fun p hp => ?_⟩
      · obtain ⟨q1, q2, q3, q4⟩ := hfp p hp
        refine ⟨q1, ?_, ?_, ?_, q4⟩
        · rw [mrg_old q2]
          rcases q3 with e | e | e
          · rw [e]; exact pa.2.1
          · rw [e]; exact pL5.2.1
          · exact Inv.none_of I5 e
        · rcases q3 with e | e | e
          · rw [e]; exact pa.2.2.1
          · rw [e]; exact pL5.2.2.1
          · obtain ⟨o, ho⟩ := bloc
            exact ne e ho
        · rcases q3 with e | e | e
          · rw [e]; exact pa.2.2.2.1
          · rw [e]; exact pL5.2.2.2.1
          · intro hm
            obtain ⟨o, ho⟩ := frs_none J5 hm
            exact ne e ho rfl
      · obtain ⟨_, _, q3, _⟩ := hfp p hp
        rcases q3 with e | e | e
        · rw [e]; exact aw5 _ ha5
        · rw [e]; exact aw5 _ hL5
        · obtain ⟨o, ho⟩ := xloc
          refine ⟨ne e ho, fun hm => ?_⟩
          obtain ⟨_, o, ho', _⟩ := J5.funs.mem hm
          exact ne e ho' rfl
    rcases turn i n H5 w5 with ⟨stop, qq⟩ | ⟨go, Nx, hNx, step⟩
    · have h0 : N - i = 0 := by have : i = N := stop; omega
      rw [h0] at hgo5
      refine thnF (next_genG (Er := fun _ _ => False) (Q := fun r s6 => r = none ∧ Inv (blkG X s3 H3 scope ce L) [] (wipe σ (own.map (·.2))) H5 s6) (I5.ok.hd hc) I5.nolimit hd gen5 hgs5 (hgo5 _ wk) (fun v s6 gs6 _ hy => ?_) (fun s6 hF h' hk => ?_) fun _ _ z => z.elim) fun r s6 ⟨hr, I6⟩ => ?_
      · exfalso
        obtain ⟨x, Hn, fp6, _, ho, hbb, un, hok, _, hfp, _, _, hk⟩ := hy
        obtain ⟨J6, aw6⟩ := ownp (back ho hbb un hok) hfp
        exact hk s6 .none (.inl rfl) ⟨pins, σ, _, blk_back I3 Z2.tok J6 aw6⟩
      · obtain ⟨_, ho, hbb, un⟩ := hF
        have J6 := back (Hn := fun _ => none) ho hbb un fun b u e => by cases e
        refine ⟨rfl, (Inv.regen (t := s6.setGen g' .finished) (show Inv (blkG X s3 H3 scope ce L) [] (wipe σ (own.map (·.2))) H5 s6 from J6) rfl rfl (allBare_setGen hbb rfl)).kept hk⟩
      · subst hr
        have I7 : Inv X pins σ H5 s6 := I3.call' (ch := [L]) I6.os I6.base I6.hok I6.bare fun b hb => by rw [List.mem_singleton.mp hb]; exact Z2.tok
        have nC : H5 s3.heap.objs.size = none := by
          have z : H5 ce.locals = none := I6.free
          rw [cL] at z; exact z
        obtain ⟨m, hn, _⟩ := I6.loc
        have hn : s6.heap.Ns ce.locals m := hn
        rw [cL] at hn
        exact hRR D s3.heap.objs.size s6 m H5 I7 qq hn (I3.fpOk (Nat.le_refl _) nC)
    · have hi' : i < N := go
      obtain ⟨m, hm⟩ : ∃ m, N - i = m + 1 := ⟨N - i - 1, by omega⟩
      rw [hm] at hgo5
      refine thnF (GenW.wpAny_gsz (n := g' + 1) hlt (next_genG (Er := fun _ _ => False) (Q := fun r s6 => g' + 1 ≤ s6.gens.size → ∃ v gs6 x Hn fp6, r = some v ∧ RelV x v ∧ Vy (N - 1 - i) x Hn ∧ (∀ b u, Hn b = some u → H5 b = none) ∧ Inv (blkG X s3 H3 scope ce L) fp6 (wipe σ (own.map (·.2))) (mrg H5 Hn) s6 ∧ (∀ p ∈ fp6, p.1 ≠ X.env.locals ∧ p.1 ∉ X.fs) ∧ (a, oa) ∈ fp6 ∧ (∃ o, (L, o) ∈ fp6) ∧ s6.gens[g']? = some gs6 ∧ isS gs6 = true ∧
        ∀ s'', Wake X fp6 s'' → gs6.Goes (model X.prog X.w) X.A.in1 (RP X L) (YP X a L Vy) m (.send .none) s'') (I5.ok.hd hc) I5.nolimit hd gen5 hgs5 (hgo5 _ wk) (fun v s6 gs6 hbare hy => ?_) (fun s6 hF h' hk => ?_) fun _ _ z => z.elim)) fun r s6 h6 => ?_
      · intro hsz
        obtain ⟨x, Hn, fp6, rx, ho, hbb, un, hok, vy, hfp, ⟨oa6, hoa6⟩, inL, hk⟩ := hy
        have hsz6 : g' < s6.gens.size := by
          have q : (s6.setGen g' gs6).gens.size = s6.gens.size := setGen_sz
          rw [q] at hsz; omega
        obtain ⟨J6, aw6⟩ := ownp (back ho hbb un hok) hfp
        have ea : oa6 = oa := by
          have e1 := un.keep a oa pa.1 rfl aS (by simp [Z2.ne])
          rw [(hfp _ hoa6).1] at e1
          exact Option.some.inj e1
        subst ea
        have J6' : Inv (blkG X s3 H3 scope ce L) fp6 (wipe σ (own.map (·.2))) (mrg H5 Hn) (s6.setGen g' gs6) := Inv.regen J6 rfl rfl (allBare_setGen hbb hbare)
        have wk6 : Wake X fp6 (s6.setGen g' gs6) := ⟨pins, σ, _, blk_back I3 Z2.tok J6' aw6⟩
        have hS : isS gs6 = true := by
          cases gs6 with
          | suspended => rfl
          | fresh c =>
            have := (hk _ (.bool true) (.inr rfl) wk6).1
            cases this
          | running => exact (hk _ .none (.inl rfl) wk6).elim
          | finished => exact (hk _ .none (.inl rfl) wk6).elim
        refine ⟨v, gs6, x, Hn, fp6, rfl, rx, by rw [show N - 1 - i = m + 1 - 1 by omega]; exact vy, fun b u e => ?_, J6', aw6, hoa6, inL, setGen_at hsz6, hS, fun s'' hw => hk s'' .none (.inl rfl) hw⟩
        cases qh : H5 b with
        | none => rfl
        | some u' =>
          exfalso
          obtain ⟨o, ho'⟩ := ok_there (I5.hok b u' qh)
          by_cases hbL : b = L
          · rw [hbL, pL5.2.1] at qh; cases qh
          · have := un.free b o ho' rfl (by simp [hbL])
            rw [this] at e; cases e
      · exact absurd hF.1 (by omega)
      · obtain ⟨v, gs6, x, Hn, fp6, rfl, rx, vy, fresh, I6, aw6, ha6, hL6, hgs6, hS, hgo6⟩ := h6
        refine go_of ((I6.pin (a, oa) (List.mem_append_right _ ha6)).1) gc gd (by decide) ?_
        have q6 := step x (mrg H5 Hn) ⟨Hn, vy, rfl, fresh⟩
        have dl : ∀ {σ' : L2.St} {H' : Hp} {s' : Shared}, Inv (blkG X s3 H3 scope ce L) fp6 σ' H' s' → Inv (blkG X s3 H3 scope ce L) fp6 σ' H' (dulled s') := fun J => Inv.regen J rfl rfl (bare_dulled J.bare)
        -- the target
        refine wpAny_mono (wpAny_asleep (pg.run _ _ _ _ x v _ (dl I6) rx q6)) (fun _ s8 h8 => ?_) fun e s8 ⟨_, _, z⟩ => z.elim
        obtain ⟨t8, r8, σ8, H8, J8, hw8, q8⟩ := h8
        have I8 : Inv (blkG X s3 H3 scope ce L) fp6 σ8 H8 s8 := Inv.regen J8 r8.heap r8.os (r8.bare I6.bare J8.bare)
        have hgs8 : s8.gens[g']? = some gs6 := (r8.slp g' gs6 hgs6 hS).1
        -- the tests
        refine wpAny_mono (wpAny_asleep (pt.run _ _ σ8 H8 _ (dl I8) q8)) (fun b s9 h9 => ?_) fun e s9 ⟨_, _, z⟩ => z.elim
        obtain ⟨t9, r9, H9, J9, q9⟩ := h9
        have I9 : Inv (blkG X s3 H3 scope ce L) fp6 σ8 H9 s9 := Inv.regen J9 r9.heap r9.os (r9.bare I8.bare J9.bare)
        have hgs9 : s9.gens[g']? = some gs6 := (r9.slp g' gs6 hgs8 hS).1
        have fin : ∀ {s' : Shared} {H' : Hp}, Inv (blkG X s3 H3 scope ce L) fp6 σ8 H' s' → s'.gens[g']? = some gs6 → Nx H' → ∃ m', m' < n ∧ ∃ i H' fp' gs', i ≤ N ∧ Inv (blkG X s3 H3 scope ce L) fp' (wipe σ (own.map (·.2))) H' s' ∧ (∀ p ∈ fp', p.1 ≠ X.env.locals ∧ p.1 ∉ X.fs) ∧ (a, oa) ∈ fp' ∧ (∃ o, (L, o) ∈ fp') ∧ s'.gens[g']? = some gs' ∧
            (∀ s'', Wake X fp' s'' → gs'.Goes (model X.prog X.w) X.A.in1 (RP X L) (YP X a L Vy) (N - i) (.send .none) s'') ∧ W i m' H' := fun {s' H'} J hg nx => by
          obtain ⟨m', hm', w'⟩ := hNx H' nx
          have hl : (wipe σ (own.map (·.2))).length = σ8.length := by rw [← hw8, wipe_length]
          refine ⟨m', hm', i + 1, H', fp6, gs6, hi', J.weak hl (fun j v e => ?_), aw6, ha6, hL6, hg, ?_, w'⟩
          · rw [← hw8] at e
            exact (wipe_some e).1
          · rw [show N - (i + 1) = m by omega]
            exact hgo6
        cases b with
        | false =>
          simp only [Bool.false_eq_true, if_false] at q9 ⊢
          exact fin I9 hgs9 q9
        | true =>
          simp only [if_true] at q9 ⊢
          refine wpAny_mono (wpAny_asleep (pe.run _ _ σ8 H9 _ (dl I9) q9)) (fun z s10 h10 => ?_) fun e s10 ⟨_, _, z⟩ => z.elim
          obtain ⟨t10, r10, yv, H10, J10, ry, acc, hD10, hz10, nx⟩ := h10
          have I10 : Inv (blkG X s3 H3 scope ce L) fp6 σ8 H10 s10 := Inv.regen J10 r10.heap r10.os (r10.bare I9.bare J10.bare)
          have hgs10 : s10.gens[g']? = some gs6 := (r10.slp g' gs6 hgs9 hS).1
          refine wpAny_mono (wpAny_asleep (app_ok (X := blkG X s3 H3 scope ce L) (E := fun _ _ => False) (Q := fun _ s' => Inv (blkG X s3 H3 scope ce L) fp6 σ8 (upd H10 D (.lst (acc ++ [yv]))) s') (dl I10) hD10 hz10 ry fun s11 I11 => I11)) (fun _ s11 h11 => ?_) fun e s11 ⟨_, _, z⟩ => z.elim
          obtain ⟨t11, r11, J11⟩ := h11
          exact fin (Inv.regen J11 r11.heap r11.os (r11.bare I10.bare J11.bare)) (r11.slp g' gs6 hgs10 hS).1 nx
  exact codeAny_compStart_list loop (wpAny_pyIter_gen (Heap.IsGen.keeps Z2.gen fun b o e => kp4 b o (kp3 b o e)) loop)
variable {elt tg iter : Expr} {ifs : List Expr} {scope : Scope} {own : List (Str × Nat)} {pos : Pos} {wi : TGm} {g : TG} {tt : TT} {te : TE}
/-- as a value -/
theorem pe_lcG (hc : X.calm = true) (hd : X.A.depth < recursionLimit) (hN : X.N.Nodup) (hi : PGm X iter wi) (ok : BlkOk X.N X.env.scope scope own)
    (hg : ∀ (s : Shared) (H : Hp) (C : Addr) (cl : List (Str × Addr)) (fp : List Addr), PG (X.blk s H scope (compEnvC scope cl C X.env) fp) tg g) (ht : ∀ (s : Shared) (H : Hp) (C : Addr) (cl : List (Str × Addr)) (fp : List Addr), PTs (X.blk s H scope (compEnvC scope cl C X.env) fp) ifs tt)
    (he : ∀ (s : Shared) (H : Hp) (C : Addr) (cl : List (Str × Addr)) (fp : List Addr), PE (X.blk s H scope (compEnvC scope cl C X.env) fp) elt te) (hs : ∀ x, foldedSetIterable iter X.env x = pure x := by intro _; rfl) :
    PE X (.ListComp elt [⟨tg, iter, ifs, 0⟩] scope pos) (tLc (iGen wi) g tt te (own.map (·.2))) where
  run := fun pins s σ H Q I h => by
    rw [eval_ListComp]
    exact lc_coreG hc hd hN I hi ok hg ht he hs h fun D C s' m H' I' q hn ⟨f0, f1, _, f3, f4, f5⟩ => ⟨m, hn, fun h'' sb => ⟨.ref D, H', I'.turned (t' := s'.toks) (fun b o hb e => (sb.2 b hb).trans e) f0 f1 f3 f4 f5, rfl, q⟩⟩
/-- to a local name, on one line -/
theorem ps_setLcG {i : Nat} {y : Str} {py spos : Pos} (hc : X.calm = true) (hd : X.A.depth < recursionLimit) (hN : X.N.Nodup) (hy : X.N[i]? = some y) (hyl : X.env.scope.names.lookup y = some .local)
    (hsw : swapsWith (.ListComp elt [⟨tg, iter, ifs, 0⟩] scope pos) (some (.Name y py)) spos.line X.env = pure true) (hi : PGm X iter wi) (ok : BlkOk X.N X.env.scope scope own)
    (hg : ∀ (s : Shared) (H : Hp) (C : Addr) (cl : List (Str × Addr)) (fp : List Addr), PG (X.blk s H scope (compEnvC scope cl C X.env) fp) tg g) (ht : ∀ (s : Shared) (H : Hp) (C : Addr) (cl : List (Str × Addr)) (fp : List Addr), PTs (X.blk s H scope (compEnvC scope cl C X.env) fp) ifs tt)
    (he : ∀ (s : Shared) (H : Hp) (C : Addr) (cl : List (Str × Addr)) (fp : List Addr), PE (X.blk s H scope (compEnvC scope cl C X.env) fp) elt te) (hs : ∀ x, foldedSetIterable iter X.env x = pure x := by intro _; rfl) :
    PS X (.Assign [.Name y py] (.ListComp elt [⟨tg, iter, ifs, 0⟩] scope pos) spos) (tAsg (tLc (iGen wi) g tt te (own.map (·.2))) (gName i)) where
  run := fun pins s σ H D I h => by
    have h2 : tLc (iGen wi) g tt te (own.map (·.2)) σ H (fun x H1 => gName i x σ H1 D.nx) := h
    have key := lc_coreG (pos := pos) (pos' := firstIterPos [⟨tg, iter, ifs, 0⟩] pos) (use := some (assign (.Name y py) X.env)) (Qf := fun _ s' => SP X pins D .next s') hc hd hN I hi ok hg ht he hs h2 fun M C s' m H' I' q hn ⟨f0, f1, _, f3, f4, f5⟩ => by
      show wpAny _ _ (assign (.Name y py) X.env (.ref M)) _ _ _
      refine wpAny_assign_Name (store_ok2 (v := V.ref M) I' hN hy (.inl hyl) rfl (fun s2 I2 ⟨b, sb, hb⟩ => ?_) (.inr hyl))
      have ne : C ≠ b := hb.elim (fun z => by rw [z]; exact f1) fun z w => f4 y b z w.symm
      exact ⟨m, hn.sameBut sb ne, fun h3 sb3 => ⟨_, H', I2.turned (t' := s2.toks) (fun b o hb e => (sb3.2 b hb).trans e) f0 f1 f3 f4 f5, q⟩⟩
    rw [exec_Assign_Name_used _ _ _ _ hsw]
    exact wpAny_bind (wpAny_standAt (wpAny_bind (wpAny_bind (thn key fun _ s' hq => wpAny_pure (wpAny_pure hq)))))
end
end Jg
namespace Jc
open PySem PySem.Spec L2
open PyProof.Rows hiding St
theorem mk_of' {K : PySem.W.Frag} {C : Addr} {H : Hp} {R : Addr → Hp → Prop} {a : Addr} {c : List Int} (ha : H a = some (.lst (c.map V.int))) (l1 : 1 ≤ c.length) (l8 : c.length ≤ 8) (hn : num c = c) (q : ∀ p H2, Same H H2 → H p = none → PartAt C H2 p c → R p H2) :
    ∀ x dx, H x = none → H dx = none → dx ≠ x → spInit K C [.ref x, .ref a] (upd (upd H dx (.own x)) x (.ins C dx [])) (fun v H2 => v = .non ∧ R x H2) E0 := by
  intro x dx nx nd hne
  have s0 : Same H (upd (upd H dx (.own x)) x (.ins C dx [])) := same_mut (same_new nd) nx
  refine ⟨x, dx, a, c, rfl, upd_same, s0 _ _ ha, l1, l8, hn, fun t H2 h1 h2 k => ⟨rfl, q x H2 (fun b o e => k b o (ne_of_none e nx) (s0 _ _ e)) nx ⟨⟨dx, t, h1, h2⟩, l1, l8, hn⟩⟩⟩
theorem dAnd : PySem.dunder Operator.BitAnd.info.2 = ("__and__" : Str) := by decide +kernel
theorem dOr : PySem.dunder Operator.BitOr.info.2 = ("__or__" : Str) := by decide +kernel
structure OpF (P : Program) (w : World) (K : PySem.W.Frag) (mg : Str → Option Value) (base : Heap) (C : Addr) (d : Str) (k : Nat) (sp : Sp) : Prop where
  ex : ∃ f, PySem.W.findIn K (.ref C) d = some (some (.ref f)) ∧ PySem.W.isFn K (.ref f) = true ∧ FnR P w K mg base CX0 k f sp
structure ReF (P : Program) (w : World) (K : PySem.W.Frag) (mg : Str → Option Value) (base : Heap) (C : Addr) : Prop where
  ex : ∃ f fd, FnQ P w K mg base 1 f fd ["self"] TupFree (spRepr C) ∧ PySem.W.findIn K (.ref C) "__repr__" = some (some (.ref f)) ∧ PySem.W.isFn K (.ref f) = true ∧ ∀ (s : Shared) (u : Value), BindsTo s fd ⟨[u], []⟩ ((["self"] : List Str).zip [u])
/-- a partition of n holders with these gone ones -/
structure PG (C : Addr) (n : Nat) (g : List Bool) (H : Hp) (p : Addr) (c : List Int) : Prop where
  at_ : PartAt C H p c
  len : c.length = n
  gm : gmOf c = g
section
variable {C : Addr} {n : Nat} {g : List Bool} {H H2 : Hp} {p q : Addr} {c d J J2 : List Int}
theorem PG.same (s : Same H H2) (h : PG C n g H p c) : PG C n g H2 p c := ⟨h.at_.same s, h.len, h.gm⟩
theorem PG.can (h : PG C n g H p c) : Can n c := ⟨h.len, h.at_.nu⟩
theorem PG.hi (h : PG C n g H p c) : n ≤ 8 := h.len ▸ h.at_.hi
theorem PG.ins (h : PG C n g H p c) : ∃ dx t, H p = some (.ins C dx [("_classes", .ref t)]) := let ⟨dx, t, a, _⟩ := h.at_.ex; ⟨dx, t, a⟩
theorem ext_of (hc : Can n c) (hd : Can n d) (h : ∀ i j, Al c i j ↔ Al d i j) : c = d := can_ext hc.nu hd.nu (by rw [hc.len, hd.len]) h
theorem met_al (hc : Can n c) (hd : Can n d) (hg : gmOf c = gmOf d) (hn : n ≤ 8) {i j : Nat} : Al (num (metM c d)) i j ↔ Al c i j ∧ Al d i j :=
  al_num.trans (al_met (by rw [hc.len, hd.len]) hg (hc.small50 hn) (hd.small50 hn))
theorem fin_iff (hc : Can n c) (hd : Can n d) (hg : gmOf c = gmOf d) (hn : n ≤ 8) : num (metM c d) = c ↔ ∀ i j, Al c i j → Al d i j :=
  met_num hc.nu (by rw [hc.len, hd.len]) hg (hc.small50 hn) (hd.small50 hn)
theorem met_gm (hc : Can n c) (hd : Can n d) (hg : gmOf c = gmOf d) (hn : n ≤ 8) : gmOf (num (metM c d)) = gmOf c :=
  gm_of (by rw [(can_met hc hd).len, hc.len]) fun i => (met_al hc hd hg hn).trans ⟨fun z => z.1, fun z => ⟨z, (al_gm hg i).mp z⟩⟩
theorem IsJoin.uniq (h : IsJoin c d J) (h' : IsJoin c d J2) (cJ : Can n J) (cK : Can n J2) : J = J2 := ext_of cJ cK fun i j => ⟨h.least J2 h'.one h'.two i j, h'.least J h.one h.two i j⟩
theorem IsJoin.symm (h : IsJoin c d J) (hl : c.length = d.length) (hg : gmOf c = gmOf d) : IsJoin d c J := ⟨h.len.trans hl, fun i => (h.gone i).trans (al_gm hg i), h.two, h.one, fun e h1 h2 => h.least e h2 h1⟩
theorem and_rd {Q : VK} (hp : PG C n g H p c) (hq : PG C n g H q d) (k : ∀ r H2, Same H H2 → PG C n g H2 r (num (metM c d)) → Q (.ref r) H2) : rBinOwn C (spAnd C) (.ref p) (.ref q) H Q := by
  obtain ⟨dx, t, a1⟩ := hp.ins
  obtain ⟨dy, u, b1⟩ := hq.ins
  have hg := hp.gm.trans hq.gm.symm
  exact ⟨p, q, dx, dy, _, _, rfl, rfl, a1, b1, p, q, c, d, rfl, hp.at_, hq.at_, hg, fun r H2 s2 hr => ⟨⟨_, rfl⟩, k r H2 s2 ⟨hr, (can_met hp.can hq.can).len, (met_gm hp.can hq.can hg hp.hi).trans hp.gm⟩⟩⟩
theorem or_rd {Q : VK} (hp : PG C n g H p c) (hq : PG C n g H q d) (k : ∀ r H2 J, Same H H2 → PG C n g H2 r J → IsJoin c d J → Q (.ref r) H2) : rBinOwn C (spOr C) (.ref p) (.ref q) H Q := by
  obtain ⟨dx, t, a1⟩ := hp.ins
  obtain ⟨dy, u, b1⟩ := hq.ins
  have hg := hp.gm.trans hq.gm.symm
  refine ⟨p, q, dx, dy, _, _, rfl, rfl, a1, b1, p, q, c, d, rfl, hp.at_, hq.at_, hg, fun r H2 M s2 _ hM hr => ⟨⟨_, rfl⟩, ?_⟩⟩
  have hJ : IsJoin c d (num (joinM c d (M + 1).toNat)) := join_is (by rw [hp.len, hq.len]) hg (fun x hx => (hq.can.small x hx).1) hM
  exact k r H2 _ s2 ⟨hr, by rw [hJ.len, hp.len], hJ.gm.symm.trans hp.gm⟩ hJ
theorem ne_rd {Q : VK} (hp : PG C n g H p c) (hq : PG C n g H q d) (k : Q (.bl (!decide (c = d))) H) : rNeOwn C (spEqP C) (.ref p) (.ref q) H Q := by
  obtain ⟨dx, t, a1⟩ := hp.ins
  obtain ⟨dy, u, b1⟩ := hq.ins
  exact ⟨p, q, dx, dy, _, _, rfl, rfl, a1, b1, p, q, c, d, rfl, hp.at_, hq.at_, _, rfl, k⟩
theorem eq_rd {Q : VK} (hp : PG C n g H p c) (hq : PG C n g H q d) (k : Q (.bl (decide (c = d))) H) : rEqOwn C (spEqP C) (.ref p) (.ref q) H Q := by
  obtain ⟨dx, t, a1⟩ := hp.ins
  obtain ⟨dy, u, b1⟩ := hq.ins
  exact ⟨p, q, dx, dy, _, _, rfl, rfl, a1, b1, p, q, c, d, rfl, hp.at_, hq.at_, ⟨_, rfl⟩, k⟩
theorem fin_rd {Q : VK} {σ : L2.St} {j : Nat} (hp : PG C n g H p c) (hq : PG C n g H q d) (hσ : σ[j]? = some (some (.ref q))) (k : ∀ H2, Same H H2 → Q (.bl (decide (num (metM c d) = c))) H2) :
    ∃ a dx fs, V.ref p = .ref a ∧ H a = some (.ins C dx fs) ∧ fs.lookup ("is_finer" : Str) = none ∧ tCons (tVar j) tNil σ H fun vs H2 => spFiner C (.ref p :: vs) H2 Q E0 := by
  obtain ⟨dx, t, a1⟩ := hp.ins
  exact ⟨p, dx, _, rfl, a1, rfl, .ref q, hσ, p, q, c, d, rfl, hp.at_, hq.at_, hp.gm.trans hq.gm.symm, k⟩
/-- the text of a list of two -/
theorem repr_rd {Q : VK} {l : Addr} (hl : H l = some (.lst [.ref p, .ref q])) (hp : PG C n g H p c) (hq : PG C n g H q d) (k : ∀ H2, Same H H2 → Q (.str (listText [txP c, txP d])) H2) : rReprO C [.ref l] H Q := by
  refine ⟨l, (p, c), [(q, d)], rfl, hl, fun z hz => ?_, by show (2 : Nat) ≤ 8; decide, k⟩
  rcases List.mem_cons.mp hz with z1 | z1
  · rw [z1]; exact hp.at_
  · rw [List.mem_singleton.mp z1]; exact hq.at_
end
end Jc
namespace Jc
open PySem PySem.Spec L2
open PyProof.Rows hiding St
/-! ### len of an instance by its own def -/
section
variable {P : Program} {w : World} {A : Around} {E : Value → Shared → Prop} {s : Shared} {K : PySem.W.Frag} {x C f : Addr} {ox : Obj} {od : Option Obj}
theorem len_raw {Q : Value → Shared → Prop} (KX : K.In s.heap) (J : PySem.W.InstAt s.heap x ox C od) (hs : PySem.W.findIn K (.ref C) "__len__" = some (some (.ref f))) (hf : PySem.W.isFn K (.ref f) = true)
    (h : wpAny (model P w) A.in1 (call (.ref f) [.ref x]) (fun v t => ∃ (n : Nat) (u : Tok), v = .int n u ∧ n ≤ 1000000 ∧ ∀ u', Q (.int n u') { t with toks := t.toks + 1 }) E s) : wpAny (model P w) A (call (.builtin "len") [.ref x]) Q E s := by
  refine Calls.call_function_entry kind_len plain_len entry_len (args_len1 _) (?_ : wpAny _ _ (Builtin.«len» _) _ _ _)
  unfold Builtin.«len»
  refine wpAny_bind (m := oneArg "len" _) (wpAny_pure ?_)
  refine wpAny_bind (m := callSpecial? (.ref x) (Str.ofString "__len__")) (PySem.W.special_fn KX J hs (beq_iff_eq.mp hf) (wpAny_mono h (fun v t z => ?_) fun _ _ z => z))
  obtain ⟨n, u, rfl, hn, q⟩ := z
  refine wpAny_bind (wpAny_holding (wpAny_pure ?_))
  refine wpAny_bind (wpAny_letGo ?_)
  show wpAny _ _ (if (n : Int) < 0 then _ else _) _ _ _
  rw [if_neg (Int.not_lt.mpr (Int.natCast_nonneg n))]
  show wpAny _ _ (if (n : Int) ≥ 2 ^ 63 then _ else _) _ _ _
  rw [if_neg (by omega)]
  exact wpAny_bind (wpAny_mkInt (wpAny_pure ⟨_, rfl, q _⟩))
end
def rLenOwn (C : Addr) (sp : Sp) : List V → Hp → VK → Prop := fun xs H Q => ∃ a dx fs, xs = [.ref a] ∧ H a = some (.ins C dx fs) ∧ sp [.ref a] H (fun v H2 => ∃ n : Nat, v = .int n ∧ n ≤ 1000000 ∧ Q v H2) E0
theorem call_lenO {X : Cx} {C f : Addr} {k : Nat} {sp : Sp} (hs : PySem.W.findIn X.K (.ref C) "__len__" = some (some (.ref f))) (hf : PySem.W.isFn X.K (.ref f) = true) (F : FnR X.prog X.w X.K X.mg X.base CX0 k f sp) (hr : Room (k + 1) X.A) : CallR X (.builtin "len") (rLenOwn C sp) := by
  intro pins s σ H xs us Q I r h
  obtain ⟨a, dx, fs, rfl, ea, q⟩ := h
  rw [Vals.ref1 r]
  obtain ⟨mA, O, _, _, _, _⟩ := ins_get I.hok ea
  obtain ⟨od, J, _⟩ := O.look
  refine len_raw I.kIn J hs hf (wpAny_call (codeAny_mono (F X.A.in1 X.stack s H [.ref a] [.ref a] _ E0 hr.in1 I.env0.in1 (.cons rfl .nil) q) fun rs s2 z => ?_))
  match rs, z with
  | .ok .next, z => exact z.elim
  | .ok .brk, z => exact z.elim
  | .ok .cont, z => exact z.elim
  | .error _, z => exact z.elim
  | .ok (.ret u), z =>
    obtain ⟨v2, H2, I2, rv, ⟨n, e2, hn, q2⟩⟩ := I.after z
    subst e2
    obtain ⟨t, rfl⟩ := rv
    exact ⟨n, t, rfl, hn, fun u' => ⟨.int n, H2, I2.tok _, ⟨_, rfl⟩, q2⟩⟩
/-! ### o.m(a = e, ..): all parameters by their names, told from the last to the first -/
structure OwnMK (P : Program) (w : World) (K : PySem.W.Frag) (mg : Str → Option Value) (base : Heap) (C : Addr) (m : Str) (k : Nat) (ks ps : List Str) (sp : Sp) : Prop where
  ex : ∃ (f : Addr) (fd : FuncData), Meth K C m f ∧ FnOk P w K mg base CX0 k f fd ps sp ∧ ∀ (s : Shared) (u : Value) (us : List Value), us.length = ks.length → BindsTo s fd ⟨[u], ks.zip us⟩ (ps.zip (u :: us.reverse))
def tMethK (C : Addr) (m : Str) (n : Nat) (sp : Sp) (ta : TE) (tk : TA) : TE := fun σ H Q => ta σ H fun x H1 => ∃ a dx fs, x = .ref a ∧ H1 a = some (.ins C dx fs) ∧ fs.lookup m = none ∧ tk σ H1 fun zs H2 => zs.length = n ∧ sp (x :: zs.reverse) H2 Q E0
theorem vals_app {xs ys : List V} : ∀ {us ws : List Value}, Vals xs us → Vals ys ws → Vals (xs ++ ys) (us ++ ws) := by
  induction xs with
  | nil => intro us ws r1 r2; cases r1; exact r2
  | cons x xs ih =>
    intro us ws r1 r2
    cases r1 with
    | cons a b => exact .cons a (ih b r2)
theorem vals_rev : ∀ {xs : List V} {us : List Value}, Vals xs us → Vals xs.reverse us.reverse
  | [], _, r => by cases r; exact .nil
  | x :: xs, _, r => by
    cases r with
    | cons a b =>
      rw [List.reverse_cons, List.reverse_cons]
      exact vals_app (vals_rev b) (.cons a .nil)
section
variable {X : Cx} {k j : Nat} {C : Addr} {m : Str} {ks ps : List Str} {sp : Sp} {pos apos : Pos} {o : Expr} {kws : List Keyword} {ta : TE} {tk : TA}
theorem pe_omK {pl : Sem Bool} (he : PE X o ta) (c : Cls X.K C) (h : OwnMK X.prog X.w X.K X.mg X.base C m k ks ps sp) (hr : Room j X.A) (hj : k ≤ j) (hkw : PK X kws tk)
    (hall : (backToKw pos (keywordEach kws X.env)).all (·.1.isSome) = true := by rfl) (hks : (backToKw pos (keywordEach kws X.env)).filterMap (·.1) = ks := by rfl)
    (hpl : ((backTo pos (starEach [] X.env)).any (·.1) || (backToKw pos (keywordEach kws X.env)).any (·.1.isNone)) = false := by rfl)
    (ht : eval (.Call (.Attribute o m apos) [] kws pos) X.env = (eval o X.env >>= fun ov => standAt apos.atName >>= fun _ => holding [ov] (getMethod ov m pl) >>= fun r => callWith pos r.1 r.2 (backTo pos (starEach [] X.env)) (backToKw pos (keywordEach kws X.env))) := by rfl) :
    PE X (.Call (.Attribute o m apos) [] kws pos) (tMethK C m ks.length sp ta tk) := by
  obtain ⟨f, fd, hm, F, hb⟩ := h.ex
  refine ⟨fun pins s σ H Q I h => ?_⟩
  refine PySem.W.methodCall_KW (pl := pl) (thn (he.run pins s σ H _ I h) fun u s1 z => ?_) ht
  obtain ⟨x, H1, I1, rx, a, dx, fs, ex, ea, l, q⟩ := z
  subst ex
  cases rx
  refine getmeth_ok I1 ea c hm l (PySem.W.callWith_KW0 (first := [.ref a]) (h₀ := X.base) I1.ok.mod.kin hm.kp hall (thn (hkw.run pos pins s1 σ H1 _ I1 q) fun ws s2 z => ?_) hpl)
  obtain ⟨zs, H2, I2, r, l2, q2⟩ := z
  refine ⟨I2.kIn, ?_⟩
  rw [hks]
  refine wpAny_call (codeAny_mono (F.run X.A X.stack s2 H2 ⟨[.ref a], ks.zip ws⟩ (.ref a :: ws.reverse) (.ref a :: zs.reverse) Q E0 (hr.mono hj) I2.env0 (hb s2 (.ref a) ws (r.length.symm.trans l2)) (.cons rfl (vals_rev r)) q2) fun rs s3 z => ?_)
  match rs, z with
  | .ok (.ret u), z => exact I2.after z
  | .ok .next, z => exact z.elim
  | .ok .brk, z => exact z.elim
  | .ok .cont, z => exact z.elim
  | .error _, z => exact z.elim
end
/-! ### C(a = e) -/
structure OwnIK (P : Program) (w : World) (K : PySem.W.Frag) (mg : Str → Option Value) (base : Heap) (C : Addr) (k : Nat) (a : Str) (sp : Sp) : Prop where
  ex : ∃ (f : Addr) (fd : FuncData), Mk K C f ∧ FnOk P w K mg base CX0 k f fd ["self", a] sp ∧ ∀ (s : Shared) (u v : Value), BindsTo s fd ⟨[u], [(a, v)]⟩ [("self", u), (a, v)]
end Jc
namespace Jc
open PySem PySem.Spec L2
open PyProof.Rows hiding St
open Jg
/-! ### classmethods: plain, and by a keyword; a generator by a keyword -/
theorem raw0c {P : Program} {w : World} {K : PySem.W.Frag} {mg : Str → Option Value} {base : Heap} {k : Nat} {f : Addr} {fd : FuncData} {ps : List Str} {sp : Sp} (F : FnOk P w K mg base CX0 k f fd ps sp) (hb : Binds K fd ps []) : FnR P w K mg base CX0 k f sp :=
  (F.raw hb .nil).imp fun vs H Q E h => by
    rw [List.append_nil]
    exact h
structure OwnCM (P : Program) (w : World) (K : PySem.W.Frag) (mg : Str → Option Value) (base : Heap) (C : Addr) (m : Str) (k : Nat) (a : Str) (sp : Sp) : Prop where
  ex : ∃ (mc : Value) (p g : Addr) (fd : FuncData), ClX.CRead K C mc ∧ ClX.CMet K C mc m p g ∧ FnOk P w K mg base CX0 k g fd ["cls", a] sp ∧ Binds K fd ["cls", a] [] ∧
    ∀ (s : Shared) (u v : Value), BindsTo s fd ⟨[u], [(a, v)]⟩ [("cls", u), (a, v)]
section
variable {X : Cx} {C : Addr} {m x a : Str} {k j : Nat} {sp : Sp} {o e : Expr} {es : List Expr} {kws : List Keyword} {ta : TE} {t : TA} {pos apos p p' pos' : Pos} {ps : List Str}
theorem pe_oc {pl : Sem Bool} (he : PE X o ta) (h : OwnCM X.prog X.w X.K X.mg X.base C m k a sp) (hr : Room j X.A) (hj : k ≤ j) (ha : PA X (e :: es) t)
    (hst : starEach (e :: es) X.env = (false, eval e X.env) :: starEach es X.env := by rfl) (hpl : (backTo pos (starEach es X.env)).any (·.1) = false := by rfl)
    (ht : eval (.Call (.Attribute o m apos) (e :: es) [] pos) X.env = (do
      let ov ← eval o X.env
      standAt apos.atName
      let (f, first) ← holding [ov] (getMethod ov m pl)
      callWith pos f first (backTo pos (starEach (e :: es) X.env)) (backToKw pos (keywordEach [] X.env))) := by rfl) :
    PE X (.Call (.Attribute o m apos) (e :: es) [] pos) (ClX.tCMeth C sp E0 ta t) := by
  obtain ⟨mc, p, g, fd, r, c, F, hb, _⟩ := h.ex
  exact ClX.pe_cmeth he r c (raw0c F hb) (hr.mono hj) pass0 ha hst hpl ht
theorem pe_ocK {pl : Sem Bool} {tk : TA} (he : PE X o ta) (h : OwnCM X.prog X.w X.K X.mg X.base C m k a sp) (hr : Room j X.A) (hj : k ≤ j) (hkw : PK X kws tk)
    (hall : (backToKw pos (keywordEach kws X.env)).all (·.1.isSome) = true := by rfl) (hks : (backToKw pos (keywordEach kws X.env)).filterMap (·.1) = [a] := by rfl)
    (hpl : ((backTo pos (starEach [] X.env)).any (·.1) || (backToKw pos (keywordEach kws X.env)).any (·.1.isNone)) = false := by rfl)
    (ht : eval (.Call (.Attribute o m apos) [] kws pos) X.env = (eval o X.env >>= fun ov => standAt apos.atName >>= fun _ => holding [ov] (getMethod ov m pl) >>= fun r => callWith pos r.1 r.2 (backTo pos (starEach [] X.env)) (backToKw pos (keywordEach kws X.env))) := by rfl) :
    PE X (.Call (.Attribute o m apos) [] kws pos) (ClX.tCMeth C sp E0 ta tk) := by
  obtain ⟨mc, p, g, fd, r, c, F, _, hb⟩ := h.ex
  refine ⟨fun pins s σ H Q I h => ?_⟩
  refine PySem.W.methodCall_KW (pl := pl) (thn (he.run pins s σ H _ I h) fun u s1 ⟨x, H1, I1, rx, ex, q⟩ => ?_) ht
  subst ex
  obtain rfl : u = Value.ref C := rx
  refine ClX.getmethcm_ok I1 r c fun s2 I2 => ?_
  refine PySem.W.callWith_of (P := PySem.W.MethP X.K _ g (.ref C)) hpl (PySem.W.keeps_M c.fi) (PyProof.Rows.evalArgs_kw2_nil hall (thn (hkw.run pos _ s2 σ H1 _ I2 q) fun ws s3 z => ?_))
  obtain ⟨vs, H2, I3, rv, q2⟩ := z
  refine ⟨⟨ClX.pin_at I3, I3.kIn⟩, ?_⟩
  rw [hks]
  have l1 : vs.length + 1 = 2 := F.len _ _ _ _ q2
  obtain ⟨u, rfl⟩ : ∃ u, ws = [u] := by
    have l2 : ws.length = 1 := by have z := rv.length; omega
    match ws, l2 with
    | [u], _ => exact ⟨u, rfl⟩
  have z : wpAny (model X.prog X.w) X.A (call (.ref s1.heap.objs.size) ([] ++ []) [(a, u)]) (EP X ((s1.heap.objs.size, PySem.W.methodObj (.ref g) (.ref C)) :: pins) σ Q) X.xe s3 := by
    refine wpAny_call (PySem.W.method_call (ClX.pin_at I3) (codeAny_mono (F.run X.A X.stack s3 H2 ⟨[.ref C], [(a, u)]⟩ [.ref C, u] (.ref C :: vs) Q E0 (hr.mono hj) I3.env0 (hb s3 (.ref C) u) (.cons rfl rv) q2) fun rs s4 z => ?_))
    match rs, z with
    | .ok (.ret u), z => exact I3.after z
    | .ok .next, z => exact z.elim
    | .ok .brk, z => exact z.elim
    | .ok .cont, z => exact z.elim
    | .error _, z => exact z.elim
  exact thn z fun _ _ y => ClX.unpinE y
end

/-- cls(e, ..), cls a name of the def's own that stands for the class -/
def tMakeV (C : Addr) (sp : Sp) (E : XK) (tf : TE) (t : TA) : TE := fun σ H Q => tf σ H fun y H0 => y = .ref C ∧ StX.tMakeR C sp E t σ H0 Q
theorem pe_makeV {X : Cx} {CX : CXT} {k : Nat} {f C : Addr} {sp : Sp} {E : XK} {x : Str} {e : Expr} {es : List Expr} {tf : TE} {t : TA} {p pos : Pos} (hf : PE X (.Name x p) tf) (M : Mk X.K C f) (F : FnR X.prog X.w X.K X.mg X.base CX k f sp) (hr : Room (k + 1) X.A) (hx : Passes CX X E) (ha : PA X (e :: es) t)
    (he : starEach (e :: es) X.env = (false, eval e X.env) :: starEach es X.env := by rfl) (hpl : (backTo pos (starEach es X.env)).any (·.1) = false := by rfl) : PE X (.Call (.Name x p) (e :: es) [] pos) (tMakeV C sp E tf t) := by
  refine ⟨fun pins s σ H Q I h => ?_⟩
  refine wpAny_Call_Name_kw (thn (hf.run pins s σ H _ I h) fun u s0 ⟨y, H0, I0, r0, ey, q0⟩ => ?_)
  subst ey
  cases r0
  refine PySem.W.callWith_K (h₀ := X.base) I0.ok.mod.kin M.kp (thn (ha.run pos pins s0 σ H0 _ I0 q0) fun us s1 ⟨vs, H1, I1, r, q⟩ => ⟨I1.kIn, ?_⟩) he hpl
  exact StX.run_makeR M F hr hx I1 r q
def spCls (C : Addr) (r : Nat → List Int) : Sp := fun vs H Q _ => ∃ n : Nat, vs = [.ref C, .int (n : Int)] ∧ 1 ≤ n ∧ n ≤ 8 ∧ ∀ (q : Addr) (H2 : Hp), Same H H2 → PartAt C H2 q (r n) → Q (.ref q) H2
theorem num_upto {n : Nat} (hn : n ≤ 8) : num (upto n) = upto n := by
  rcases (by omega : n = 0 ∨ n = 1 ∨ n = 2 ∨ n = 3 ∨ n = 4 ∨ n = 5 ∨ n = 6 ∨ n = 7 ∨ n = 8) with h | h | h | h | h | h | h | h | h <;> subst h <;> decide +kernel
theorem num_zeros {n : Nat} (hn : n ≤ 8) : num (List.replicate n 0) = List.replicate n 0 := by
  rcases (by omega : n = 0 ∨ n = 1 ∨ n = 2 ∨ n = 3 ∨ n = 4 ∨ n = 5 ∨ n = 6 ∨ n = 7 ∨ n = 8) with h | h | h | h | h | h | h | h | h <;> subst h <;> decide +kernel
/-- the next row of sums -/
def belowR (row : List Int) : List Int := row.foldl (fun acc x => acc ++ [acc.getLastD 0 + x]) [row.getLastD 0]
def bellRow : Nat → List Int
  | 0 => [1]
  | k + 1 => belowR (bellRow k)
def spCount : Sp := fun vs H Q _ => ∃ n : Nat, vs = [.int (n : Int)] ∧ 1 ≤ n ∧ n ≤ 8 ∧ ∀ (H2 : Hp), Same H H2 → Q (.int ((bellRow (n - 1)).getLastD 0)) H2
theorem below_len : ∀ (xs acc : List Int), (xs.foldl (fun acc x => acc ++ [acc.getLastD 0 + x]) acc).length = acc.length + xs.length
  | [], acc => rfl
  | x :: xs, acc => by
    rw [List.foldl_cons, below_len xs, List.length_append, List.length_cons]
    show acc.length + 1 + xs.length = acc.length + (xs.length + 1)
    omega
theorem bell_len : ∀ k, (bellRow k).length = k + 1
  | 0 => rfl
  | k + 1 => by
    show (belowR (bellRow k)).length = _
    unfold belowR
    rw [below_len, bell_len k]
    show 1 + (k + 1) = k + 1 + 1
    omega
theorem last_at {xs : List Int} (h : 0 < xs.length) : atI (xs.map V.int) (-1) = some (.int (xs.getLastD 0)) := by
  obtain ⟨ys, y, rfl⟩ : ∃ ys y, xs = ys ++ [y] := by
    cases xs with
    | nil => cases h
    | cons a b => exact ⟨(a :: b).dropLast, (a :: b).getLast (by simp), (List.dropLast_concat_getLast (by simp)).symm⟩
  have e : (ys ++ [y]).getLastD 0 = y := by simp [List.getLastD_eq_getLast?]
  rw [e]
  unfold atI
  have e2 : ixN (ys.length + 1) (-1) = some ys.length := by
    unfold ixN
    rw [if_neg (by decide), if_pos (by omega)]
    congr 1
    omega
  simp [e2]
section
variable {P : Program} {w : World} {K : PySem.W.Frag} {mg : Str → Option Value} {base : Heap} {f C : Addr} {fd : FuncData} {t1 : Tok}
abbrev s_apart : Stmt := inClass (topS 13) 2
abbrev N_apart : List Str := ["cls", "many"]
theorem sc_apart : FnScope N_apart ["cls", "many"] (defScope s_apart) := ⟨rfl, rfl, rfl, by decide +kernel, rfl, by decide +kernel, by decide +kernel⟩
theorem ok_apart (F : Fun K "apart" "Partition.apart" s_apart f fd) (B : Blt mg) (M : OwnI P w K mg base C 3 (spInit K C)) (c_many : OwnK P w K mg base "_check_many" 2 ["many"] spMany) : FnOk P w K mg base CX0 5 f fd ["cls", "many"] (spCls C upto) := by
  refine F.ok sc_apart (fun vs H Q E h => ?_) (fun cdv A outer s H vs Q E hr h => ?_)
  · obtain ⟨n, rfl, _⟩ := h
    rfl
  · obtain ⟨n, rfl, n1, n8, k⟩ := h
    obtain ⟨fM, hM, FM⟩ := M.ex
    refine ⟨_, (pss_cons (ps_expr (pe_ownk c_many hr (by decide) (pa_cons (pv 1) pa_nil))) (pss_one (ps_ret (pe_makeV (pv 0) hM FM (hr.mono (by decide)) pass0 (pa_cons (pe_listRg rfl rfl B.list (prg_1 rfl B.range (pv 1))) pa_nil))))), ?_⟩
    refine ⟨.int n, rfl, n, rfl, n1, n8, .ref C, rfl, rfl, .int n, rfl, n, rfl, RgOk.of_le (by omega) (by omega) (by omega) (by omega), fun l nl => ?_⟩
    rw [rgV_upto]
    refine mk_of (c := upto n) upd_same (by rw [upto_len]; exact n1) (by rw [upto_len]; exact n8) (num_upto n8) fun y H5 s5 _ hy => k y H5 ((same_new nl).trans s5) hy
abbrev s_together : Stmt := inClass (topS 13) 3
abbrev N_together : List Str := ["cls", "many"]
theorem sc_together : FnScope N_together ["cls", "many"] (defScope s_together) := ⟨rfl, rfl, rfl, by decide +kernel, rfl, by decide +kernel, by decide +kernel⟩
theorem ok_together (F : Fun K "together" "Partition.together" s_together f fd) (B : Blt mg) (M : OwnI P w K mg base C 3 (spInit K C)) (c_many : OwnK P w K mg base "_check_many" 2 ["many"] spMany) : FnOk P w K mg base CX0 5 f fd ["cls", "many"] (spCls C fun n => List.replicate n 0) := by
  refine F.ok sc_together (fun vs H Q E h => ?_) (fun cdv A outer s H vs Q E hr h => ?_)
  · obtain ⟨n, rfl, _⟩ := h
    rfl
  · obtain ⟨n, rfl, n1, n8, k⟩ := h
    obtain ⟨fM, hM, FM⟩ := M.ex
    refine ⟨_, (pss_cons (ps_expr (pe_ownk c_many hr (by decide) (pa_cons (pv 1) pa_nil))) (pss_one (ps_ret (pe_makeV (pv 0) hM FM (hr.mono (by decide)) pass0 (pa_cons (pe_op op_rep (pe_lst (pa_cons pe_int pa_nil)) (pv 1)) pa_nil))))), ?_⟩
    refine ⟨.int n, rfl, n, rfl, n1, n8, .ref C, rfl, rfl, le_line (by decide), fun l nl => ⟨.int n, rfl, l, n, _, rfl, rfl, upd_same, by omega, by omega, le_line (by rw [Int.toNat_natCast]; simp; omega), fun l2 nl2 => ?_⟩⟩
    refine mk_of (c := List.replicate n 0) (upd_same.trans ?_) (by rw [List.length_replicate]; exact n1) (by rw [List.length_replicate]; exact n8) (num_zeros n8) fun y H5 s5 _ hy => k y H5 ((same_new nl).trans ((same_new nl2).trans s5)) hy
    simp [List.flatten_replicate_singleton]
abbrev s_countof : Stmt := topS 15
abbrev N_countof : List Str := ["many", "row", "_", "below", "number"]
theorem sc_countof : FnScope N_countof ["many"] (defScope s_countof) := ⟨rfl, rfl, rfl, by decide +kernel, rfl, by decide +kernel, by decide +kernel⟩
theorem ok_countof (F : Fun K "count_of" "count_of" s_countof f fd) (B : Blt mg) (c_many : OwnK P w K mg base "_check_many" 2 ["many"] spMany) : FnG P w K mg base 3 f fd ["many"] spCount := by
  refine fnG_of F sc_countof (fun vs H Q E h => ?_) (fun us hl => ?_) (fun cdv A outer s H vs Q hr hq h => ?_)
  · obtain ⟨n, rfl, _⟩ := h
    rfl
  · match us, hl with
    | [_], _ => rfl
  · obtain ⟨n, rfl, n1, n8, k⟩ := h
    refine ⟨_, (pss_cons (ps_expr (pe_ownk c_many hr (by decide) (pa_cons (pv 0) pa_nil))) (pss_cons (ps_set (i := 1) sc_countof.nd rfl (.inl rfl) (pe_lst (pa_cons pe_int pa_nil)))
      (pss_cons (ps_for PassesOwn.never rfl (pi_range1 rfl B.range (pa_cons (pe_op op_sub (pv 0) pe_int) pa_nil)) (pg_name (i := 2) sc_countof.nd rfl (.inl rfl))
        (pss_cons (ps_set (i := 3) sc_countof.nd rfl (.inl rfl) (pe_lst (pa_cons (pe_ix ix_list (pv 1) (pe_un un_neg pe_int) (fun _ _ => rfl)) pa_nil)))
        (pss_cons (ps_for PassesOwn.never rfl (pi_list (pv 1)) (pg_name (i := 4) sc_countof.nd rfl (.inl rfl)) (pss_one (ps_expr (pe_bm PySem.F.plainAttrs_list PySem.F.slot_list_append PySem.F.type_list_append mt_append (pv 3) (pa_cons (pe_op op_add (pe_ix ix_list (pv 3) (pe_un un_neg pe_int) (fun _ _ => rfl)) (pv 4)) pa_nil)))))
        (pss_one (ps_set (i := 1) sc_countof.nd rfl (.inl rfl) (pv 3))))))
      (pss_one (ps_ret (pe_ix ix_list (pv 1) (pe_un un_neg pe_int) (fun _ _ => rfl))))))), ?_⟩
    refine ⟨.int n, rfl, n, rfl, n1, n8, le_line (by decide), fun l nl => ?_⟩
    have s1 : Same H (upd H l (.lst [.int 1])) := same_new nl
    refine ⟨.int n, rfl, n, 1, rfl, rfl, (n : Int) - 1, rfl, by omega, by omega, for_range (n := ((n : Int) - 1).toNat) (fun i σ H2 => ∃ l y2 y3 y4, σ = [some (.int (n : Int)), some (.ref l), y2, y3, y4] ∧ Same H H2 ∧ H2 l = some (.lst ((bellRow i).map V.int))) ⟨l, _, _, _, rfl, s1, upd_same⟩ (fun i σ H2 hi z => ?_) fun σ H2 z => ?_⟩
    · obtain ⟨l, y2, y3, y4, rfl, s2, hl⟩ := z
      have bl := bell_len i
      refine ⟨.ref l, rfl, _, rfl, l, _, _, _, rfl, rfl, .inl (.inl hl), last_at (by rw [bl]; omega), le_line (by show (1 : Nat) ≤ 1000000; decide), fun b nb => ?_⟩
      have s3 : Same H2 (upd H2 b (.lst [.int ((bellRow i).getLastD 0)])) := same_new nb
      refine ⟨.ref l, rfl, l, rfl, ⟨_, .inl (.inl (s3 _ _ hl))⟩, for_list (xs := (bellRow i).map V.int) (fun j σ H3 => ∃ y4, σ = [some (.int (n : Int)), some (.ref l), some (.int (0 + (i : Int))), some (.ref b), y4] ∧ Same H2 H3 ∧ H3 b = some (.lst ((((bellRow i).take j).foldl (fun acc x => acc ++ [acc.getLastD 0 + x]) [(bellRow i).getLastD 0]).map V.int))) ⟨_, rfl, s3, upd_same⟩ (fun j σ H3 _ z => ?_) (fun j x σ H3 hx z => ?_) fun σ H3 z => ?_⟩
      · obtain ⟨y4, _, s4, _⟩ := z
        exact .inl (.inl (s4 _ _ hl))
      · obtain ⟨y4, rfl, s4, hb⟩ := z
        obtain ⟨h, hh, rfl⟩ := get_ints hx
        have blen := below_len ((bellRow i).take j) [(bellRow i).getLastD 0]
        have tl : ((bellRow i).take j).length ≤ 9 := by rw [List.length_take, bl]; omega
        have e : (((bellRow i).take (j + 1)).foldl (fun acc x => acc ++ [acc.getLastD 0 + x]) [(bellRow i).getLastD 0]) = (((bellRow i).take j).foldl (fun acc x => acc ++ [acc.getLastD 0 + x]) [(bellRow i).getLastD 0]) ++ [(((bellRow i).take j).foldl (fun acc x => acc ++ [acc.getLastD 0 + x]) [(bellRow i).getLastD 0]).getLastD 0 + h] := by
          rw [List.take_add_one, hh, List.foldl_append]; rfl
        rw [e]
        generalize ((bellRow i).take j).foldl (fun acc x => acc ++ [acc.getLastD 0 + x]) [(bellRow i).getLastD 0] = acc at blen hb
        have al : 0 < acc.length ∧ acc.length ≤ 10 := by simp only [List.length_cons, List.length_nil] at blen; omega
        refine ⟨.ref b, rfl, .inl ⟨rfl, _, .inl (.inl hb)⟩, .ref b, rfl, _, rfl, b, _, _, _, rfl, rfl, .inl (.inl hb), last_at al.1, .int h, rfl, _, _, rfl, rfl, b, _, _, rfl, rfl, hb, by rw [List.length_map, sizeLine_eq]; omega, _, rfl, fun c o ec => ?_, ?_⟩
        · have : c ≠ b := fun z => by
            rw [z, nb] at ec; cases ec
          rw [upd_ne this]
          exact s4 c o ec
        · rw [upd_same, List.map_append]; rfl
      · obtain ⟨y4, rfl, s4, hb⟩ := z
        rw [List.length_map, List.take_length] at hb
        exact ⟨.ref b, rfl, b, _, _, _, rfl, s2.trans s4, hb⟩
    · obtain ⟨l, y2, y3, y4, rfl, s2, hl⟩ := z
      have e : ((n : Int) - 1).toNat = n - 1 := by omega
      rw [e] at hl
      exact ⟨.ref l, rfl, _, rfl, l, _, _, _, rfl, rfl, .inl (.inl hl), last_at (by rw [bell_len]; omega), k H2 s2⟩
end
end Jc
namespace Jc
open PySem PySem.Spec L2
open PyProof.Rows hiding St
open Jg
def mxI (c : List Int) : Int := c.foldl max 0
def growC (c : List Int) : List (List Int) := (List.range (mxI c + 2).toNat).map fun i : Nat => c ++ [(i : Int)]
def allR : Nat → List (List Int)
  | 0 => [[0]]
  | k + 1 => (allR k).flatMap growC
/-- the check of a row beside the next one, by a walk that keeps no frames -/
def linB (m : Nat) : List (List Int) → Bool
  | [] => true
  | c :: r => (decide (c.length = m) && decide (num c = c) && decide (nextC c = r.head?)) && linB m r
theorem lin_of {m : Nat} : ∀ {rs : List (List Int)}, linB m rs = true → Lin m rs
  | [], _ => trivial
  | c :: r, h => by
    unfold linB at h
    simp only [Bool.and_eq_true, decide_eq_true_eq] at h
    exact ⟨h.1.1.1, h.1.1.2, h.1.2, lin_of h.2⟩
/-- from a linked list of rows to the program's own -/
theorem iter_of : ∀ (n : Nat) (c : List Int) (r : List (List Int)) (m : Nat), Lin m (c :: r) → r.length < n → iterR n c = c :: r
  | 0, _, _, _, _, h => absurd h (Nat.not_lt_zero _)
  | n + 1, c, r, m, h, hn => by
    obtain ⟨_, _, h3, h4⟩ := h
    unfold iterR
    rw [h3]
    cases r with
    | nil => rfl
    | cons d r =>
      show c :: iterR n d = _
      rw [iter_of n d r m h4 (by rw [List.length_cons] at hn; omega)]
def rowB (k : Nat) (c : List Int) : Bool := decide (c.length = k + 1) && c.all fun x => decide (0 ≤ x ∧ x ≤ (k : Int))
def allB (k : Nat) : Bool := linB (k + 1) (allR k) && decide ((allR k).head? = some (List.replicate (k + 1) 0)) && (allR k).all (rowB k) && decide ((allR k).length = ((bellRow k).getLastD 0).toNat) && decide ((allR k).length < 5000) && decide (0 ≤ (bellRow k).getLastD 0) && decide ((allR k).getLast? = some (upto (k + 1)))
theorem allB6 : ∀ k ∈ List.range 7, allB k = true := by decide +kernel
theorem allB7 : allB 7 = true := by decide +kernel
end Jc
namespace Jc
open PySem PySem.Spec L2
open PyProof.Rows hiding St
open Jg
/-! ### list(d.values()) -/
def tListVals (te : TE) : TE := fun σ H Q => te σ H fun x H1 => ∃ (d : Addr) (kvs : List (Key × V)), x = .ref d ∧ H1 d = some (.dK kvs) ∧ ∀ p, H1 p = none → Q (.ref p) (upd H1 p (.lst (kvs.map (·.2))))
theorem pe_listVals {X : Cx} {e : Expr} {te : TE} {p apos cpos pos : Pos} (calm : X.calm = true) (he : PE X e te) (gl : Gl X "list") (nm : X.mg "list" = none) (bl : bootBuiltins "list" = some (.type "list")) (base : attributeBase e "values" X.env (eval e X.env) = eval e X.env := by rfl) (line : (apos.endLine == cpos.line) = true := by rfl)
    (st : starEach [.Call (.Attribute e "values" apos) [] [] cpos] X.env = (false, eval (.Call (.Attribute e "values" apos) [] [] cpos) X.env) :: starEach [] X.env := by rfl) :
    PE X (.Call (.Name "list" p) [.Call (.Attribute e "values" apos) [] [] cpos] [] pos) (tListVals te) := by
  constructor
  intro pins s σ H Q I want
  refine wpAny_Call_Name_kw (ld_blt I gl nm bl (PyProof.Rows.callWith_type1 ?_ st rfl))
  rw [st]
  refine show wpAny _ _ (spliced ((false, eval (.Call (.Attribute e "values" apos) [] [] cpos) X.env) :: backTo pos (starEach [] X.env))) _ _ s from Calls.spliced_cons (wpAny_Call_method (T := "dict") (id := "dict.values") base rfl line F.plainAttrs_dict F.slot_dict_values F.type_dict_values (thn (he.run pins s σ H _ I want) fun u t z => ?_))
  obtain ⟨x, G, J, rx, d, ents, rfl, at_, more⟩ := z
  cases rx
  obtain ⟨small, sys, vals, pair, isD⟩ := J.hok d _ at_
  have same := Paired.length pair
  obtain ⟨ep, lies⟩ := isD.dictAt
  refine ⟨isD.typeIs, isD.mapOf.noDict, show wpAny _ _ (callWith cpos (.builtin "dict.values") [.ref d] [] []) _ X.xe t from method_meetsIn F.slot_dict_values F.entry_dict_values rfl (PySem.evalArgs_none ⟨rfl, isD.typeIs, F.args_dict_values_1 _, _, meets_dict_values (mixKind X.prog X.w) d sys, ⟨vals, isD⟩, Calls.spliced_nil ?_⟩)⟩
  have J2 : Inv X pins σ G { t with heap := t.heap.push { cls := .type "dict_values", data := .fields #[.ref d] } } := J.kept (t' := t.toks) fun _ _ q => Heap.get?_push_of_some _ q
  refine PySem.W.kdl_call (PySem.W.kdl_values (knd := mixKind X.prog X.w) (kvs := vals) (ep := ep)) (J.ok.hd calm) ⟨⟨_, Heap.get?_push_size _ rfl, rfl, rfl⟩, lies.push _⟩ (by omega) fun h2 tk acc c keep new its => ?_
  refine ⟨.ref _, upd G _ (.lst (ents.map (·.2))), J2.laid (t' := tk) keep (Nat.le_refl _) (show ObjOk X.prog X.w _ _ _ (.lst (ents.map (·.2))) from ⟨by rw [List.length_map]; omega, acc.toList, c, ?_, by rw [Array.toArray_toList]; exact new⟩), rfl, more _ (J2.hok.fresh (Nat.le_refl _))⟩
  have many := its.1
  refine vals_of_at (by rw [List.length_map, same, ← many]; exact Array.length_toList.symm) fun j y v h1 h2 => ?_
  obtain ⟨k, there⟩ := its.2 j v (by rw [← Array.getElem?_toList]; exact h2)
  rw [List.getElem?_map] at h1
  obtain ⟨q, hq, rfl⟩ := Option.map_eq_some_iff.mp h1
  obtain ⟨r, hr, _, rel⟩ := LiI.paired_get pair hq
  rw [there] at hr
  cases hr
  exact rel
/-! ### the law's own rows -/
structure TL (H : Hp) (a : Addr) (L : List (Addr × List Int)) : Prop where
  lst : H a = some (.lst (L.map fun x => V.ref x.1))
  at_ : ∀ x ∈ L, H x.1 = some (.tup (x.2.map V.int))
theorem TL.same {H H2 : Hp} {a : Addr} {L : List (Addr × List Int)} (s : Same H H2) (h : TL H a L) : TL H2 a L := ⟨s _ _ h.lst, fun x hx => s _ _ (h.at_ x hx)⟩
theorem tl_of {H : Hp} {f : Nat → List Int} : ∀ {ys : List V} {k : Nat}, (∀ i y, ys[i]? = some y → ∃ t : Addr, y = .ref t ∧ H t = some (.tup ((f (k + i)).map V.int))) →
    ∃ L : List (Addr × List Int), ys = L.map (fun x => V.ref x.1) ∧ (∀ x ∈ L, H x.1 = some (.tup (x.2.map V.int))) ∧ L.map (·.2) = (List.range' k ys.length).map f
  | [], k, _ => ⟨[], rfl, fun x hx => absurd hx (by simp), rfl⟩
  | y :: ys, k, h => by
    obtain ⟨t, rfl, ht⟩ := h 0 y rfl
    obtain ⟨L, e1, e2, e3⟩ := tl_of (ys := ys) (k := k + 1) fun i z hz => by
      have := h (i + 1) z hz
      rw [show k + (i + 1) = k + 1 + i by omega] at this
      exact this
    refine ⟨(t, f k) :: L, by rw [e1]; rfl, fun x hx => ?_, ?_⟩
    · rcases List.mem_cons.mp hx with rfl | hx
      · exact ht
      · exact e2 x hx
    · rw [List.length_cons, List.range'_succ, List.map_cons, List.map_cons, e3]
def spLall : Sp := fun vs H Q _ => ∃ lot : Nat, vs = [.int (lot : Int)] ∧ 1 ≤ lot ∧ lot ≤ 8 ∧ ∀ (q : Addr) (H2 : Hp) (L : List (Addr × List Int)), Same H H2 → TL H2 q L → L.map (·.2) = allR (lot - 1) → Q (.ref q) H2
theorem mx_ge : ∀ (c : List Int) (a : Int), a ≤ c.foldl max a ∧ ∀ x ∈ c, x ≤ c.foldl max a
  | [], a => ⟨Int.le_refl _, fun x hx => absurd hx (by simp)⟩
  | y :: c, a => by
    obtain ⟨h1, h2⟩ := mx_ge c (max a y)
    rw [List.foldl_cons]
    refine ⟨by omega, fun x hx => ?_⟩
    rcases List.mem_cons.mp hx with rfl | hx
    · omega
    · exact h2 x hx
theorem mx_in : ∀ (c : List Int) (a : Int), c.foldl max a = a ∨ c.foldl max a ∈ c
  | [], a => .inl rfl
  | y :: c, a => by
    rw [List.foldl_cons]
    rcases mx_in c (max a y) with h | h
    · rcases (by omega : max a y = a ∨ max a y = y) with e | e
      · rw [e] at h; rw [e]; exact .inl h
      · rw [e] at h; rw [e, h]; exact .inr List.mem_cons_self
    · exact .inr (List.mem_cons_of_mem _ h)
theorem mx_uniq {c : List Int} {m : Int} (h0 : ∀ x ∈ c, 0 ≤ x) (hm : m ∈ c) (hle : ∀ y ∈ c, y ≤ m) : m = mxI c := by
  have h1 := (mx_ge c 0).2 m hm
  have h2 := h0 m hm
  unfold mxI
  rcases mx_in c 0 with e | e
  · omega
  · have := hle _ e
    omega
structure RowOk (k : Nat) (c : List Int) : Prop where
  len : c.length = k + 1
  val : ∀ x ∈ c, 0 ≤ x ∧ x ≤ (k : Int)
structure AllOk (k : Nat) : Prop where
  lin : Lin (k + 1) (allR k)
  head : (allR k).head? = some (List.replicate (k + 1) 0)
  row : ∀ c ∈ allR k, RowOk k c
  len : (allR k).length = ((bellRow k).getLastD 0).toNat
  few : (allR k).length < 5000
  pos : 0 ≤ (bellRow k).getLastD 0
  last : (allR k).getLast? = some (upto (k + 1))
theorem all_ok {k : Nat} (hk : k ≤ 7) : AllOk k := by
  have h : allB k = true := by
    by_cases h7 : k = 7
    · subst h7; exact allB7
    · exact allB6 k (List.mem_range.mpr (by omega))
  unfold allB at h
  simp only [Bool.and_eq_true, decide_eq_true_eq] at h
  obtain ⟨⟨⟨⟨⟨⟨h1, h2⟩, h3⟩, h4⟩, h5⟩, h6⟩, h7⟩ := h
  refine ⟨lin_of h1, h2, fun c hc => ?_, h4, h5, h6, h7⟩
  have z := List.all_eq_true.mp h3 c hc
  unfold rowB at z
  simp only [Bool.and_eq_true, decide_eq_true_eq, List.all_eq_true] at z
  exact ⟨z.1, z.2⟩
theorem rows_all {n : Nat} (h1 : 1 ≤ n) (h8 : n ≤ 8) : rowsOf n = allR (n - 1) := by
  obtain ⟨k, rfl⟩ : ∃ k, n = k + 1 := ⟨n - 1, by omega⟩
  have A := all_ok (k := k) (by omega)
  show _ = allR k
  cases e : allR k with
  | nil =>
    have z := A.head
    rw [e] at z; cases z
  | cons c r =>
    have z := A.head
    rw [e] at z
    cases z
    have l := A.lin
    have f := A.few
    rw [e] at l f
    exact iter_of 5000 _ r (k + 1) l (by rw [List.length_cons] at f; omega)
theorem linR8 : ∀ m, 1 ≤ m → m ≤ 8 → LinR m := fun m h1 h8 => by
  have A := all_ok (k := m - 1) (by omega)
  have e : m - 1 + 1 = m := by omega
  refine ⟨?_, ?_⟩
  · rw [rows_all h1 h8]
    have z := A.lin
    rw [e] at z; exact z
  · rw [rows_all h1 h8]
    have z := A.head
    rw [e] at z; exact z
end Jc
namespace Jc
open PySem PySem.Spec L2
open PyProof.Rows hiding St
open Jg
/-! ### dicts of ints by ints -/
abbrev EntI := List (Int × Int)
def encE (c : EntI) : List (Key × V) := c.map fun p => (Sum.inl p.1, V.int p.2)
def lookI (c : EntI) (k : Int) : Option Int := (c.find? fun p => decide (p.1 = k)).map (·.2)
def putI (c : EntI) (k v : Int) : EntI := if (c.any fun p => decide (p.1 = k)) = true then c.map (fun p => if p.1 = k then (p.1, v) else p) else c ++ [(k, v)]
theorem val_enc (c : EntI) (k : Int) : valV (encE c) (Sum.inl k : Key) = (lookI c k).map V.int := by
  unfold valV lookI encE
  rw [List.find?_map, Option.map_map, Option.map_map]
  have e : ((fun kv : Key × V => decide (kv.1 = Sum.inl k)) ∘ fun p : Int × Int => ((Sum.inl p.1 : Key), V.int p.2)) = fun p => decide (p.1 = k) := by
    funext p
    simp
  rw [e]
  rfl
theorem put_enc (c : EntI) (k v : Int) : putK (encE c) (Sum.inl k : Key) (.int v) = encE (putI c k v) := by
  unfold putK putI encE
  have e : ((c.map fun p : Int × Int => ((Sum.inl p.1 : Key), V.int p.2)).any fun kv => decide (kv.1 = Sum.inl k)) = c.any fun p => decide (p.1 = k) := by
    rw [List.any_map]
    congr 1
    funext p
    simp
  rw [e]
  split
  · rw [List.map_map, List.map_map]
    congr 1
    funext p
    by_cases h : p.1 = k
    · simp [h]
    · simp [h]
  · rw [List.map_append]; rfl
theorem put_len (c : EntI) (k v : Int) : (putI c k v).length ≤ c.length + 1 := by
  unfold putI
  split
  · rw [List.length_map]; omega
  · rw [List.length_append]; exact Nat.le_refl _
def getI (c : EntI) (k : Int) : Int := (lookI c k).getD 0
theorem getD_enc (c : EntI) (k : Int) : ((lookI c k).map V.int).getD (.int 0) = .int (getI c k) := by
  unfold getI
  cases lookI c k <;> rfl
def stepC (later : EntI) (p : Int × Int) : EntI :=
  let l1 := putI later p.1 (getI later p.1 + p.1 * p.2)
  putI l1 (p.1 + 1) (getI l1 (p.1 + 1) + p.2)
def cntR : Nat → EntI
  | 0 => [(1, 1)]
  | k + 1 => (cntR k).foldl stepC []
theorem step_len (l : EntI) (p : Int × Int) : (stepC l p).length ≤ l.length + 2 := by
  unfold stepC
  have h1 := put_len l p.1 (getI l p.1 + p.1 * p.2)
  have h2 := put_len (putI l p.1 (getI l p.1 + p.1 * p.2)) (p.1 + 1) (getI (putI l p.1 (getI l p.1 + p.1 * p.2)) (p.1 + 1) + p.2)
  dsimp only
  omega
theorem fold_len : ∀ (xs l : EntI), (xs.foldl stepC l).length ≤ l.length + 2 * xs.length
  | [], l => by simp
  | x :: xs, l => by
    have h1 := fold_len xs (stepC l x)
    have h2 := step_len l x
    rw [List.foldl_cons, List.length_cons]
    omega
theorem cnt_facts : ∀ k ∈ List.range 8, (cntR k).length = k + 1 ∧ ((cntR k).map (·.2)).sum = (bellRow k).getLastD 0 ∧ ∀ p ∈ cntR k, 0 ≤ p.1 ∧ p.1 ≤ 9 := by decide +kernel
theorem op_catTK {X : Cx} {K : PySem.W.Frag} (h : X.K = K) : OpR X (binaryOp .Add) (rCatT K) := by subst h; exact op_catT
def spLcount : Sp := fun vs H Q _ => ∃ lot : Nat, vs = [.int (lot : Int)] ∧ 1 ≤ lot ∧ lot ≤ 8 ∧ ∀ (H2 : Hp), Same H H2 → Q (.int ((bellRow (lot - 1)).getLastD 0)) H2
section
variable {P : Program} {w : World} {K : PySem.W.Frag} {mg : Str → Option Value} {base : Heap} {f C : Addr} {fd : FuncData} {t1 : Tok}
abbrev s_lall : Stmt := topS 30
abbrev N_lall : List Str := ["_law_lot", "_law_rows", "_law_turn", "_law_longer", "_law_row", "_law_number"]
theorem sc_lall : FnScope N_lall ["_law_lot"] (defScope s_lall) := ⟨rfl, rfl, rfl, by decide +kernel, rfl, by decide +kernel, by decide +kernel⟩
theorem ok_lall (F : Fun K "_law_all" "_law_all" s_lall f fd) (B : Blt mg) : FnG P w K mg base 1 f fd ["_law_lot"] spLall := by
  refine fnG_of F sc_lall (fun vs H Q E h => ?_) (fun us hl => ?_) (fun cdv A outer s H vs Q hr hq h => ?_)
  · obtain ⟨lot, rfl, _⟩ := h
    rfl
  · match us, hl with
    | [_], _ => rfl
  · obtain ⟨lot, rfl, n1, n8, q⟩ := h
    refine ⟨_, (pss_cons (ps_set (i := 1) sc_lall.nd rfl (.inl rfl) (pe_lst (pa_cons (pe_tup (pa_cons pe_int pa_nil)) pa_nil)))
      (pss_cons (ps_for PassesOwn.never rfl (pi_range1 rfl B.range (pa_cons (pe_op op_sub (pv 0) pe_int) pa_nil)) (pg_name (i := 2) sc_lall.nd rfl (.inl rfl))
        (pss_cons (ps_set (i := 3) sc_lall.nd rfl (.inl rfl) (pe_lst pa_nil))
        (pss_cons (ps_for PassesOwn.never rfl (pi_list (pv 1)) (pg_name (i := 4) sc_lall.nd rfl (.inr rfl)) (pss_one (ps_expr (pe_bm PySem.F.plainAttrs_list PySem.F.slot_list_extend PySem.F.type_list_extend mt_extend (pv 3) (pa_cons (pe_lc (own := [("_law_number", 5)]) (g := gName 5) rfl sc_lall.nd (pi_range1 rfl B.range (pa_cons (pe_op op_add (pe_callB (cr_maxT rfl) rfl B.max bo_max (pa_cons (pv 4) pa_nil)) pe_int) pa_nil)) (blkOk_by (own := [("_law_number", 5)]) (N := N_lall) (sc := defScope s_lall) (by decide +kernel)) (fun _ _ _ _ _ => pg_name (i := 5) sc_lall.nd rfl (.inl rfl)) (fun _ _ _ _ _ => pts_nil) (fun _ _ _ _ _ => (pe_op (op_catTK (K := K) rfl) (pv 4) (pe_tup (pa_cons (pv 5) pa_nil))))) pa_nil)))))
        (pss_one (ps_set (i := 1) sc_lall.nd rfl (.inl rfl) (pv 3))))))
      (pss_one (ps_ret (pv 1))))), ?_⟩
    refine ⟨le_line (by show (1 : Nat) ≤ 1000000; decide), fun t0 nt0 => ⟨le_line (by show (1 : Nat) ≤ 1000000; decide), fun l nl => ?_⟩⟩
    have s0 : Same H (upd (upd H t0 (.tup [.int 0])) l (.lst [.ref t0])) := (same_new nt0).trans (same_new nl)
    have nlt : t0 ≠ l := fun z => by rw [← z, upd_same] at nl; cases nl
    have T0 : TL (upd (upd H t0 (.tup [.int 0])) l (.lst [.ref t0])) l [(t0, [0])] := ⟨upd_same, fun x hx => by
      rw [List.mem_singleton.mp hx, upd_ne nlt]; exact upd_same⟩
    generalize upd (upd H t0 (.tup [.int 0])) l (.lst [.ref t0]) = H1 at s0 T0
    refine ⟨.int lot, rfl, lot, 1, rfl, rfl, (lot : Int) - 1, rfl, by omega, by omega, for_range (n := ((lot : Int) - 1).toNat) (fun i σ H2 => ∃ l L y2 y3 y4 y5, σ = [some (.int (lot : Int)), some (.ref l), y2, y3, y4, y5] ∧ Same H H2 ∧ TL H2 l L ∧ L.map (·.2) = allR i) ⟨l, _, _, _, _, _, rfl, s0, T0, rfl⟩ (fun i σ H2 hi z => ?_) fun σ H2 z => ?_⟩
    · obtain ⟨l, L, y2, y3, y4, y5, rfl, s2, hT, eL⟩ := z
      have A7 := all_ok (k := i + 1) (by omega)
      have A6 := all_ok (k := i) (by omega)
      refine ⟨Nat.zero_le _, fun b nb => ?_⟩
      have s3 : Same H2 (upd H2 b (.lst [])) := same_new nb
      refine ⟨.ref l, rfl, l, rfl, ⟨_, .inl (.inl (s3 _ _ hT.lst))⟩, for_list (xs := L.map fun x => V.ref x.1) (fun j σ H3 => ∃ M y4 y5, σ = [some (.int (lot : Int)), some (.ref l), some (.int (0 + (i : Int))), some (.ref b), y4, y5] ∧ Same H2 H3 ∧ TL H3 b M ∧ M.map (·.2) = ((allR i).take j).flatMap growC) ⟨[], _, _, rfl, s3, ⟨upd_same, fun x hx => absurd hx (by simp)⟩, rfl⟩ (fun j σ H3 _ z => ?_) (fun j x σ H3 hx z => ?_) fun σ H3 z => ?_⟩
      · obtain ⟨_, _, _, _, s4, _⟩ := z
        exact .inl (.inl (s4 _ _ hT.lst))
      · obtain ⟨M, y4, y5, rfl, s4, hM, eM⟩ := z
        obtain ⟨⟨t, c⟩, hxj, rfl⟩ : ∃ z, L[j]? = some z ∧ x = .ref z.1 := by
          rw [List.getElem?_map] at hx
          cases e : L[j]? with
          | none => rw [e] at hx; cases hx
          | some z => rw [e] at hx; exact ⟨z, rfl, (Option.some.inj hx).symm⟩
        have hcj : (allR i)[j]? = some c := by rw [← eL, List.getElem?_map, hxj]; rfl
        have hc := A6.row c (List.mem_of_getElem? hcj)
        have ht : H3 t = some (.tup (c.map V.int)) := s4 _ _ (hT.at_ _ (List.mem_of_getElem? hxj))
        have eT : (allR (i + 1)) = ((allR i).take (j + 1)).flatMap growC ++ ((allR i).drop (j + 1)).flatMap growC := by
          rw [← List.flatMap_append, List.take_append_drop]; rfl
        have e1 : ((allR i).take (j + 1)).flatMap growC = ((allR i).take j).flatMap growC ++ growC c := by
          rw [List.take_add_one, hcj, List.flatMap_append]
          show _ ++ [c].flatMap growC = _
          rw [List.flatMap_singleton]
        have hz : M.length + (growC c).length < 5000 := by
          have z := A7.few
          rw [eT, e1, List.length_append, List.length_append, ← eM, List.length_map] at z
          omega
        refine ⟨.ref b, rfl, .inl ⟨rfl, _, .inl (.inl hM.lst)⟩, .ref t, rfl, t, c, rfl, .inl (.inl ht), by rw [hc.len]; omega, fun m hm hle => ?_⟩
        have em := mx_uniq (fun x hx => (hc.val x hx).1) hm hle
        have mb := hc.val m hm
        have gl : (growC c).length = (m + 2).toNat := by unfold growC; rw [List.length_map, List.length_range, ← em]
        refine ⟨m, 2, rfl, rfl, m + 2, rfl, by omega, by omega, fun D hD => ?_⟩
        refine lc_rel walk_range (fun k y Hx => ∃ u : Addr, y = .ref u ∧ u ≠ D ∧ Hx u = some (.tup ((c ++ [((0 + k : Nat) : Int)]).map V.int))) (by omega) hD (fun k y Ha Hb kp ⟨u, e1, e2, e3⟩ => ⟨u, e1, e2, kp u _ e2 e3⟩) (fun _ _ => trivial) ?_ ?_
        · rintro k x Ha Hb kk hk sa ⟨ys, hy⟩ ⟨rfl, rfl⟩ ky
          refine ⟨rfl, .ref t, rfl, .int (0 + (k : Int)), rfl, le_line (by show (1 : Nat) ≤ 1000000; decide), fun u nu => ?_⟩
          have su : Same Hb (upd Hb u (.tup [.int (0 + (k : Int))])) := same_new nu
          refine ⟨t, u, c.map V.int, [.int (0 + (k : Int))], rfl, rfl, .inl (.inl (su _ _ (sa _ _ ht))), .inl (.inl upd_same), fun z => ?_, ?_, (fun z => nomatch z), fun _ v nv => ky _ _ (su.trans (same_new nv)) ⟨v, rfl, fun z => ?_, ?_⟩⟩
          · have := congrArg List.length z
            rw [List.length_map, hc.len] at this
            cases this
          · rw [List.length_map, hc.len, sizeLine_eq]
            show i + 1 + 1 ≤ _
            omega
          · rw [z, su _ _ hy] at nv; cases nv
          · rw [upd_same, List.map_append]
            have e0 : (0 : Int) + (k : Int) = ((0 + k : Nat) : Int) := by omega
            rw [e0]; rfl
        · intro ys Hc hl hRs sc hy
          obtain ⟨N, n1, n2, n3⟩ := tl_of (f := fun k => c ++ [(k : Int)]) (k := 0) fun k y hk => by
            obtain ⟨u, e1, _, e3⟩ := hRs k y hk
            exact ⟨u, e1, e3⟩
          have hb : Hc b = _ := sc _ _ hM.lst
          refine ⟨b, D, _, _, rfl, rfl, hb, hy, by rw [List.length_map, hl, sizeLine_eq]; omega, ?_⟩
          refine ⟨M ++ N, _, _, rfl, fun a o ea => ?_, ⟨?_, fun x hx => ?_⟩, ?_⟩
          · have : a ≠ b := fun z => by rw [z, nb] at ea; cases ea
            rw [upd_ne this]
            exact sc _ _ (s4 a o ea)
          · rw [upd_same, n1, List.map_append]
          · have hx' : Hc x.1 = some (.tup (x.2.map V.int)) := by
              rcases List.mem_append.mp hx with hx | hx
              · exact sc _ _ (hM.at_ x hx)
              · exact n2 x hx
            rw [upd_ne (ne_of hx' hb (by simp))]
            exact hx'
          · rw [List.map_append, eM, e1, n3, hl]
            unfold growC
            rw [← em, List.range_eq_range']
      · obtain ⟨M, y4, y5, rfl, s4, hM, eM⟩ := z
        rw [List.length_map, ← List.length_map (f := (·.2)), eL, List.take_length] at eM
        exact ⟨.ref b, rfl, b, M, _, _, _, _, rfl, s2.trans s4, hM, eM⟩
    · obtain ⟨l, L, y2, y3, y4, y5, rfl, s2, hT, eL⟩ := z
      have e : ((lot : Int) - 1).toNat = lot - 1 := by omega
      rw [e] at eL
      exact ⟨.ref l, rfl, q l H2 L s2 hT eL⟩
abbrev s_lcount : Stmt := topS 31
abbrev N_lcount : List Str := ["_law_lot", "_law_counts", "_law_turn", "_law_later", "_law_groups", "_law_amount"]
theorem sc_lcount : FnScope N_lcount ["_law_lot"] (defScope s_lcount) := ⟨rfl, rfl, rfl, by decide +kernel, rfl, by decide +kernel, by decide +kernel⟩
theorem ok_lcount (F : Fun K "_law_count" "_law_count" s_lcount f fd) (B : Blt mg) : FnG P w K mg base 1 f fd ["_law_lot"] spLcount := by
  refine fnG_of F sc_lcount (fun vs H Q E h => ?_) (fun us hl => ?_) (fun cdv A outer s H vs Q hr hq h => ?_)
  · obtain ⟨lot, rfl, _⟩ := h
    rfl
  · match us, hl with
    | [_], _ => rfl
  · obtain ⟨lot, rfl, n1, n8, q⟩ := h
    have hu := Nat.lt_of_le_of_lt (Nat.add_le_add_left (show 1 ≤ 64 by decide) _) hr.units
    refine ⟨_, (pss_cons (ps_set (i := 1) sc_lcount.nd rfl (.inl rfl) (pe_disp (pps_cons pe_int pe_int pps_nil) rfl rfl (by simp) (by decide)))
      (pss_cons (ps_for PassesOwn.never rfl (pi_range1 rfl B.range (pa_cons (pe_op op_sub (pv 0) pe_int) pa_nil)) (pg_name (i := 2) sc_lcount.nd rfl (.inl rfl))
        (pss_cons (ps_set (i := 3) sc_lcount.nd rfl (.inl rfl) pe_dnewK)
        (pss_cons (ps_lock (ps_for PassesOwn.never rfl (pi_items (pv 1)) (pg_tupK (K := K) (n := 2) rfl rfl (pgs_cons (pg_name (i := 4) sc_lcount.nd rfl (.inl rfl)) (pgs_cons (pg_name (i := 5) sc_lcount.nd rfl (.inl rfl)) pgs_nil)))
          (pss_cons (ps_dput hu (pv 3) (pv 4) (pe_op op_add (pe_dget2 hu (pv 3) (pv 4) pe_int ⟨rfl, rfl, rfl, rfl⟩) (pe_op op_mul (pv 4) (pv 5))) rfl)
          (pss_one (ps_dput hu (pv 3) (pe_op op_add (pv 4) pe_int) (pe_op op_add (pe_dget2 hu (pv 3) (pe_op op_add (pv 4) pe_int) pe_int ⟨rfl, rfl, rfl, rfl⟩) (pv 5)) rfl)))))
        (pss_one (ps_set (i := 1) sc_lcount.nd rfl (.inl rfl) (pv 3))))))
      (pss_one (ps_ret (pe_callB (cr_sum rfl) rfl B.sum bo_sum (pa_cons (pe_listVals rfl (pv 1) rfl B.list bo_list) pa_nil)))))), ?_⟩
    refine fun p np => ⟨upd_same, [(Sum.inl 1, .int 1)], rfl, by decide, ?_⟩
    have s0 : Same H (upd (upd H p (.dK [])) p (.dK (mergeK [] [(Sum.inl 1, .int 1)]))) := same_mut (same_new np) np
    have d0 : upd (upd H p (.dK [])) p (.dK (mergeK [] [(Sum.inl 1, .int 1)])) p = some (.dK (encE (cntR 0))) := upd_same
    generalize upd (upd H p (.dK [])) p (.dK (mergeK [] [(Sum.inl 1, .int 1)])) = H1 at s0 d0
    refine ⟨.int lot, rfl, lot, 1, rfl, rfl, (lot : Int) - 1, rfl, by omega, by omega, for_range (n := ((lot : Int) - 1).toNat) (fun i σ H2 => ∃ d y2 y3 y4 y5, σ = [some (.int (lot : Int)), some (.ref d), y2, y3, y4, y5] ∧ Same H H2 ∧ H2 d = some (.dK (encE (cntR i)))) ⟨p, _, _, _, _, rfl, s0, d0⟩ (fun i σ H2 hi z => ?_) fun σ H2 z => ?_⟩
    · obtain ⟨d, y2, y3, y4, y5, rfl, s2, hd⟩ := z
      have cl := (cnt_facts i (List.mem_range.mpr (by omega))).1
      refine fun l nl => ?_
      have hld : l ≠ d := fun z => by rw [z, hd] at nl; cases nl
      refine ⟨d, .dK (encE (cntR i)), (upd_ne (Ne.symm hld)).trans hd, trivial, fun od => ?_⟩
      have hk0 : ∀ b o, b ≠ d → H2 b = some o → upd (upd H2 l (.dK [])) d (.frz od (.dK (encE (cntR i)))) b = some o := fun b o hb e => by
        rw [upd_ne hb]; exact same_new nl b o e
      have hl0 : upd (upd H2 l (.dK [])) d (.frz od (.dK (encE (cntR i)))) l = some (.dK (encE [])) := by rw [upd_ne hld]; exact upd_same
      have hd0 : upd (upd H2 l (.dK [])) d (.frz od (.dK (encE (cntR i)))) d = some (.frz od (.dK (encE (cntR i)))) := upd_same
      generalize upd (upd H2 l (.dK [])) d (.frz od (.dK (encE (cntR i)))) = H3 at hk0 hl0 hd0
      refine ⟨.ref d, rfl, d, od, _, rfl, hd0, for_it walk_items (fun j σ H4 => ∃ y4 y5, σ = [some (.int (lot : Int)), some (.ref d), some (.int (0 + (i : Int))), some (.ref l), y4, y5] ∧ (∀ b o, b ≠ d → H2 b = some o → H4 b = some o) ∧ H4 d = some (.frz od (.dK (encE (cntR i)))) ∧ H4 l = some (.dK (encE (((cntR i).take j).foldl stepC [])))) ⟨_, _, rfl, hk0, hd0, hl0⟩ (fun j σ H4 _ z => ?_) (fun j x σ H4 H5 hj z y => ?_) fun σ H4 z => ?_⟩
      · obtain ⟨_, _, _, _, h, _⟩ := z
        exact h
      · obtain ⟨y4, y5, rfl, k4, d4, l4⟩ := z
        obtain ⟨T, xk, xv, rfl, nT, rfl, ek, ev⟩ := y
        have hj' : j < (cntR i).length := by
          have z : (encE (cntR i)).length = (cntR i).length := by unfold encE; rw [List.length_map]
          omega
        obtain ⟨⟨g, am⟩, hp⟩ : ∃ p, (cntR i)[j]? = some p := ⟨_, List.getElem?_eq_getElem hj'⟩
        have ee : (encE (cntR i))[j]? = some (Sum.inl g, .int am) := by unfold encE; rw [List.getElem?_map, hp]; rfl
        dsimp only at ek ev
        rw [ee] at ek ev
        obtain rfl : V.int g = xk := Option.some.inj ek
        obtain rfl : V.int am = xv := Option.some.inj ev
        have eS : ((cntR i).take (j + 1)).foldl stepC [] = stepC (((cntR i).take j).foldl stepC []) (g, am) := by
          rw [List.take_add_one, hp, List.foldl_append]; rfl
        have fl := fold_len ((cntR i).take j) []
        have tl : ((cntR i).take j).length ≤ 8 := by rw [List.length_take, cl]; omega
        rw [eS]
        generalize ((cntR i).take j).foldl stepC [] = lt at l4 fl
        have ll : lt.length ≤ 16 := by simp only [List.length_nil] at fl; omega
        have hTl : l ≠ T := fun z => by rw [← z, l4] at nT; cases nT
        have hTd : d ≠ T := fun z => by rw [← z, d4] at nT; cases nT
        have l5 : upd H4 T (.tup [.int g, .int am]) l = some (.dK (encE lt)) := by rw [upd_ne hTl]; exact l4
        have d5 : upd H4 T (.tup [.int g, .int am]) d = some (.frz od (.dK (encE (cntR i)))) := by rw [upd_ne hTd]; exact d4
        have k5 : ∀ b o, b ≠ d → H2 b = some o → upd H4 T (.tup [.int g, .int am]) b = some o := fun b o hb e => same_new nT b o (k4 b o hb e)
        have t5 : upd H4 T (.tup [.int g, .int am]) T = some (.tup [.int g, .int am]) := upd_same
        refine ⟨T, _, rfl, .inl (.inl t5), rfl, _, _, rfl, _, _, rfl, rfl, ?_⟩
        generalize upd H4 T (.tup [.int g, .int am]) = H5 at l5 d5 k5 t5
        have elen : ∀ c : EntI, (encE c).length = c.length := fun c => by unfold encE; rw [List.length_map]
        refine ⟨.ref l, rfl, l, rfl, .inl ⟨_, .inl l5⟩, .int g, rfl, _, DGet.k (k := .inl g) l5, ?_⟩
        rw [val_enc, getD_enc]
        have gb := (cnt_facts i (List.mem_range.mpr (by omega))).2.2 _ (List.mem_of_getElem? hp)
        refine ⟨.int g, rfl, .int am, rfl, g, am, rfl, rfl, .inl ⟨by have := gb.1; dsimp only at this; omega, by have := gb.2; dsimp only at this; omega⟩, _, _, rfl, rfl, ?_⟩
        refine ⟨.ref l, rfl, .int g, rfl, l, _, rfl, DPut.k (k := .inl g) l5 (by rw [elen, sizeLine_eq]; omega), ?_⟩
        rw [put_enc]
        have hTl' : T ≠ l := fun z => by rw [z, l5] at t5; cases t5
        have hl6 : ∀ (c : EntI), upd H5 l (.dK (encE c)) l = some (.dK (encE c)) := fun c => upd_same
        have l6 := hl6 (putI lt g (getI lt g + g * am))
        have pl := put_len lt g (getI lt g + g * am)
        refine ⟨.ref l, rfl, l, rfl, .inl ⟨_, .inl l6⟩, .int g, rfl, g, 1, rfl, rfl, _, DGet.k (k := .inl (g + 1)) l6, ?_⟩
        rw [val_enc, getD_enc]
        refine ⟨.int am, rfl, _, _, rfl, rfl, ?_⟩
        refine ⟨.ref l, rfl, .int g, rfl, g, 1, rfl, rfl, l, _, rfl, DPut.k (k := .inl (g + 1)) l6 (by rw [elen, sizeLine_eq]; omega), ?_⟩
        rw [put_enc]
        refine ⟨_, _, rfl, fun b o hb e => ?_, ?_, upd_same⟩
        · have : b ≠ l := fun z => by rw [z, nl] at e; cases e
          rw [upd_ne this, upd_ne this]
          exact k5 b o hb e
        · rw [upd_ne (Ne.symm hld), upd_ne (Ne.symm hld)]
          exact d5
      · obtain ⟨y4, y5, rfl, k4, d4, l4⟩ := z
        rw [show (encE (cntR i)).length = (cntR i).length by unfold encE; rw [List.length_map], List.take_length] at l4
        refine ⟨d4, .ref l, rfl, l, _, _, _, _, rfl, fun b o e => ?_, ?_⟩
        · by_cases hb : b = d
          · have z := s2 b o e
            rw [hb] at z ⊢
            rw [upd_same, ← hd]; exact z
          · rw [upd_ne hb]; exact k4 b o hb (s2 b o e)
        · rw [upd_ne hld]; exact l4
    · obtain ⟨d, y2, y3, y4, y5, rfl, s2, hd⟩ := z
      have e : ((lot : Int) - 1).toNat = lot - 1 := by omega
      rw [e] at hd
      refine ⟨.ref d, rfl, d, _, rfl, hd, fun a na => ?_⟩
      refine ⟨a, (cntR (lot - 1)).map (·.2), rfl, .inl (.inl ?_), ?_⟩
      · rw [upd_same]
        unfold encE
        rw [List.map_map, List.map_map]; rfl
      · rw [(cnt_facts (lot - 1) (List.mem_range.mpr (by omega))).2.1]
        exact q _ (same_mut s2 (by
          cases z : H a with
          | none => rfl
          | some o => rw [s2 _ _ z] at na; cases na))
end
end Jc
namespace Jc
open PySem PySem.Spec L2
open PyProof.Rows hiding St
open Jg
theorem end_facts : ∀ n ∈ List.range 9, gmOf (upto n) = gmOf (List.replicate n 0) ∧ num (metM (upto n) (List.replicate n 0)) = upto n ∧ decide (num (metM (List.replicate n 0) (upto n)) = List.replicate n 0) = decide (n ≤ 1) := by decide +kernel
def spEnds : Sp := fun vs H Q _ => ∃ lot : Nat, vs = [.int (lot : Int)] ∧ 1 ≤ lot ∧ lot ≤ 8 ∧ ∀ (H2 : Hp), Same H H2 → Q (.bl true) H2
section
variable {P : Program} {w : World} {K : PySem.W.Frag} {mg : Str → Option Value} {base : Heap} {f C : Addr} {fd : FuncData} {t1 : Tok}
abbrev s_ends : Stmt := topS 32
abbrev N_ends : List Str := ["_law_lot", "_law_apart", "_law_whole"]
theorem sc_ends : FnScope N_ends ["_law_lot"] (defScope s_ends) := ⟨rfl, rfl, rfl, by decide +kernel, rfl, by decide +kernel, by decide +kernel⟩
theorem ok_ends (F : Fun K "_law_ends_right" "_law_ends_right" s_ends f fd) (B : Blt mg) (T : PCf K mg C) (N : NeK K C) (cn : Con K C "MOST_HOLDERS" (.int 8) (.int 8 t1)) (M : OwnI P w K mg base C 3 (spInit K C)) (m_apart : OwnCM P w K mg base C "apart" 5 "many" (spCls C upto)) (m_tog : OwnCM P w K mg base C "together" 5 "many" (spCls C fun n => List.replicate n 0))
    (m_is_finer : OwnM P w K mg base C "is_finer" 4 (spFiner C)) (eE : OpF P w K mg base C "__eq__" 1 (spEqP C)) (eR : ReF P w K mg base C) : FnG P w K mg base 6 f fd ["_law_lot"] spEnds := by
  refine fnG_of F sc_ends (fun vs H Q E h => ?_) (fun us hl => ?_) (fun cdv A outer s H vs Q hr hq h => ?_)
  · obtain ⟨lot, rfl, _⟩ := h
    rfl
  · match us, hl with
    | [_], _ => rfl
  · obtain ⟨lot, rfl, n1, n8, q⟩ := h
    obtain ⟨fE, sE, iE, FE⟩ := eE.ex
    obtain ⟨fR, dR, GR, sR, iR, bR⟩ := eR.ex
    obtain ⟨mm, mu, crd, cvl⟩ := T.rd
    have hu := hr.units
    refine ⟨_, (pss_cons (ps_par (i := 1) (j := 2) rfl sc_ends.nd rfl rfl (by decide) rfl rfl (pa_cons (pe_oc (pl := _) (pe_glob (v := .ref C) rfl T.mc rfl) m_apart hr (by decide) (pa_cons (pv 0) pa_nil)) (pa_cons (pe_ocK (pl := _) (pe_glob (v := .ref C) rfl T.mc rfl) m_tog hr (by decide) (pk_cons (pv 0) pk_nil)) pa_nil)) rfl)
      (pss_cons (ps_if (pt_cmpR op_ne (pe_callB (call_reprO GR sR iR bR hq (hr.mono (by decide))) rfl B.repr bo_repr (pa_cons (pe_lst (pa_cons (pv 1) (pa_cons (pv 2) pa_nil))) pa_nil))
          (pe_callB (call_reprO GR sR iR bR hq (hr.mono (by decide))) rfl B.repr bo_repr (pa_cons (pe_lst (pa_cons (pe_oi M hr (by decide) T.mc (pa_cons (pe_listRg rfl rfl B.list (prg_1 rfl B.range (pv 0))) pa_nil)) (pa_cons (pe_oi M hr (by decide) T.mc (pa_cons (pe_op op_rep (pe_lst (pa_cons pe_int pa_nil)) (pv 0)) pa_nil)) pa_nil))) pa_nil)) (nomark _)) (pss_one (ps_ret pe_bl)) pss_nil)
      (pss_cons (ps_if (PW.pt (pw_or (pt_cmpR (op_neOwn N sE iE FE (hr.mono (by decide))) (pe_ocK (pl := _) (pe_glob (v := .ref C) rfl T.mc rfl) m_apart hr (by decide) (pk_cons (pv 0) pk_nil)) (pv 1) (nomark _)) (pw_or (pt_cmpR (op_neOwn N sE iE FE (hr.mono (by decide))) (pe_oc (pl := _) (pe_glob (v := .ref C) rfl T.mc rfl) m_tog hr (by decide) (pa_cons (pv 0) pa_nil)) (pv 2) (nomark _)) (pw_or1 (pt_not (pt_val (pe_om (pv 1) T.cl m_is_finer hr (by decide) (pa_cons (pv 2) pa_nil)))))))) (pss_one (ps_ret pe_bl)) pss_nil)
      (pss_one (ps_ret (pe_and (pe_cmpR op_eq (pe_om (pv 2) T.cl m_is_finer hr (by decide) (pa_cons (pv 1) pa_nil)) (pe_cmpR op_eq (pv 0) pe_int (nomark _)) (nomark _)) (pe_and (pe_cmpR op_eq (ClX.pe_cval (pe_glob (v := .ref C) rfl T.mc rfl)) pe_int (nomark _)) (pe_one (pe_cmpR op_eq (pe_con (pv 2) rfl) pe_int (nomark _)))))))))), ?_⟩
    have EF := end_facts lot (List.mem_range.mpr (by omega))
    refine ⟨rfl, .int lot, rfl, lot, rfl, n1, n8, fun p H1 s1 hp => ⟨rfl, .int lot, rfl, lot, rfl, n1, n8, fun z H2 s2 hz => ⟨_, _, rfl, ?_⟩⟩⟩
    have Pp : PG C lot (gmOf (upto lot)) H2 p (upto lot) := ⟨hp.same s2, upto_len lot, rfl⟩
    have Pz : PG C lot (gmOf (upto lot)) H2 z (List.replicate lot 0) := ⟨hz, List.length_replicate .., EF.1.symm⟩
    have s2' := s1.trans s2
    clear hp hz s1 s2
    refine ⟨.ref p, rfl, .ref z, rfl, le_line (by show (2 : Nat) ≤ 1000000; decide), fun b nb => ?_⟩
    have sb : Same H2 (upd H2 b (.lst [.ref p, .ref z])) := same_new nb
    dsimp only [tNil]
    refine repr_rd upd_same (Pp.same sb) (Pz.same sb) fun H3 s3 => ?_
    have s3' := sb.trans s3
    refine ⟨.int lot, rfl, lot, rfl, RgOk.of_le (by omega) (by omega) (by omega) (by omega), fun l nl => ?_⟩
    rw [rgV_upto]
    refine mk_of' (c := upto lot) upd_same (by rw [upto_len]; exact n1) (by rw [upto_len]; exact n8) (num_upto n8) fun y H5 s5 _ hy => ?_
    have s5' := s3'.trans ((same_new nl).trans s5)
    refine ⟨le_line (by show (1 : Nat) ≤ 1000000; decide), fun l nl => ⟨.int lot, rfl, l, lot, _, rfl, rfl, upd_same, by omega, by omega, le_line (by rw [Int.toNat_natCast]; show 1 * lot ≤ 1000000; omega), fun l2 nl2 => ?_⟩⟩
    have sl : Same H5 (upd (upd H5 l (.lst [.int 0])) l2 (.lst (List.replicate (lot : Int).toNat [V.int 0]).flatten)) := (same_new nl).trans (same_new nl2)
    refine mk_of' (c := List.replicate lot 0) (upd_same.trans ?_) (by rw [List.length_replicate]; exact n1) (by rw [List.length_replicate]; exact n8) (num_zeros n8) fun y2 H6 s6 _ hy2 => ?_
    · simp [List.flatten_replicate_singleton]
    have s6' := sl.trans s6
    refine ⟨le_line (by show (2 : Nat) ≤ 1000000; decide), fun b2 nb2 => ?_⟩
    have sb2 : Same H6 (upd H6 b2 (.lst [.ref y, .ref y2])) := same_new nb2
    dsimp only [tNil]
    refine repr_rd upd_same (⟨(hy.same s6').same sb2, upto_len lot, rfl⟩ : PG C lot (gmOf (upto lot)) _ y (upto lot)) (⟨hy2.same sb2, List.length_replicate .., EF.1.symm⟩ : PG C lot (gmOf (upto lot)) _ y2 (List.replicate lot 0)) fun H7 s7 => ?_
    refine ⟨rfl, _, rfl, iteNS rfl ?_⟩
    have s7' := s5'.trans (s6'.trans (sb2.trans s7))
    have Pp := Pp.same s7'
    have Pz := Pz.same s7'
    have s7'' := s2'.trans s7'
    refine ⟨rfl, .int lot, rfl, lot, rfl, n1, n8, fun p2 H8 s8 hp2 => ?_⟩
    refine ⟨.ref p, rfl, ne_rd (⟨hp2, upto_len lot, rfl⟩ : PG C lot (gmOf (upto lot)) _ p2 (upto lot)) (Pp.same s8) ⟨_, rfl, ?_⟩⟩
    refine iteNS rfl ?_
    refine ⟨rfl, .int lot, rfl, lot, rfl, n1, n8, fun p3 H9 s9 hp3 => ?_⟩
    have s9' := s8.trans s9
    refine ⟨.ref z, rfl, ne_rd (⟨hp3, List.length_replicate .., EF.1.symm⟩ : PG C lot (gmOf (upto lot)) _ p3 (List.replicate lot 0)) (Pz.same s9') ⟨_, rfl, iteNS rfl ?_⟩⟩
    refine ⟨.ref p, rfl, fin_rd (Pp.same s9') (Pz.same s9') rfl fun H10 s10 => ⟨_, rfl, ?_⟩⟩
    rw [EF.2.1]
    refine iteNS rfl ?_
    have s10' := s9'.trans s10
    refine ⟨.ref z, rfl, fin_rd (Pz.same s10') (Pp.same s10') rfl fun H11 s11 => ?_⟩
    refine ⟨.int lot, rfl, rfl, rfl, _, rfl, ?_⟩
    have e1 : (V.bl (decide (num (metM (List.replicate lot 0) (upto lot)) = List.replicate lot 0))) = V.bl (decide (V.int (lot : Int) = V.int 1)) := by
      rw [EF.2.2]
      congr 1
      by_cases h : lot = 1
      · subst h; rfl
      · rw [decide_eq_false (by omega), decide_eq_false (fun z => h (by have := V.int.inj z; omega))]
    refine iteDT e1 ?_
    have s11' := s10'.trans s11
    refine ⟨C, mm, _, mu, rfl, crd, cvl, rfl, _, rfl, iteDT rfl ?_⟩
    obtain ⟨dx, _, a1⟩ := (Pz.same s11').ins
    refine ⟨.ref z, rfl, z, C, dx, _, _, _, rfl, a1, T.cl, cn, rfl, rfl, ?_⟩
    show Q (.bl (decide (V.int 8 = V.int 8))) H11
    rw [decide_eq_true rfl]
    exact q _ (s7''.trans s11')
end
end Jc
namespace Jc
open PySem PySem.Spec L2
open PyProof.Rows hiding St
open Jg
abbrev dR (rs : List (List Int)) : PyData := .list (rs.map dT)
theorem dpAll_rows {K : PySem.W.Frag} {H : Hp} : ∀ {L : List (Addr × List Int)}, (∀ x ∈ L, H x.1 = some (.tup (x.2.map V.int))) → DpAll K H (L.map fun x => V.ref x.1) ((L.map (·.2)).map dT)
  | [], _ => .nil
  | x :: L, h => .cons (dp_tup (.inl (.inl (h x List.mem_cons_self)))) (dpAll_rows fun y hy => h y (List.mem_cons_of_mem _ hy))
theorem dp_rows {K : PySem.W.Frag} {H : Hp} {a : Addr} {L : List (Addr × List Int)} {rs : List (List Int)} (h : TL H a L) (e : L.map (·.2) = rs) : Dp K H (.ref a) (dR rs) := by
  subst e
  exact .lst (.inl (.inl h.lst)) (dpAll_rows h.at_)
theorem eqv_rows (rs : List (List Int)) : PyData.eqv (dR rs) (dR rs) = true := by
  show PyData.eqvAll (rs.map dT) (rs.map dT) = true
  induction rs with
  | nil => rfl
  | cons c rs ih =>
    show (PyData.eqv (dT c) (dT c) && PyData.eqvAll (rs.map dT) (rs.map dT)) = true
    rw [eqv_tup, ih, decide_eq_true rfl]; rfl
theorem shaped_rows (rs : List (List Int)) : SeqAt.shaped (dR rs) = true := by
  have h1 : ∀ zss : List (List Int), PyData.canLayAll0 (zss.map dT) = true := fun zss => by
    induction zss with
    | nil => simp [PyData.canLayAll0]
    | cons l r ih => simp [PyData.canLayAll0, PyData.canLay0, PySem.W.canLayAll0_ints, ih]
  have h2 : ∀ zss : List (List Int), PyData.depthAll (zss.map dT) ≤ 2 := fun zss => by
    induction zss with
    | nil => simp [PyData.depthAll]
    | cons l r ih =>
      have h3 := PySem.W.depthAll_ints l
      simp only [List.map_cons, PyData.depthAll, PyData.depth]
      omega
  have h3 := h2 rs
  have e : PyData.depth (dR rs) ≤ 64 := by
    simp only [dR, PyData.depth]
    omega
  show (PyData.canLay0 (dR rs) && decide (PyData.depth (dR rs) ≤ 64)) = true
  rw [decide_eq_true e]
  simp only [dR, PyData.canLay0, h1, Bool.and_true]
theorem no_gone {c : List Int} (h : ∀ x ∈ c, 0 ≤ x) : members c (-1) = [] := by
  have e := members_map c (-1)
  have z : (List.range c.length).filterMap (fun i : Nat => if c[i]? = some (-1) then some (V.int (i : Int)) else none) = [] := by
    rw [List.filterMap_eq_nil_iff]
    intro i _
    rw [if_neg]
    intro hi
    have := h _ (List.mem_of_getElem? hi)
    omega
  rw [z] at e
  exact List.map_eq_nil_iff.mp e
theorem PartAt.upl {C : Addr} {H : Hp} {p l : Addr} {c : List Int} {xs ys : List V} (h : PartAt C H p c) (hl : H l = some (.lst xs)) : PartAt C (upd H l (.lst ys)) p c := by
  obtain ⟨⟨dx, t, h1, h2⟩, a, b, d⟩ := h
  exact ⟨⟨dx, t, by rw [upd_ne (ne_of h1 hl (by simp))]; exact h1, by rw [upd_ne (ne_of h2 hl (by simp))]; exact h2⟩, a, b, d⟩
theorem range_getD {α : Type} (xs : List α) (d : α) : (List.range' 0 xs.length).map (fun i => xs.getD i d) = xs := by
  refine List.ext_getElem (by simp) fun i h1 h2 => ?_
  simp [List.getD_eq_getElem?_getD, List.getElem?_eq_getElem h2]
theorem TL.app {H : Hp} {a t : Addr} {L : List (Addr × List Int)} {c : List Int} (h : TL H a L) (ht : H t = some (.tup (c.map V.int))) : TL (upd H a (.lst ((L.map fun x => V.ref x.1) ++ [.ref t]))) a (L ++ [(t, c)]) := by
  have ne : ∀ {b : Addr} {xs : List V}, H b = some (.tup xs) → b ≠ a := fun e => ne_of e h.lst (by simp)
  refine ⟨by rw [upd_same, List.map_append]; rfl, fun x hx => ?_⟩
  rcases List.mem_append.mp hx with hx | hx
  · rw [upd_ne (ne (h.at_ x hx))]; exact h.at_ x hx
  · rw [List.mem_singleton.mp hx, upd_ne (ne ht)]; exact ht
theorem TL.upl {H : Hp} {a l : Addr} {L : List (Addr × List Int)} {xs : List V} {ys : List V} (h : TL H a L) (hl : H l = some (.lst ys)) (n : a ≠ l) : TL (upd H l (.lst xs)) a L :=
  ⟨by rw [upd_ne n]; exact h.lst, fun x hx => by rw [upd_ne (ne_of (h.at_ x hx) hl (by simp))]; exact h.at_ x hx⟩
theorem walk_gen {n : Nat} {Vy : Nat → V → Hp → Prop} : Walk (Itg n Vy) n (fun _ => True) (fun i H x H' => ∃ Hn, Vy (n - 1 - i) x Hn ∧ H' = mrg H Hn ∧ ∀ b u, Hn b = some u → H b = none) := ⟨fun _ _ hi _ => hi, fun _ _ => rfl, fun _ _ _ _ _ _ y => y⟩
theorem mrg_same {H Hn : Hp} (hf : ∀ b u, Hn b = some u → H b = none) : Same H (mrg H Hn) := fun b o e => by
  cases q : Hn b with
  | none => rw [mrg_old q]; exact e
  | some u => rw [hf b u q] at e; cases e
theorem mrg_part {C : Addr} {H Hn : Hp} {p : Addr} {c : List Int} (h : PartAt C Hn p c) : PartAt C (mrg H Hn) p c := by
  obtain ⟨⟨dx, t, h1, h2⟩, a1, a2, a3⟩ := h
  exact ⟨⟨dx, t, mrg_new h1, mrg_new h2⟩, a1, a2, a3⟩
theorem row_at {lot i : Nat} {c : List Int} (hi : i < (rowsOf lot).length) (hrow : rowAt lot ((rowsOf lot).length - 1 - i) c) : (rowsOf lot)[i]? = some c := by
  have h' : (rowsOf lot)[(rowsOf lot).length - 1 - ((rowsOf lot).length - 1 - i)]? = some c := hrow
  rw [show (rowsOf lot).length - 1 - ((rowsOf lot).length - 1 - i) = i by omega] at h'
  exact h'
/-- a for over a generator that may be left by a break: R holds behind it -/
theorem for_genB {n : Nat} {Vy : Nat → V → Hp → Prop} {g : TG} {tb : TS} {D : Ends} {σ : L2.St} {H : Hp} (Pv : Nat → L2.St → Hp → Prop) (R : L2.St → Hp → Prop) (h0 : Pv 0 σ H) (hR : ∀ σ H, R σ H → D.nx σ H)
    (hs : (∀ σ H, R σ H → D.nx σ H) → ∀ i x σ H Hn, i < n → Pv i σ H → Vy (n - 1 - i) x Hn → Same H (mrg H Hn) → g x σ (mrg H Hn) fun σ2 H2 => tb { D with nx := Pv (i + 1), ct := Pv (i + 1), bk := D.nx } σ2 H2) (hd : ∀ σ H, Pv n σ H → R σ H) :
    ∃ W : Nat → Nat → L2.St → Hp → Prop, (∃ m, W 0 m σ H) ∧ ∀ i m σ H, W i m σ H →
      ((Itg n Vy).stop i H ∧ D.nx σ H) ∨ ((Itg n Vy).go i H ∧ ∃ N : L2.St → Hp → Prop, (∀ σ' H', N σ' H' → ∃ m', m' < m ∧ W (i + 1) m' σ' H') ∧ ∀ x H', (Itg n Vy).yld i H x H' → g x σ H' fun σ2 H2 => tb { D with nx := N, ct := N, bk := D.nx } σ2 H2) :=
  for_it walk_gen Pv h0 (fun _ _ _ _ _ => trivial) (fun i x σ H H' hi p ⟨Hn, vy, e, hf⟩ => by subst e; exact hs hR i x σ H Hn hi p vy (mrg_same hf)) fun σ H p => hR σ H (hd σ H p)
theorem op_eqDK2 {X : Cx} {K : PySem.W.Frag} (h : X.K = K) (hu : X.A.units + 64 < cLine) : OpR X (compareOp .NotEq) (rNeD K) := by subst h; exact op_neD hu
def spTurns : Sp := fun vs H Q _ => ∃ (lot : Nat) (d : Addr) (L : List (Addr × List Int)), vs = [.int (lot : Int), .ref d] ∧ 1 ≤ lot ∧ lot ≤ 8 ∧ TL H d L ∧ L.map (·.2) = rowsOf lot ∧ ∀ (H2 : Hp), Same H H2 → Q (.bl true) H2
section
variable {P : Program} {w : World} {K : PySem.W.Frag} {mg : Str → Option Value} {base : Heap} {f C : Addr} {fd : FuncData} {t1 : Tok}
abbrev s_turns : Stmt := topS 33
abbrev N_turns : List Str := ["_law_lot", "_law_dues", "_law_found", "_law_near", "_law_firsts", "_law_far"]
theorem sc_turns : FnScope N_turns ["_law_lot", "_law_dues"] (defScope s_turns) := ⟨rfl, rfl, rfl, by decide +kernel, rfl, by decide +kernel, by decide +kernel⟩
theorem ok_turns (F : Fun K "_law_turns_right" "_law_turns_right" s_turns f fd) (B : Blt mg) (T : PCf K mg C) (c_all : OwnG P w K mg base "all_partitions" 7 ["many"] (spAll C)) (m_cls : OwnP P w K mg base C "classes" 1 (getSp C "_classes")) (m_gone : OwnM0 P w K mg base C "gone" 2 (spGone C)) : FnG P w K mg base 10 f fd ["_law_lot", "_law_dues"] spTurns := by
  refine fnG_of F sc_turns (fun vs H Q E h => ?_) (fun us hl => ?_) (fun cdv A outer s H vs Q hr hq h => ?_)
  · obtain ⟨lot, d, L, rfl, _⟩ := h
    rfl
  · match us, hl with
    | [_, _], _ => rfl
  · obtain ⟨lot, d, L, rfl, n1, n8, hT, eL, q⟩ := h
    have hu := hr.units
    refine ⟨_, (pss_cons (ps_set (i := 2) sc_turns.nd rfl (.inl rfl) (pe_lst pa_nil))
      (pss_cons (ps_forG rfl hr.depth (fun _ _ z => z) (pgm_own c_all rfl hr (by decide) (pa_cons (pv 0) pa_nil)) (pg_name (i := 3) sc_turns.nd rfl (.inl rfl))
        (pss_cons (ps_set (i := 4) sc_turns.nd rfl (.inl rfl) (pe_lst pa_nil))
        (pss_cons (ps_forG rfl hr.depth (fun _ _ z => z) (pgm_ownK c_all rfl hr (by decide) (pk_cons (pv 0) pk_nil)) (pg_name (i := 5) sc_turns.nd rfl (.inl rfl))
          (pss_cons (ps_expr (pe_bm PySem.F.plainAttrs_list PySem.F.slot_list_append PySem.F.type_list_append mt_append (pv 4) (pa_cons (pe_opr (pv 5) T.cl m_cls hr (by decide)) pa_nil)))
          (pss_one (ps_if (pt_cmpR op_gt (pe_callB call_len_seq rfl B.len bo_len (pa_cons (pv 4) pa_nil)) (pe_callB call_len_seq rfl B.len bo_len (pa_cons (pv 2) pa_nil)) (nomark _)) (pss_one ps_break) pss_nil))))
        (pss_cons (ps_expr (pe_bm PySem.F.plainAttrs_list PySem.F.slot_list_append PySem.F.type_list_append mt_append (pv 2) (pa_cons (pe_opr (pv 3) T.cl m_cls hr (by decide)) pa_nil)))
        (pss_cons (ps_if (PW.pt (pw_or (pt_cmpR (op_neD hu) (pv 4) (pv 2) (nomark _)) (pw_or1 (pt_cmpR (op_neD hu) (pe_om0 (pv 3) T.cl m_gone hr (by decide)) (pe_lst pa_nil) (nomark _))))) (pss_one (ps_ret pe_bl)) pss_nil)
        (pss_one (ps_if (pt_cmpR op_gt (pe_callB call_len_seq rfl B.len bo_len (pa_cons (pv 2) pa_nil)) (pe_callB (call_min2 rfl) rfl B.min bo_min (pa_cons pe_int (pa_cons (pe_op op_fdiv (pe_callB call_len_seq rfl B.len bo_len (pa_cons (pv 1) pa_nil)) pe_int) pa_nil))) (nomark _)) (pss_one ps_break) pss_nil)))))))
      (pss_one (ps_ret (pe_and (pe_cmpR (op_eqD hu) (pv 2) (pe_slice sl_list (pv 1) po_none (po_some (pe_callB call_len_seq rfl B.len bo_len (pa_cons (pv 2) pa_nil)))) (nomark _)) (pe_one (pe_cmpR (op_eqD hu) (pe_lcG (own := [("_law_near", 3)]) (g := gName 3) rfl hr.depth sc_turns.nd (pgm_own c_all rfl hr (by decide) (pa_cons (pv 0) pa_nil)) (blkOk_by (own := [("_law_near", 3)]) (N := N_turns) (sc := defScope s_turns) (by decide +kernel)) (fun _ _ _ _ _ => pg_name (i := 3) sc_turns.nd rfl (.inl rfl)) (fun _ _ _ _ _ => pts_nil) (fun _ _ _ _ _ => pe_opr (pv 3) T.cl m_cls hr (by decide))) (pv 1) (nomark _)))))))), ?_⟩
    have LR := linR8 lot n1 n8
    have A8 := all_ok (k := lot - 1) (by omega)
    have eRA := rows_all n1 n8
    have few : (rowsOf lot).length < 5000 := by rw [eRA]; exact A8.few
    have hN0 : ∀ c ∈ rowsOf lot, members c (-1) = [] := fun c hc => no_gone fun x hx => ((A8.row c (eRA ▸ hc)).val x hx).1
    have tl : ∀ {H : Hp} {a : Addr} {M : List (Addr × List Int)} {k : Nat}, M.map (·.2) = (rowsOf lot).take k → (M.map fun x => V.ref x.1).length < sizeLine := fun {H a M k} e => by
      have z := congrArg List.length e
      rw [List.length_map, List.length_take] at z
      rw [List.length_map, sizeLine_eq]
      omega
    refine ⟨Nat.zero_le _, fun fo nfo => ?_⟩
    have s1 : Same H (upd H fo (.lst [])) := same_new nfo
    have T0 : TL (upd H fo (.lst [])) fo [] := ⟨upd_same, fun x hx => absurd hx (by simp)⟩
    generalize upd H fo (.lst []) = H1 at s1 T0
    refine ⟨.int _, rfl, _, _, ⟨lot, rfl, n1, n8, LR, rfl, rfl⟩, ?_⟩
    refine for_genB (fun i σ H2 => ∃ y3 y4 y5 M, σ = [some (.int (lot : Int)), some (.ref d), some (.ref fo), y3, y4, y5] ∧ Same H H2 ∧ TL H2 fo M ∧ M.map (·.2) = (rowsOf lot).take i)
      (fun σ H2 => ∃ k y3 y4 y5 M, σ = [some (.int (lot : Int)), some (.ref d), some (.ref fo), y3, y4, y5] ∧ Same H H2 ∧ TL H2 fo M ∧ M.map (·.2) = (rowsOf lot).take k) ⟨_, _, _, [], rfl, s1, T0, rfl⟩ (fun σ H2 z => ?_) (fun brk i x σ H2 Hn hi z vy sm => ?_) fun σ H2 z => ?_
    · obtain ⟨k, y3, y4, y5, M, rfl, s2, hM, eM⟩ := z
      have hT2 := hT.same s2
      have hk : (M.map fun x => V.ref x.1).length = ((rowsOf lot).take k).length := by rw [← eM, List.length_map, List.length_map]
      refine ⟨.ref fo, rfl, .ref d, rfl, .ref fo, rfl, fo, _, rfl, .inl (.inl (.inl hM.lst)), _, rfl, d, _, rfl, .inl (.inl hT2.lst), fun sl nsl => ?_⟩
      rw [hk, List.length_take, Jg.cut_take (by have z := congrArg List.length eL; rw [List.length_map] at z; rw [List.length_map, z]; omega)]
      have eT : (L.take (min k (rowsOf lot).length)).map (·.2) = (rowsOf lot).take k := by
        rw [List.map_take, eL]
        rcases Nat.le_total k (rowsOf lot).length with h | h
        · rw [Nat.min_eq_left h]
        · rw [Nat.min_eq_right h, List.take_length, List.take_of_length_le h]
      have ss : Same H2 (upd H2 sl (.lst ((L.map fun x => V.ref x.1).take (min k (rowsOf lot).length)))) := same_new nsl
      have hS : TL (upd H2 sl (.lst ((L.map fun x => V.ref x.1).take (min k (rowsOf lot).length)))) sl (L.take (min k (rowsOf lot).length)) := ⟨by rw [upd_same, List.map_take], fun x hx => ss _ _ (hT2.at_ x (List.mem_of_mem_take hx))⟩
      have hM3 := hM.same ss
      have s3 := s2.trans ss
      generalize upd H2 sl (.lst ((L.map fun x => V.ref x.1).take (min k (rowsOf lot).length))) = H3 at ss hS hM3 s3
      refine ⟨_, _, dp_rows hM3 eM, dp_rows hS eT, shaped_rows _, shaped_rows _, _, rfl, ?_⟩
      rw [eqv_rows]
      refine iteT ?_
      refine ⟨.int _, rfl, _, _, ⟨lot, rfl, n1, n8, LR, rfl, rfl⟩, fun D hD => ?_⟩
      refine lc_rel walk_gen (fun i y Hx => ∃ u : Addr, y = .ref u ∧ u ≠ D ∧ Hx u = some (.tup (((rowsOf lot).getD (0 + i) []).map V.int))) (by omega) hD (fun i y Ha Hb kp ⟨u, e1, e2, e3⟩ => ⟨u, e1, e2, kp u _ e2 e3⟩) (fun _ _ => trivial) ?_ ?_
      · rintro i x Ha Hb kk hi sa ⟨ys, hy⟩ ⟨Hn, ⟨p, c, rfl, hp, hrow⟩, rfl, hf⟩ ky
        have hp := mrg_part (H := Ha) hp
        have hc := row_at hi hrow
        have sm : Same Ha (mrg Ha Hn) := mrg_same hf
        obtain ⟨dx, t, a1, a2⟩ := hp.ex
        refine ⟨rfl, .ref p, rfl, p, dx, _, rfl, a1, p, dx, _, .ref t, rfl, a1, rfl, ky _ _ sm ⟨t, rfl, ne_of a2 (sm _ _ hy) (by simp), ?_⟩⟩
        rw [Nat.zero_add, List.getD_eq_getElem?_getD, hc]
        exact a2
      · intro ys Hc hl hRs sc hy
        obtain ⟨N, e1, e2, e3⟩ := tl_of (f := fun i => (rowsOf lot).getD i []) (k := 0) fun i y hk => by
          obtain ⟨u, e1, _, e3⟩ := hRs i y hk
          exact ⟨u, e1, e3⟩
        rw [hl, range_getD] at e3
        have hD2 : TL Hc D N := ⟨by rw [hy, e1], e2⟩
        have s4 := s3.trans sc
        refine ⟨.ref d, rfl, _, _, dp_rows hD2 e3, dp_rows (hT.same s4) eL, shaped_rows _, shaped_rows _, ?_⟩
        rw [eqv_rows]
        exact q _ s4
    · obtain ⟨y3, y4, y5, M, rfl, s2, hM, eM⟩ := z
      obtain ⟨p, c, rfl, hp, hrow⟩ := vy
      have hp := mrg_part (H := H2) hp
      have hc := row_at hi hrow
      generalize mrg H2 Hn = H3 at sm hp
      have s3 := s2.trans sm
      have hM := hM.same sm
      refine ⟨Nat.zero_le _, fun fi nfi => ?_⟩
      have s4 : Same H3 (upd H3 fi (.lst [])) := same_new nfi
      refine ⟨.int _, rfl, _, _, ⟨lot, rfl, n1, n8, LR, rfl, rfl⟩, ?_⟩
      refine for_genB (fun j σ H5 => j ≤ i ∧ ∃ y5 N, σ = [some (.int (lot : Int)), some (.ref d), some (.ref fo), some (.ref p), some (.ref fi), y5] ∧ Same H3 H5 ∧ TL H5 fi N ∧ N.map (·.2) = (rowsOf lot).take j)
        (fun σ H5 => ∃ y5 N, σ = [some (.int (lot : Int)), some (.ref d), some (.ref fo), some (.ref p), some (.ref fi), y5] ∧ Same H3 H5 ∧ TL H5 fi N ∧ N.map (·.2) = (rowsOf lot).take (i + 1)) ⟨Nat.zero_le _, _, [], rfl, s4, ⟨upd_same, fun x hx => absurd hx (by simp)⟩, rfl⟩ (fun σ H5 z => ?_) (fun brk2 j x σ H5 Hn2 hj z vy2 sm2 => ?_) fun σ H5 z => absurd z.1 (by omega)
      · obtain ⟨y5, N, rfl, s5, hN, eN⟩ := z
        have hp5 := hp.same s5
        have hM5 := hM.same s5
        obtain ⟨dx, t, a1, a2⟩ := hp5.ex
        refine ⟨.ref fo, rfl, .inl ⟨rfl, _, .inl (.inl hM5.lst)⟩, .ref p, rfl, p, dx, _, rfl, a1, p, dx, _, .ref t, rfl, a1, rfl, fo, _, .ref t, rfl, rfl, hM5.lst, tl (H := H5) (a := fo) eM, ?_⟩
        have hM6 := hM5.app a2
        have eM6 : (M ++ [(t, c)]).map (·.2) = (rowsOf lot).take (i + 1) := by rw [List.map_append, eM, List.take_add_one, hc]; rfl
        have nff : fi ≠ fo := fun z => by rw [z, hM.lst] at nfi; cases nfi
        have hN6 := hN.upl (xs := (M.map fun x => V.ref x.1) ++ [.ref t]) hM5.lst nff
        have hp6 := PartAt.upl (ys := (M.map fun x => V.ref x.1) ++ [.ref t]) hp5 hM5.lst
        have s6 : Same H (upd H5 fo (.lst ((M.map fun x => V.ref x.1) ++ [.ref t]))) := same_mut (s3.trans s5) nfo
        generalize upd H5 fo (.lst ((M.map fun x => V.ref x.1) ++ [.ref t])) = H6 at hM6 hN6 hp6 s6
        obtain ⟨dx6, t6, b1, b2⟩ := hp6.ex
        refine ⟨.ref fi, rfl, .ref fo, rfl, _, _, dp_rows hN6 eN, dp_rows hM6 eM6, shaped_rows _, shaped_rows _, _, rfl, ?_⟩
        rw [eqv_rows]
        refine iteF ?_
        refine ⟨.ref p, rfl, p, dx6, _, rfl, b1, rfl, p, c, rfl, hp6, fun gn H7 s7 hg => ⟨Nat.zero_le _, fun e ne => ?_⟩⟩
        rw [hN0 c (List.mem_of_getElem? hc)] at hg
        have se : Same H7 (upd H7 e (.lst [])) := same_new ne
        refine ⟨dI [], dI [], dp_ints (ns := []) (se _ _ hg), dp_ints (ns := []) upd_same, PySem.W.shaped_ints _, PySem.W.shaped_ints _, _, rfl, ?_⟩
        rw [eqv_ints]
        refine iteNS rfl ?_
        have s8 := s6.trans (s7.trans se)
        have hM8 := hM6.same (s7.trans se)
        generalize upd H7 e (.lst []) = H8 at s8 hM8
        refine ⟨.ref fo, rfl, fo, _, rfl, .inl (.inl (.inl hM8.lst)), .ref d, rfl, d, _, rfl, .inl (.inl (.inl (hT.same s8).lst)), _, _, rfl, rfl, ⟨by decide, by decide⟩, _, _, rfl, _, _, rfl, rfl, _, rfl, ?_⟩
        generalize (if ((L.map fun x => V.ref x.1).length : Int) / 2 < 20 then ((L.map fun x => V.ref x.1).length : Int) / 2 else 20) = mn
        by_cases hb : mn < ((((M ++ [(t, c)]).map fun x => V.ref x.1).length : Nat) : Int)
        · exact iteDT hb (brk _ _ ⟨i + 1, _, _, _, _, rfl, s8, hM8, eM6⟩)
        · exact iteDF hb ⟨_, _, _, _, rfl, s8, hM8, eM6⟩
      · obtain ⟨hji, y5, N, rfl, s5, hN, eN⟩ := z
        obtain ⟨q2, c2, rfl, hp2, hrow2⟩ := vy2
        have hp2 := mrg_part (H := H5) hp2
        have hc2 := row_at hj hrow2
        generalize mrg H5 Hn2 = H6 at sm2 hp2
        have s6 := s5.trans sm2
        have hN := hN.same sm2
        obtain ⟨dx, t, a1, a2⟩ := hp2.ex
        refine ⟨.ref fi, rfl, .inl ⟨rfl, _, .inl (.inl hN.lst)⟩, .ref q2, rfl, q2, dx, _, rfl, a1, q2, dx, _, .ref t, rfl, a1, rfl, fi, _, .ref t, rfl, rfl, hN.lst, tl (H := H6) (a := fi) eN, ?_⟩
        have hN6 := hN.app a2
        have eN6 : (N ++ [(t, c2)]).map (·.2) = (rowsOf lot).take (j + 1) := by rw [List.map_append, eN, List.take_add_one, hc2]; rfl
        have s7 : Same H3 (upd H6 fi (.lst ((N.map fun x => V.ref x.1) ++ [.ref t]))) := same_mut s6 nfi
        generalize upd H6 fi (.lst ((N.map fun x => V.ref x.1) ++ [.ref t])) = H7 at hN6 s7
        refine ⟨.ref fi, rfl, fi, _, rfl, .inl (.inl (.inl hN6.lst)), .ref fo, rfl, fo, _, rfl, .inl (.inl (.inl (hM.same s7).lst)), _, _, rfl, rfl, _, rfl, ?_⟩
        have l1 : (((N ++ [(t, c2)]).map fun x => V.ref x.1).length : Int) = (j : Int) + 1 := by
          have z := congrArg List.length eN6
          rw [List.length_map, List.length_take] at z
          rw [List.length_map]; omega
        have l2 : ((M.map fun x => V.ref x.1).length : Int) = (i : Int) := by
          have z := congrArg List.length eM
          rw [List.length_map, List.length_take] at z
          rw [List.length_map]; omega
        rw [l1, l2]
        by_cases h : j = i
        · subst h
          exact iteDT (by omega) (brk2 _ _ ⟨_, _, rfl, s7, hN6, eN6⟩)
        · exact iteDF (by omega) ⟨by omega, _, _, rfl, s7, hN6, eN6⟩
    · obtain ⟨y3, y4, y5, M, rfl, s2, hM, eM⟩ := z
      exact ⟨_, _, _, _, M, rfl, s2, hM, eM⟩
end
end Jc
namespace Jc
open PySem PySem.Spec L2
open PyProof.Rows hiding St
open Jg
def spRight : Sp := fun vs H Q _ => ∃ p : Addr, vs = [.ref p] ∧ Pot H p ∧ ∀ H2, Same H H2 → Q (.bl true) H2
theorem PL_same {C : Addr} {H H2 : Hp} {a : Addr} {L : List (Addr × List Int)} (s : Same H H2) (h : PL C H a L) : PL C H2 a L := ⟨s _ _ h.lst, fun x hx => (h.at_ x hx).same s⟩
theorem shown_bell : ∀ k ∈ List.range 8, ((PyData.int ((bellRow k).getLastD 0)).showable = true ∧ (PyData.int ((bellRow k).getLastD 0)).hasDict = false ∧ (PyData.int ((bellRow k).getLastD 0)).depth ≤ 60 ∧ (PyData.int ((bellRow k).getLastD 0)).shown.length ≤ 1000000) ∧
    (dI [(bellRow k).getLastD 0, (bellRow k).getLastD 0]).showable = true ∧ (dI [(bellRow k).getLastD 0, (bellRow k).getLastD 0]).hasDict = false ∧ (dI [(bellRow k).getLastD 0, (bellRow k).getLastD 0]).depth ≤ 60 ∧ (dI [(bellRow k).getLastD 0, (bellRow k).getLastD 0]).shown.length ≤ 1000000 := by decide +kernel
theorem row_facts : ∀ n ∈ List.range 7, ∀ c ∈ rowsOf n, num (metM (upto n) c) = upto n ∧ num (metM c (List.replicate n 0)) = c ∧ num (metM c (upto n)) = upto n := by decide +kernel
theorem gm_pos {c : List Int} (h : ∀ x ∈ c, 0 ≤ x) : gmOf c = List.replicate c.length false := by
  unfold gmOf
  refine List.eq_replicate_iff.mpr ⟨List.length_map .., fun b hb => ?_⟩
  obtain ⟨x, hx, rfl⟩ := List.mem_map.mp hb
  have := h x hx
  exact decide_eq_false (by omega)
theorem pl_of {C : Addr} {H : Hp} {f : Nat → List Int} : ∀ {ys : List V} {k : Nat}, (∀ i y, ys[i]? = some y → ∃ t : Addr, y = .ref t ∧ PartAt C H t (f (k + i))) →
    ∃ L : List (Addr × List Int), ys = L.map (fun x => V.ref x.1) ∧ (∀ x ∈ L, PartAt C H x.1 x.2) ∧ L.map (·.2) = (List.range' k ys.length).map f
  | [], k, _ => ⟨[], rfl, fun x hx => absurd hx (by simp), rfl⟩
  | y :: ys, k, h => by
    obtain ⟨t, rfl, ht⟩ := h 0 y rfl
    obtain ⟨L, e1, e2, e3⟩ := pl_of (ys := ys) (k := k + 1) fun i z hz => by
      have := h (i + 1) z hz
      rw [show k + (i + 1) = k + 1 + i by omega] at this
      exact this
    refine ⟨(t, f k) :: L, by rw [e1]; rfl, fun x hx => ?_, ?_⟩
    · rcases List.mem_cons.mp hx with rfl | hx
      · exact ht
      · exact e2 x hx
    · rw [List.length_cons, List.range'_succ, List.map_cons, List.map_cons, e3]
theorem at_neg1 {α : Type} {xs : List α} (h : 0 < xs.length) : atI xs (-1) = xs[xs.length - 1]? := by
  unfold atI
  have e2 : ixN xs.length (-1) = some (xs.length - 1) := by
    unfold ixN
    rw [if_neg (by decide), if_pos (by omega)]
    congr 1
    omega
  rw [e2]; rfl
theorem lin_num {m : Nat} : ∀ {rs : List (List Int)} {c : List Int}, Lin m rs → c ∈ rs → num c = c
  | c :: r, d, h, hd => by
    obtain ⟨_, h2, _, h4⟩ := h
    rcases List.mem_cons.mp hd with rfl | hd
    · exact h2
    · exact lin_num h4 hd
section
variable {P : Program} {w : World} {K : PySem.W.Frag} {mg : Str → Option Value} {base : Heap} {f C : Addr} {fd : FuncData} {t1 : Tok}
abbrev s_right : Stmt := topS 34
abbrev N_right : List Str := ["_law_pot_here", "_law_lot", "_law_much", "_law_dues", "_law_told", "_law_near", "_law_apart", "_law_whole", "_law_some", "_law_most"]
theorem sc_right : FnScope N_right ["_law_pot_here"] (defScope s_right) := ⟨rfl, rfl, rfl, by decide +kernel, rfl, by decide +kernel, by decide +kernel⟩
theorem ok_right (F : Fun K "_law_right" "_law_right" s_right f fd) (B : Blt mg) (T : PCf K mg C) (N : NeK K C) (m_apart : OwnCM P w K mg base C "apart" 5 "many" (spCls C upto)) (m_tog : OwnCM P w K mg base C "together" 5 "many" (spCls C fun n => List.replicate n 0))
    (m_is_finer : OwnM P w K mg base C "is_finer" 4 (spFiner C)) (m_cls : OwnP P w K mg base C "classes" 1 (getSp C "_classes")) (c_all : OwnG P w K mg base "all_partitions" 7 ["many"] (spAll C))
    (c_draw : Own P w K mg base "_law_draw" 1 ["_law_pot_here", "_law_lot"] spDraw) (c_lall : Own P w K mg base "_law_all" 1 ["_law_lot"] spLall) (c_lcount : Own P w K mg base "_law_count" 1 ["_law_lot"] spLcount) (c_count : Own P w K mg base "count_of" 3 ["many"] spCount)
    (c_ends : Own P w K mg base "_law_ends_right" 6 ["_law_lot"] spEnds) (c_turns : Own P w K mg base "_law_turns_right" 10 ["_law_lot", "_law_dues"] spTurns)
    (eE : OpF P w K mg base C "__eq__" 1 (spEqP C)) (eA : OpF P w K mg base C "__and__" 5 (spAnd C)) (eO : OpF P w K mg base C "__or__" 5 (spOr C)) (sf : PySem.W.selfFirst K C = true) : FnG P w K mg base 12 f fd ["_law_pot_here"] spRight := by
  refine fnG_of F sc_right (fun vs H Q E h => ?_) (fun us hl => ?_) (fun cdv A outer s H vs Q hr hq h => ?_)
  · obtain ⟨p, rfl, _⟩ := h
    rfl
  · match us, hl with
    | [_], _ => rfl
  · obtain ⟨p, rfl, hp, fin⟩ := h
    obtain ⟨fE, sE, iE, FE⟩ := eE.ex
    obtain ⟨fA, sA, iA, FA⟩ := eA.ex
    obtain ⟨fO, sO, iO, FO⟩ := eO.ex
    rw [← dAnd] at sA
    rw [← dOr] at sO
    have hu := hr.units
    refine ⟨_, (pss_cons (ps_par (i := 1) (j := 2) rfl sc_right.nd rfl rfl (by decide) rfl rfl (pa_cons (pe_op op_add pe_int (pe_own c_draw hr hq (by decide) (pa_cons (pv 0) (pa_cons pe_int pa_nil)))) (pa_cons (pe_op op_add pe_int (pe_own c_draw hr hq (by decide) (pa_cons (pv 0) (pa_cons pe_int pa_nil)))) pa_nil)) rfl)
      (pss_cons (ps_set (i := 3) sc_right.nd rfl (.inl rfl) (pe_own c_lall hr hq (by decide) (pa_cons (pv 1) pa_nil)))
      (pss_cons (ps_setLcG (i := 4) (own := [("_law_near", 5)]) (g := gName 5) rfl hr.depth sc_right.nd rfl rfl (sw_true rfl rfl rfl (by decide +kernel)) (pgm_own c_all rfl hr (by decide) (pa_cons (pv 1) pa_nil)) (blkOk_by (own := [("_law_near", 5)]) (N := N_right) (sc := defScope s_right) (by decide +kernel)) (fun _ _ _ _ _ => pg_name (i := 5) sc_right.nd rfl (.inl rfl)) (fun _ _ _ _ _ => pts_nil) (fun _ _ _ _ _ => pv 5))
      (pss_cons (ps_if (PW.pt (pw_or (pt_cmpR (op_neD hu) (pe_lc (own := [("_law_near", 5)]) (g := gName 5) rfl sc_right.nd (pi_list (pv 4)) (blkOk_by (own := [("_law_near", 5)]) (N := N_right) (sc := defScope s_right) (by decide +kernel)) (fun _ _ _ _ _ => pg_name (i := 5) sc_right.nd rfl (.inl rfl)) (fun _ _ _ _ _ => pts_nil) (fun _ _ _ _ _ => pe_opr (pv 5) T.cl m_cls hr (by decide))) (pv 3) (nomark _))
          (pw_or1 (pt_cmpR op_ne (pe_callB (call_repr hq hu) rfl B.repr bo_repr (pa_cons (pe_own c_count hr hq (by decide) (pa_cons (pv 1) pa_nil)) pa_nil)) (pe_callB (call_repr hq hu) rfl B.repr bo_repr (pa_cons (pe_callB call_len_seq rfl B.len bo_len (pa_cons (pv 3) pa_nil)) pa_nil)) (nomark _))))) (pss_one (ps_ret pe_bl)) pss_nil)
      (pss_cons (ps_if (pt_cmpR op_ne (pe_callB (call_repr hq hu) rfl B.repr bo_repr (pa_cons (pe_lst (pa_cons (pe_own c_count hr hq (by decide) (pa_cons (pv 2) pa_nil)) (pa_cons (pe_ownK c_count hr hq (by decide) (pk_cons (pv 2) pk_nil)) pa_nil))) pa_nil)) (pe_callB (call_repr hq hu) rfl B.repr bo_repr (pa_cons (pe_op op_rep (pe_lst (pa_cons (pe_own c_lcount hr hq (by decide) (pa_cons (pv 2) pa_nil)) pa_nil)) pe_int) pa_nil)) (nomark _)) (pss_one (ps_ret pe_bl)) pss_nil)
      (pss_cons (ps_if (PW.pt (pw_or (pt_cmpR (op_neOwn N sE iE FE (hr.mono (by decide))) (pe_ix ix_list (pv 4) pe_int (fun _ _ => rfl)) (pe_oc (pl := _) (pe_glob (v := .ref C) rfl T.mc rfl) m_tog hr (by decide) (pa_cons (pv 1) pa_nil)) (nomark _)) (pw_or1 (pt_cmpR (op_neOwn N sE iE FE (hr.mono (by decide))) (pe_ix ix_list (pv 4) (pe_un un_neg pe_int) (fun _ _ => rfl)) (pe_oc (pl := _) (pe_glob (v := .ref C) rfl T.mc rfl) m_apart hr (by decide) (pa_cons (pv 1) pa_nil)) (nomark _))))) (pss_one (ps_ret pe_bl)) pss_nil)
      (pss_cons (ps_par3 (i := 6) (j := 7) (l := 8) rfl sc_right.nd rfl rfl rfl (by decide) (by decide) (by decide) rfl rfl rfl (pa_cons (pe_ix ix_list (pv 4) (pe_un un_neg pe_int) (fun _ _ => rfl)) (pa_cons (pe_ix ix_list (pv 4) pe_int (fun _ _ => rfl)) (pa_cons (pe_ix ix_list (pv 4) (pe_own c_draw hr hq (by decide) (pa_cons (pv 0) (pa_cons (pe_callB call_len_seq rfl B.len bo_len (pa_cons (pv 4) pa_nil)) pa_nil))) (fun _ _ => rfl)) pa_nil))) rfl)
      (pss_cons (ps_if (PW.pt (pw_or (pt_not (pt_val (pe_om (pv 6) T.cl m_is_finer hr (by decide) (pa_cons (pv 8) pa_nil)))) (pw_or (pt_not (pt_val (pe_om (pv 8) T.cl m_is_finer hr (by decide) (pa_cons (pv 7) pa_nil)))) (pw_or (pt_cmpR (op_neOwn N sE iE FE (hr.mono (by decide))) (pe_op (op_own (op := .BitAnd) T.cl sf sA iA FA (hr.mono (by decide))) (pv 8) (pv 6)) (pv 6) (nomark _)) (pw_or1 (pt_cmpR (op_neOwn N sE iE FE (hr.mono (by decide))) (pe_op (op_own (op := .BitOr) T.cl sf sO iO FO (hr.mono (by decide))) (pv 8) (pv 7)) (pv 7) (nomark _))))))) (pss_one (ps_ret pe_bl)) pss_nil)
      (pss_cons (ps_for PassesOwn.never rfl (pi_list (pe_op op_cat (pe_lst (pa_cons pe_int pa_nil)) (pe_op op_rep (pe_lst (pa_cons pe_int pa_nil)) (pe_callTy call_int1 rfl B.int bo_int (pa_cons (pe_cmpR op_eq (pe_own c_draw hr hq (by decide) (pa_cons (pv 0) (pa_cons pe_int pa_nil))) pe_int (nomark _)) pa_nil))))) (pg_name (i := 9) sc_right.nd rfl (.inl rfl))
        (pss_one (ps_if (pt_cmpR (op_neD hu) (pe_lcG (own := [("_law_near", 5)]) (g := gName 5) rfl hr.depth sc_right.nd (pgm_own c_all rfl hr (by decide) (pa_cons (pv 9) pa_nil)) (blkOk_by (own := [("_law_near", 5)]) (N := N_right) (sc := defScope s_right) (by decide +kernel)) (fun _ _ _ _ _ => pg_name (i := 5) sc_right.nd rfl (.inl rfl)) (fun _ _ _ _ _ => pts_nil) (fun _ _ _ _ _ => pe_opr (pv 5) T.cl m_cls hr (by decide))) (pe_own c_lall hr hq (by decide) (pa_cons (pv 9) pa_nil)) (nomark _)) (pss_one (ps_ret pe_bl)) pss_nil)))
      (pss_one (ps_ret (pe_and (pe_own c_ends hr hq (by decide) (pa_cons (pv 1) pa_nil)) (pe_and (pe_own c_ends hr hq (by decide) (pa_cons (pv 2) pa_nil)) (pe_one (pe_own c_turns hr hq (by decide) (pa_cons (pv 1) (pa_cons (pv 3) pa_nil))))))))))))))))), ?_⟩
    refine ⟨.ref p, rfl, p, 6, rfl, hp, by decide, by decide, fun d1 H1 d0 d5 s1 => ⟨_, _, rfl, rfl, ?_⟩⟩
    refine ⟨.ref p, rfl, p, 8, rfl, s1 _ _ hp, by decide, by decide, fun d2 H2 e0 e8 s2 => ⟨_, _, rfl, rfl, _, _, rfl, ?_⟩⟩
    obtain ⟨lot, hlot, n1, n6⟩ : ∃ lot : Nat, (1 : Int) + d1 = (lot : Int) ∧ 1 ≤ lot ∧ lot ≤ 6 := ⟨(1 + d1).toNat, by omega, by omega, by omega⟩
    obtain ⟨much, hmuch, m1, m8⟩ : ∃ lot : Nat, (1 : Int) + d2 = (lot : Int) ∧ 1 ≤ lot ∧ lot ≤ 8 := ⟨(1 + d2).toNat, by omega, by omega, by omega⟩
    dsimp only
    rw [hlot, hmuch]
    have n8 : lot ≤ 8 := by omega
    have LR := linR8 lot n1 n8
    have A8 := all_ok (k := lot - 1) (by omega)
    have eRA := rows_all n1 n8
    have few : (rowsOf lot).length < 5000 := by rw [eRA]; exact A8.few
    have s2' := s1.trans s2
    refine ⟨.int lot, rfl, lot, rfl, n1, n8, fun du H3 L s3 hT eL => ?_⟩
    rw [← eRA] at eL
    have s3' := s2'.trans s3
    refine ⟨.int lot, rfl, _, _, ⟨lot, rfl, n1, n8, LR, rfl, rfl⟩, fun D hD => ?_⟩
    refine lc_rel walk_gen (fun i y Hx => ∃ u dx t : Addr, y = .ref u ∧ u ≠ D ∧ t ≠ D ∧ Hx u = some (.ins C dx [("_classes", .ref t)]) ∧ Hx t = some (.tup (((rowsOf lot).getD (0 + i) []).map V.int))) (by omega) hD (fun i y Ha Hb kp ⟨u, dx, t, e1, e2, e3, e5, e6⟩ => ⟨u, dx, t, e1, e2, e3, kp u _ e2 e5, kp t _ e3 e6⟩) (fun _ _ => trivial) ?_ ?_
    · rintro i x Ha Hb kk hi sa ⟨ys, hy⟩ ⟨Hn, ⟨q, c, rfl, hq2, hrow⟩, rfl, hf⟩ ky
      have hq2 := mrg_part (H := Ha) hq2
      have hc := row_at hi hrow
      have sm : Same Ha (mrg Ha Hn) := mrg_same hf
      obtain ⟨dx, t, a1, a2⟩ := hq2.ex
      refine ⟨rfl, .ref q, rfl, ky _ _ sm ⟨q, dx, t, rfl, ne_of a1 (sm _ _ hy) (by simp), ne_of a2 (sm _ _ hy) (by simp), a1, ?_⟩⟩
      rw [Nat.zero_add, List.getD_eq_getElem?_getD, hc]
      exact a2
    intro ys H4 hl hRs s4 hy
    have rok : ∀ c ∈ rowsOf lot, RowOk (lot - 1) c := fun c hc => A8.row c (eRA ▸ hc)
    obtain ⟨M, e1, e2, e3⟩ := pl_of (C := C) (H := H4) (f := fun i => (rowsOf lot).getD i []) (k := 0) fun i y hk => by
      obtain ⟨u, dx, t, e1, _, _, e5, e6⟩ := hRs i y hk
      have hi : i < (rowsOf lot).length := by
        have := (List.getElem?_eq_some_iff.mp hk).1
        omega
      have hm : (rowsOf lot).getD (0 + i) [] ∈ rowsOf lot := by
        rw [Nat.zero_add, List.getD_eq_getElem?_getD, List.getElem?_eq_getElem hi]
        exact List.getElem_mem hi
      have r := rok _ hm
      exact ⟨u, e1, ⟨dx, t, e5, e6⟩, by rw [r.len]; omega, by rw [r.len]; omega, lin_num LR.lin hm⟩
    rw [hl, range_getD] at e3
    have hPL : PL C H4 D M := ⟨by rw [hy, e1], e2⟩
    have s4' := s3'.trans s4
    have hT4 := hT.same s4
    clear e1 e2 hRs hy
    have Mlen : M.length = (rowsOf lot).length := by rw [← e3, List.length_map]
    -- the first if
    refine ⟨.ref D, rfl, D, rfl, ⟨_, .inl (.inl hPL.lst)⟩, fun G hG => ?_⟩
    refine lc_rel (walk_list (xs := M.map fun x => V.ref x.1)) (fun i y Hx => ∃ u : Addr, y = .ref u ∧ u ≠ G ∧ Hx u = some (.tup (((rowsOf lot).getD (0 + i) []).map V.int))) (by rw [List.length_map]; omega) hG (fun i y Ha Hb kp ⟨u, e1, e2, e3⟩ => ⟨u, e1, e2, kp u _ e2 e3⟩) (fun H5 z => .inl (.inl (z _ _ hPL.lst))) ?_ ?_
    · rintro i x Ha Hb kk hi sa ⟨ys, hy⟩ ⟨rfl, hx⟩ ky
      obtain ⟨⟨q, c⟩, hxi, rfl⟩ : ∃ z, M[i]? = some z ∧ x = .ref z.1 := by
        rw [List.getElem?_map] at hx
        cases e : M[i]? with
        | none => rw [e] at hx; cases hx
        | some z => rw [e] at hx; exact ⟨z, rfl, (Option.some.inj hx).symm⟩
      have hc : (rowsOf lot)[i]? = some c := by rw [← e3, List.getElem?_map, hxi]; rfl
      have hq2 := (PL_same sa hPL).at_ _ (List.mem_of_getElem? hxi)
      obtain ⟨dx, t, a1, a2⟩ := hq2.ex
      refine ⟨rfl, .ref q, rfl, q, dx, _, rfl, a1, q, dx, _, .ref t, rfl, a1, rfl, ky _ _ (Same.refl _) ⟨t, rfl, ne_of a2 hy (by simp), ?_⟩⟩
      rw [Nat.zero_add, List.getD_eq_getElem?_getD, hc]
      exact a2
    intro ys H5 hl hRs s5 hy
    obtain ⟨N2, e4, e5, e6⟩ := tl_of (f := fun i => (rowsOf lot).getD i []) (k := 0) fun i y hk => by
      obtain ⟨u, e1, _, e3⟩ := hRs i y hk
      exact ⟨u, e1, e3⟩
    rw [hl, List.length_map, Mlen, range_getD] at e6
    have hG2 : TL H5 G N2 := ⟨by rw [hy, e4], e5⟩
    have hT5 := hT4.same s5
    refine ⟨.ref du, rfl, _, _, dp_rows hG2 e6, dp_rows hT5 eL, shaped_rows _, shaped_rows _, _, rfl, ?_⟩
    rw [eqv_rows]
    refine iteF ?_
    clear hRs hy e4 e5 e6 hG2 hG
    have SB := (shown_bell (lot - 1) (List.mem_range.mpr (by omega))).1
    refine ⟨.int lot, rfl, lot, rfl, n1, n8, fun H6 s6 => ?_⟩
    refine ⟨_, _, rfl, .int _, SB.1, SB.2.1, SB.2.2.1, le_line SB.2.2.2, ?_⟩
    have eB : ((L.map fun x => V.ref x.1).length : Int) = (bellRow (lot - 1)).getLastD 0 := by
      have z := congrArg List.length eL
      rw [List.length_map] at z
      have z2 := A8.len
      have z3 := A8.pos
      rw [List.length_map, z, eRA]
      omega
    refine ⟨.ref du, rfl, du, _, rfl, .inl (.inl (.inl (hT5.same s6).lst)), ?_⟩
    rw [eB]
    refine ⟨_, _, rfl, .int _, SB.1, SB.2.1, SB.2.2.1, le_line SB.2.2.2, rfl, _, rfl, iteNS rfl ?_⟩
    have s6' := s4'.trans (s5.trans s6)
    have hPL6 := PL_same (s5.trans s6) hPL
    have hT6 := hT5.same s6
    -- the second if
    have SC := (shown_bell (much - 1) (List.mem_range.mpr (by omega))).2
    refine ⟨.int much, rfl, much, rfl, m1, m8, fun H7 s7 => ⟨.int much, rfl, much, rfl, m1, m8, fun H8 s8 => ⟨le_line (by show (2 : Nat) ≤ 1000000; decide), fun b nb => ?_⟩⟩⟩
    have sb : Same H8 (upd H8 b (.lst [.int ((bellRow (much - 1)).getLastD 0), .int ((bellRow (much - 1)).getLastD 0)])) := same_new nb
    refine ⟨.ref b, dI [(bellRow (much - 1)).getLastD 0, (bellRow (much - 1)).getLastD 0], rfl, dp_ints (ns := [(bellRow (much - 1)).getLastD 0, (bellRow (much - 1)).getLastD 0]) upd_same, SC.1, SC.2.1, SC.2.2.1, le_line SC.2.2.2, ?_⟩
    refine ⟨.int much, rfl, much, rfl, m1, m8, fun H9 s9 => ⟨le_line (by show (1 : Nat) ≤ 1000000; decide), fun l nl => ⟨l, 2, _, rfl, rfl, upd_same, by decide, by decide, le_line (by show (2 : Nat) ≤ 1000000; decide), fun l2 nl2 => ?_⟩⟩⟩
    have sl : Same H9 (upd (upd H9 l (.lst [.int ((bellRow (much - 1)).getLastD 0)])) l2 (.lst (List.replicate (2 : Int).toNat [V.int ((bellRow (much - 1)).getLastD 0)]).flatten)) := (same_new nl).trans (same_new nl2)
    refine ⟨.ref l2, dI [(bellRow (much - 1)).getLastD 0, (bellRow (much - 1)).getLastD 0], rfl, dp_ints (ns := [(bellRow (much - 1)).getLastD 0, (bellRow (much - 1)).getLastD 0]) upd_same, SC.1, SC.2.1, SC.2.2.1, le_line SC.2.2.2, rfl, _, rfl, iteNS rfl ?_⟩
    have s10 : Same H6 _ := s7.trans (s8.trans (sb.trans (s9.trans sl)))
    have hPL10 := PL_same s10 hPL6
    have hT10 := hT6.same s10
    have s10' := s6'.trans s10
    clear hPL6 hT6 s10 sl sb s9 s8 s7 SC SB
    generalize upd (upd H9 l (.lst [.int ((bellRow (much - 1)).getLastD 0)])) l2 (.lst (List.replicate (2 : Int).toNat [V.int ((bellRow (much - 1)).getLastD 0)]).flatten) = H10 at hPL10 hT10 s10'
    have gmr : ∀ c ∈ rowsOf lot, gmOf c = gmOf (upto lot) := fun c hc => by
      rw [gm_pos fun x hx => ((rok c hc).val x hx).1, gm_pos fun x hx => (upto_mem.mp hx).1, (rok c hc).len, upto_len]
      congr 1
      omega
    have PGm : ∀ {H' : Hp} {x : Addr × List Int}, x ∈ M → PartAt C H' x.1 x.2 → PG C lot (gmOf (upto lot)) H' x.1 x.2 := fun {H' x} hx h => by
      have hm : x.2 ∈ rowsOf lot := e3 ▸ List.mem_map_of_mem hx
      exact ⟨h, by rw [(rok _ hm).len]; omega, gmr _ hm⟩
    have at2 : ∀ {i : Nat} {c : List Int}, (rowsOf lot)[i]? = some c → ∃ q, M[i]? = some (q, c) := fun {i c} h => by
      rw [← e3, List.getElem?_map] at h
      cases e : M[i]? with
      | none => rw [e] at h; cases h
      | some x =>
        rw [e] at h
        obtain ⟨q, c'⟩ := x
        cases h
        exact ⟨q, rfl⟩
    obtain ⟨p0, h0⟩ := at2 (i := 0) (c := List.replicate lot 0) (by have z := LR.head; rw [List.head?_eq_getElem?] at z; exact z)
    obtain ⟨p1, h1⟩ := at2 (i := (rowsOf lot).length - 1) (c := upto lot) (by
      have z := A8.last
      rw [List.getLast?_eq_getElem?, ← eRA, show lot - 1 + 1 = lot by omega] at z
      exact z)
    have Mpos : 0 < M.length := (List.getElem?_eq_some_iff.mp h0).1
    have i0 : atI (M.map fun x => V.ref x.1) 0 = some (.ref p0) := atI_nat (j := 0) (by rw [List.getElem?_map, h0]; rfl)
    have i1 : atI (M.map fun x => V.ref x.1) (-1) = some (.ref p1) := by
      rw [at_neg1 (by rw [List.length_map]; exact Mpos), List.length_map, Mlen, List.getElem?_map, h1]; rfl
    have P0 := fun {H' : Hp} (s : Same H10 H') => PGm (List.mem_of_getElem? h0) ((PL_same s hPL10).at_ _ (List.mem_of_getElem? h0))
    have P1 := fun {H' : Hp} (s : Same H10 H') => PGm (List.mem_of_getElem? h1) ((PL_same s hPL10).at_ _ (List.mem_of_getElem? h1))
    dsimp only at P0 P1
    have gz : gmOf (List.replicate lot 0) = gmOf (upto lot) := (end_facts lot (List.mem_range.mpr (by omega))).1.symm
    -- the third if
    refine ⟨.ref D, rfl, D, _, 0, _, rfl, rfl, .inl (.inl hPL10.lst), i0, rfl, .int lot, rfl, lot, rfl, n1, n8, fun z H11 s11 hz => ?_⟩
    refine ne_rd (P0 s11) (⟨hz, List.length_replicate .., gz⟩ : PG C lot (gmOf (upto lot)) _ z (List.replicate lot 0)) ⟨_, rfl, iteNS rfl ?_⟩
    refine ⟨.ref D, rfl, _, rfl, D, _, -1, _, rfl, rfl, .inl (.inl (PL_same s11 hPL10).lst), i1, rfl, .int lot, rfl, lot, rfl, n1, n8, fun z H12 s12 hz => ?_⟩
    have s12' := s11.trans s12
    refine ne_rd (P1 s12') (⟨hz, upto_len lot, rfl⟩ : PG C lot (gmOf (upto lot)) _ z (upto lot)) ⟨_, rfl, iteNS rfl ?_⟩
    -- three at once
    refine ⟨.ref D, rfl, _, rfl, D, _, -1, _, rfl, rfl, .inl (.inl (PL_same s12' hPL10).lst), i1, .ref D, rfl, D, _, 0, _, rfl, rfl, .inl (.inl (PL_same s12' hPL10).lst), i0, ?_⟩
    have hlM : ((M.map fun x => V.ref x.1).length : Int) = ((M.length : Nat) : Int) := by rw [List.length_map]
    refine ⟨.ref D, rfl, .ref p, rfl, .ref D, rfl, D, _, rfl, .inl (.inl (.inl (PL_same s12' hPL10).lst)), p, _, rfl, (s10'.trans s12') _ _ hp, by rw [hlM]; omega, by rw [hlM]; omega, fun d3 H13 g0 g1 s13 => ?_⟩
    rw [hlM] at g1
    obtain ⟨i3, rfl⟩ : ∃ i3 : Nat, d3 = (i3 : Int) := ⟨d3.toNat, by omega⟩
    have hi3 : i3 < M.length := by omega
    obtain ⟨p2, c2, h2⟩ : ∃ p2 c2, M[i3]? = some (p2, c2) := ⟨_, _, List.getElem?_eq_getElem hi3⟩
    have s13' := s12'.trans s13
    refine ⟨D, _, (i3 : Int), .ref p2, rfl, rfl, .inl (.inl (PL_same s13' hPL10).lst), atI_nat (by rw [List.getElem?_map, h2]; rfl), _, _, _, rfl, ?_⟩
    have P2 := fun {H' : Hp} (s : Same H10 H') => PGm (List.mem_of_getElem? h2) ((PL_same s hPL10).at_ _ (List.mem_of_getElem? h2))
    dsimp only at P2
    have c2m : c2 ∈ rowsOf lot := by rw [← e3]; exact List.mem_map_of_mem (List.mem_of_getElem? h2)
    obtain ⟨r1, r2, r3⟩ := row_facts lot (List.mem_range.mpr (by omega)) c2 c2m
    refine ⟨.ref p1, rfl, fin_rd (P1 s13') (P2 s13') rfl fun H14 s14 => ⟨_, rfl, ?_⟩⟩
    rw [r1]
    refine iteNS rfl ?_
    have s14' := s13'.trans s14
    refine ⟨.ref p2, rfl, fin_rd (P2 s14') (P0 s14') rfl fun H15 s15 => ⟨_, rfl, ?_⟩⟩
    rw [r2]
    refine iteNS rfl ?_
    have s15' := s14'.trans s15
    refine ⟨.ref p2, rfl, .ref p1, rfl, and_rd (P2 s15') (P1 s15') fun me H16 s16 hme => ?_⟩
    have s16' := s15'.trans s16
    refine ⟨.ref p1, rfl, ne_rd hme (P1 s16') ⟨_, rfl, iteNS r3 ?_⟩⟩
    refine ⟨.ref p2, rfl, .ref p0, rfl, or_rd (P2 s16') (P0 s16') fun jo H17 J s17 hjo hJ => ?_⟩
    have s17' := s16'.trans s17
    have eJ : J = List.replicate lot 0 := ext_of hjo.can (P0 s17').can fun i j => ⟨hJ.least _ ((fin_iff (P2 s17').can (P0 s17').can ((P2 s17').gm.trans (P0 s17').gm.symm) n8).mp r2) (fun _ _ h => h) i j, hJ.two i j⟩
    refine ⟨.ref p0, rfl, ne_rd hjo (P0 s17') ⟨_, rfl, iteNS eJ ?_⟩⟩
    have s17a := s10'.trans s17'
    refine ⟨le_line (by show (1 : Nat) ≤ 1000000; decide), fun l7 nl7 => ⟨le_line (by show (1 : Nat) ≤ 1000000; decide), fun l8 nl8 => ?_⟩⟩
    have h7 : upd (upd H17 l7 (.lst [.int 7])) l8 (.lst [.int 8]) l7 = some (.lst [.int 7]) := (same_new nl8) _ _ upd_same
    have h8 : upd (upd H17 l7 (.lst [.int 7])) l8 (.lst [.int 8]) l8 = some (.lst [.int 8]) := upd_same
    have s18 : Same H17 (upd (upd H17 l7 (.lst [.int 7])) l8 (.lst [.int 8])) := (same_new nl7).trans (same_new nl8)
    generalize upd (upd H17 l7 (.lst [.int 7])) l8 (.lst [.int 8]) = H18 at h7 h8 s18
    refine ⟨.ref p, rfl, p, 4, rfl, (s17a.trans s18) _ _ hp, by decide, by decide, fun d4 H19 _ _ s19 => ⟨rfl, .inr ⟨_, rfl, ?_⟩⟩⟩
    generalize hk : (if decide (V.int d4 = V.int 0) = true then (1 : Int) else 0) = k
    have k01 : k = 0 ∨ k = 1 := by subst hk; split <;> simp
    have s19' := s17a.trans (s18.trans s19)
    refine ⟨l8, k, _, rfl, rfl, s19 _ _ h8, by omega, by omega, le_line (by show 1 * k.toNat ≤ 1000000; omega), fun l9 nl9 => ?_⟩
    have s20 : Same H19 (upd H19 l9 (.lst (List.replicate k.toNat [V.int 8]).flatten)) := same_new nl9
    have e9 : upd H19 l9 (.lst (List.replicate k.toNat [V.int 8]).flatten) l9 = some (.lst (List.replicate k.toNat [V.int 8]).flatten) := upd_same
    have fl : (List.replicate k.toNat [V.int 8]).flatten = List.replicate k.toNat (V.int 8) := List.flatten_replicate_singleton
    rw [fl] at e9 s20 ⊢
    generalize upd H19 l9 (.lst (List.replicate k.toNat (V.int 8))) = H20 at s20 e9
    refine ⟨l7, l9, _, _, rfl, rfl, (s19.trans s20) _ _ h7, e9, by rw [List.length_replicate, sizeLine_eq]; show 1 + _ ≤ _; omega, fun l10 nl10 => ?_⟩
    have s21 : Same H20 (upd H20 l10 (.lst ([V.int 7] ++ List.replicate k.toNat (V.int 8)))) := same_new nl10
    have e10 : upd H20 l10 (.lst ([V.int 7] ++ List.replicate k.toNat (V.int 8))) l10 = some (.lst ([V.int 7] ++ List.replicate k.toNat (V.int 8))) := upd_same
    generalize upd H20 l10 (.lst ([V.int 7] ++ List.replicate k.toNat (V.int 8))) = H21 at s21 e10
    have s21' := s19'.trans (s20.trans s21)
    have hT21 := hT10.same (s17'.trans (s18.trans (s19.trans (s20.trans s21))))
    have mem78 : ∀ {i : Nat} {x : V}, ([V.int 7] ++ List.replicate k.toNat (V.int 8))[i]? = some x → ∃ m : Nat, x = .int (m : Int) ∧ 1 ≤ m ∧ m ≤ 8 := fun {i x} h => by
      rcases List.mem_append.mp (List.mem_of_getElem? h) with z | z
      · exact ⟨7, List.mem_singleton.mp z, by omega, by omega⟩
      · exact ⟨8, (List.mem_replicate.mp z).2, by omega, by omega⟩
    refine ⟨l10, rfl, ⟨_, .inl (.inl e10)⟩, for_list (xs := [V.int 7] ++ List.replicate k.toNat (V.int 8)) (fun i σ H22 => ∃ y5 y9, σ = [some (.ref p), some (.int (lot : Int)), some (.int (much : Int)), some (.ref du), some (.ref D), y5, some (.ref p1), some (.ref p0), some (.ref p2), y9] ∧ Same H21 H22) ⟨_, _, rfl, Same.refl _⟩ (fun i σ H22 _ z => ?_) (fun i x σ H22 hx z => ?_) fun σ H22 z => ?_⟩
    · obtain ⟨_, _, _, s22⟩ := z
      exact .inl (.inl (s22 _ _ e10))
    · obtain ⟨y5, y9, rfl, s22⟩ := z
      obtain ⟨m, rfl, b1, b8⟩ := mem78 hx
      have LRm := linR8 m b1 b8
      have Am := all_ok (k := m - 1) (by omega)
      have eRm := rows_all b1 b8
      have fewm : (rowsOf m).length < 5000 := by rw [eRm]; exact Am.few
      refine ⟨.int m, rfl, _, _, ⟨m, rfl, b1, b8, LRm, rfl, rfl⟩, fun E hE => ?_⟩
      refine lc_rel walk_gen (fun i y Hx => ∃ u : Addr, y = .ref u ∧ u ≠ E ∧ Hx u = some (.tup (((rowsOf m).getD (0 + i) []).map V.int))) (by omega) hE (fun i y Ha Hb kp ⟨u, e1, e2, e3⟩ => ⟨u, e1, e2, kp u _ e2 e3⟩) (fun _ _ => trivial) ?_ ?_
      · rintro i x Ha Hb kk hi sa ⟨ys, hy⟩ ⟨Hn, ⟨q, c, rfl, hq2, hrow⟩, rfl, hf⟩ ky
        have hq2 := mrg_part (H := Ha) hq2
        have hc := row_at hi hrow
        have sm : Same Ha (mrg Ha Hn) := mrg_same hf
        obtain ⟨dx, t, a1, a2⟩ := hq2.ex
        refine ⟨rfl, .ref q, rfl, q, dx, _, rfl, a1, q, dx, _, .ref t, rfl, a1, rfl, ky _ _ sm ⟨t, rfl, ne_of a2 (sm _ _ hy) (by simp), ?_⟩⟩
        rw [Nat.zero_add, List.getD_eq_getElem?_getD, hc]
        exact a2
      · intro ys Hc hl hRs sc hy
        obtain ⟨N3, e1, e2, e3⟩ := tl_of (f := fun i => (rowsOf m).getD i []) (k := 0) fun i y hk => by
          obtain ⟨u, e1, _, e3⟩ := hRs i y hk
          exact ⟨u, e1, e3⟩
        rw [hl, range_getD] at e3
        have hE2 : TL Hc E N3 := ⟨by rw [hy, e1], e2⟩
        refine ⟨.int m, rfl, m, rfl, b1, b8, fun du2 Hd L2 sd hT2 eL2 => ?_⟩
        rw [← eRm] at eL2
        refine ⟨_, _, dp_rows (hE2.same sd) e3, dp_rows hT2 eL2, shaped_rows _, shaped_rows _, _, rfl, ?_⟩
        rw [eqv_rows]
        refine iteF ?_
        exact ⟨_, _, rfl, s22.trans (sc.trans sd)⟩
    · obtain ⟨y5, y9, rfl, s22⟩ := z
      have s22' := s21'.trans s22
      refine ⟨.int lot, rfl, lot, rfl, n1, n8, fun Ha sa => ⟨_, rfl, iteT ⟨.int much, rfl, much, rfl, m1, m8, fun Hb sb => ⟨_, rfl, iteT ⟨.int lot, rfl, .ref du, rfl, lot, du, L, rfl, n1, n8, hT21.same (s22.trans (sa.trans sb)), eL, fun Hc sc => fin _ (s22'.trans (sa.trans (sb.trans sc)))⟩⟩⟩⟩⟩
end
end Jc
namespace Jc
open PySem PySem.Spec L2
open PyProof.Rows hiding St
section
variable {P : Program} {w : World} {K : PySem.W.Frag} {mg : Str → Option Value} {base : Heap} {f : Addr} {fd : FuncData}
abbrev s_law : Stmt := topS 35
abbrev N_law : List Str := ["_law_script", "_law_k"]
theorem sc_law : FnScope N_law ["_law_script"] (defScope s_law) := ⟨rfl, rfl, rfl, by decide +kernel, rfl, by decide +kernel, by decide +kernel⟩
theorem ok_law (F : Fun K "law" "law" s_law f fd) (B : Blt mg) (c_right : Own P w K mg base "_law_right" 12 ["_law_pot_here"] spRight) (c_pot : Own P w K mg base "_law_pot" 1 ["_law_script", "_law_k"] (spPot K)) :
    FnG P w K mg base 13 f fd ["_law_script"] (spLaw K) := by
  refine fnG_of F sc_law (fun vs H Q E h => ?_) (fun us hl => ?_) (fun cdv A outer s H vs Q hr hq h => ?_)
  · obtain ⟨a, ns, rfl, _⟩ := h
    rfl
  · match us, hl with
    | [_], _ => rfl
  · obtain ⟨a, ns, rfl, hS, hl, q⟩ := h
    refine ⟨_, (pss_one (ps_ret (pe_callB (cr_all rfl) rfl B.all bo_all (pa_cons (pe_lc (own := [("_law_k", 1)]) (g := gName 1) rfl sc_law.nd (pi_range1 rfl B.range (pa_cons (pe_callB (call_max2 rfl) rfl B.max bo_max (pa_cons pe_int (pa_cons (pe_callB (call_min2 rfl) rfl B.min bo_min (pa_cons (pe_callB call_len_seq rfl B.len bo_len (pa_cons (pv 0) pa_nil)) (pa_cons pe_int pa_nil))) pa_nil))) pa_nil)) (blkOk_by (own := [("_law_k", 1)]) (N := N_law) (sc := defScope s_law) (by decide +kernel)) (fun _ _ _ _ _ => pg_name (i := 1) sc_law.nd rfl (.inl rfl)) (fun _ _ _ _ _ => pts_nil) (fun _ _ _ _ _ => (pe_own c_right hr hq (by decide) (pa_cons (pe_pot (pe_own c_pot hr hq (by decide) (pa_cons (pv 0) (pa_cons (pv 1) pa_nil)))) pa_nil)))) pa_nil)))), ?_⟩
    refine ⟨.ref a, rfl, a, _, rfl, .inl hS, _, _, rfl, _, _, rfl, ?_⟩

    generalize hm : (if (3 : Int) < ((ns.map V.int).length : Int) then (3 : Int) else ((ns.map V.int).length : Int)) = m
    generalize hn : (if m > 1 then m else 1) = n
    have hn4 : 1 ≤ n ∧ n ≤ 3 := by
      subst hn hm
      split <;> split at * <;> omega
    refine ⟨n, rfl, by omega, by omega, fun D hD => ?_⟩
    refine lc_flat walk_range (fun i y => y = .bl true) (by omega) hD (fun _ _ => trivial) ?_ ?_
    · rintro i y H2 H3 k hi s2 ⟨rfl, rfl⟩ kk
      refine ⟨rfl, .ref a, rfl, .int (0 + (i : Int)), rfl, a, ns, i, by rw [Int.zero_add], s2.seq hS, by omega, fun p x y np x0 y0 y1 => ⟨p, x, y, upd_same, x0, y0, y1, p, rfl, upd_same, fun H4 s4 => ?_⟩⟩
      exact kk _ _ ((same_mut (same_new np) np).trans s4) rfl
    · intro ys H2 hl2 hR s2 hy
      have e : ys = (List.replicate n.toNat true).map V.bl := by
        refine all_eq (by simp [hl2]) fun i a b e1 e2 => ?_
        rw [hR i a e1]
        simp [List.getElem?_replicate] at e2
        exact e2.2.symm ▸ rfl
      refine ⟨D, _, rfl, .inl (.inl (e ▸ hy)), ?_⟩
      have e2 : ((List.replicate n.toNat true).all id) = true := by
        rw [List.all_eq_true]
        intro x hx
        exact (List.mem_replicate.mp hx).2
      rw [e2]
      exact q H2
end
section
variable {P : Program} {w : World} {K : PySem.W.Frag} {mg : Str → Option Value} {base : Heap} {f : Addr} {fd : FuncData} {x : Str} {st : Stmt} {k : Nat} {ps : List Str} {sp : Sp}
theorem own_mk (F : Fun K x x st f fd) (hm : mg x = some (.ref f)) (G : FnG P w K mg base k f fd ps sp)
    (h1 : ∀ (kV doc pm : Value) (an : Option Addr) (cdv ct : Value) (us : List Value), us.length = ps.length → bindArgs (PySem.W.fnOf x x (defArgs st) (defBody st) (defScope st) .none kV doc pm an cdv ct) ⟨us, []⟩ = pure (ps.zip us))
    (h2 : ∀ (kV doc pm : Value) (an : Option Addr) (cdv ct : Value) (u : Value), ps.length = 1 → bindArgs (PySem.W.fnOf x x (defArgs st) (defBody st) (defScope st) .none kV doc pm an cdv ct) ⟨[], ps.zip [u]⟩ = pure (ps.zip [u])) : Own P w K mg base x k ps sp := by
  obtain ⟨oc, od, kV, doc, pm, an, cdv, ct, osl, rfl, lk, hcd⟩ := F.ex
  exact ⟨f, _, G, hm, F.kp, fun s us hl => .of_eq (h1 kV doc pm an cdv ct us hl), fun s u hl => .of_eq (h2 kV doc pm an cdv ct u hl)⟩
end
/-- a def of the top, found by k_is -/
structure At (K : PySem.W.Frag) (x : Str) (st : Stmt) : Prop where
  ex : ∃ (f : Addr) (oc : Value) (od an : Option Addr) (sl : Array (Option Value)) (kV dc pm cd ct : Value), PySem.W.nsIn K mainGlobals x = some (some (.ref f)) ∧
    K.lookup f = some ⟨oc, od, .func (PySem.W.fnOf x x (defArgs st) (defBody st) (defScope st) .none kV dc pm an cd ct), sl⟩ ∧ PySem.W.codeIn K cd x = true ∧ PySem.W.keepIn K (.ref f) = true
theorem at_mk {K : PySem.W.Frag} {x : Str} {st : Stmt} {f : Addr} {oc : Value} {od an : Option Addr} {sl : Array (Option Value)} {kV dc pm cd ct : Value} (a : PySem.W.nsIn K mainGlobals x = some (some (.ref f)))
    (l : K.lookup f = some ⟨oc, od, .func (PySem.W.fnOf x x (defArgs st) (defBody st) (defScope st) .none kV dc pm an cd ct), sl⟩) (c : PySem.W.codeIn K cd x = true) (k : PySem.W.keepIn K (.ref f) = true) : At K x st := ⟨f, oc, od, an, sl, kV, dc, pm, cd, ct, a, l, c, k⟩
theorem At.fn {K : PySem.W.Frag} {h : Heap} {mg : Str → Option Value} {x : Str} {st : Stmt} (A : At K x st) (X : K.In h) (G : h.Ns mainGlobals mg) : ∃ f fd, Fun K x x st f fd ∧ mg x = some (.ref f) := by
  obtain ⟨f, oc, od, an, sl, kV, dc, pm, cd, ct, a, l, c, k⟩ := A.ex
  exact ⟨f, _, fun_mk l c k, PySem.W.mg_of X G a⟩
end Jc
namespace Jc
open PySem PySem.Spec L2
open PyProof.Rows hiding St
/-- a method of the class, found by k_is -/
structure AtM (K : PySem.W.Frag) (C : Addr) (m qual : Str) (st : Stmt) : Prop where
  ex : ∃ (f : Addr) (oc : Value) (od an : Option Addr) (sl : Array (Option Value)) (kV dc pm cd ct : Value), PySem.W.findIn K (.ref C) m = some (some (.ref f)) ∧ PySem.W.isFn K (.ref f) = true ∧
    K.lookup f = some ⟨oc, od, .func (PySem.W.fnOf m qual (defArgs st) (defBody st) (defScope st) .none kV dc pm an cd ct), sl⟩ ∧ PySem.W.codeIn K cd qual = true ∧ PySem.W.keepIn K (.ref f) = true
theorem atm_mk {K : PySem.W.Frag} {C : Addr} {m qual : Str} {st : Stmt} {f : Addr} {oc : Value} {od an : Option Addr} {sl : Array (Option Value)} {kV dc pm cd ct : Value} (a : PySem.W.findIn K (.ref C) m = some (some (.ref f))) (i : PySem.W.isFn K (.ref f) = true)
    (l : K.lookup f = some ⟨oc, od, .func (PySem.W.fnOf m qual (defArgs st) (defBody st) (defScope st) .none kV dc pm an cd ct), sl⟩) (c : PySem.W.codeIn K cd qual = true) (k : PySem.W.keepIn K (.ref f) = true) : AtM K C m qual st := ⟨f, oc, od, an, sl, kV, dc, pm, cd, ct, a, i, l, c, k⟩
theorem AtM.fn {K : PySem.W.Frag} {C : Addr} {m qual : Str} {st : Stmt} (A : AtM K C m qual st) : ∃ f fd, Fun K m qual st f fd ∧ Meth K C m f := by
  obtain ⟨f, oc, od, an, sl, kV, dc, pm, cd, ct, a, i, l, c, k⟩ := A.ex
  exact ⟨f, _, fun_mk l c k, a, i, k⟩
structure AtP (K : PySem.W.Frag) (C : Addr) (m qual : Str) (st : Stmt) : Prop where
  ex : ∃ (p g : Addr) (fd : FuncData), PropOf K C m p g ∧ Fun K m qual st g fd
theorem atp_mk {K : PySem.W.Frag} {C : Addr} {m qual : Str} {st : Stmt} {p g : Addr} {rest : List Value} {oc : Value} {od an : Option Addr} {sl : Array (Option Value)} {kV dc pm cd ct : Value} (a : PySem.W.findIn K (.ref C) m = some (some (.ref p)))
    (s : PySem.W.specialIn K (.ref p) "__get__" = some (some (.builtin "property.__get__"))) (t : PySem.W.takesIn K (.ref p) = some true) (r : PySem.W.recIn K p "property" = some (.ref g :: rest))
    (l : K.lookup g = some ⟨oc, od, .func (PySem.W.fnOf m qual (defArgs st) (defBody st) (defScope st) .none kV dc pm an cd ct), sl⟩) (c : PySem.W.codeIn K cd qual = true) (k : PySem.W.keepIn K (.ref g) = true) : AtP K C m qual st := ⟨p, g, _, ⟨a, s, t, rest, r⟩, fun_mk l c k⟩
theorem raw0 {P : Program} {w : World} {K : PySem.W.Frag} {mg : Str → Option Value} {base : Heap} {k : Nat} {f : Addr} {fd : FuncData} {ps : List Str} {sp : Sp} (F : FnOk P w K mg base CX0 k f fd ps sp) (hb : Binds K fd ps []) : FnR P w K mg base CX0 k f sp :=
  (F.raw hb .nil).imp fun vs H Q E h => by
    rw [List.append_nil]
    exact h
open Jg
theorem kws_of {K : PySem.W.Frag} {m qual : Str} {st : Stmt} {f : Addr} {fd : FuncData} {ks ps : List Str} (F : Fun K m qual st f fd)
    (h : ∀ (kV doc pm : Value) (an : Option Addr) (cdv ct u : Value) (us : List Value), us.length = ks.length → bindArgs (PySem.W.fnOf m qual (defArgs st) (defBody st) (defScope st) .none kV doc pm an cdv ct) ⟨[u], ks.zip us⟩ = pure (ps.zip (u :: us.reverse))) :
    ∀ (s : Shared) (u : Value) (us : List Value), us.length = ks.length → BindsTo s fd ⟨[u], ks.zip us⟩ (ps.zip (u :: us.reverse)) := by
  obtain ⟨oc, od, kV, doc, pm, an, cdv, ct, osl, rfl, lk, hcd⟩ := F.ex
  exact fun s u us hl => .of_eq (h kV doc pm an cdv ct u us hl)
theorem kit_self {K : PySem.W.Frag} {C : Addr} : PySem.W.kitOne K (.ref C) (.ref C) = some true := by
  unfold PySem.W.kitOne
  rw [if_pos]
  first
    | exact beq_self_eq_true _
    | exact (beq_self_eq_true C)
    | simp
theorem bts {K : PySem.W.Frag} {m qual : Str} {st : Stmt} {f : Addr} {fd : FuncData} (F : Fun K m qual st f fd)
    (h : ∀ (kV doc pm : Value) (an : Option Addr) (cdv ct u : Value), bindArgs (PySem.W.fnOf m qual (defArgs st) (defBody st) (defScope st) .none kV doc pm an cdv ct) ⟨[u], []⟩ = pure ((["self"] : List Str).zip [u])) :
    ∀ (s : Shared) (u : Value), BindsTo s fd ⟨[u], []⟩ ((["self"] : List Str).zip [u]) := by
  obtain ⟨oc, od, kV, doc, pm, an, cdv, ct, osl, rfl, lk, hcd⟩ := F.ex
  exact fun s u => .of_eq (h kV doc pm an cdv ct u)
structure AtK (K : PySem.W.Frag) (C : Addr) (m qual : Str) (st : Stmt) : Prop where
  ex : ∃ (p g : Addr) (fd : FuncData), ClX.CMet K C (.type "type") m p g ∧ Fun K m qual st g fd
theorem atk_mk {K : PySem.W.Frag} {C : Addr} {m qual : Str} {st : Stmt} {p g : Addr} {rest : List Value} {oc : Value} {od an : Option Addr} {sl : Array (Option Value)} {kV dc pm cd ct : Value} (a : PySem.W.findCls K (.ref C) (.type "type") m = some (.get (.builtin "classmethod.__get__") (.ref p) .none (.ref C)))
    (r : PySem.W.recIn K p "classmethod" = some (.ref g :: rest)) (i : PySem.W.fnIn K g = true)
    (l : K.lookup g = some ⟨oc, od, .func (PySem.W.fnOf m qual (defArgs st) (defBody st) (defScope st) .none kV dc pm an cd ct), sl⟩) (c : PySem.W.codeIn K cd qual = true) (k : PySem.W.keepIn K (.ref g) = true) : AtK K C m qual st := ⟨p, g, _, ⟨a, ⟨rest, r⟩, i⟩, fun_mk l c k⟩
theorem kw1 {K : PySem.W.Frag} {m qual a : Str} {st : Stmt} {f : Addr} {fd : FuncData} (F : Fun K m qual st f fd)
    (h : ∀ (kV doc pm : Value) (an : Option Addr) (cdv ct u v : Value), bindArgs (PySem.W.fnOf m qual (defArgs st) (defBody st) (defScope st) .none kV doc pm an cdv ct) ⟨[u], [(a, v)]⟩ = pure ([("cls", u), (a, v)] : List (Str × Value))) :
    ∀ (s : Shared) (u v : Value), BindsTo s fd ⟨[u], [(a, v)]⟩ [("cls", u), (a, v)] := by
  obtain ⟨oc, od, kV, doc, pm, an, cdv, ct, osl, rfl, lk, hcd⟩ := F.ex
  exact fun s u v => .of_eq (h kV doc pm an cdv ct u v)
theorem all_mk {l : PySem.W.OpenLaw} {w : World} {K : PySem.W.Frag} {h : Heap} {mg : Str → Option Value} {fa C : Addr} (X : K.In h) (G : h.Ns mainGlobals mg) (hfa : mg "law" = some (.ref fa))
    (mgC : PySem.W.nsIn K mainGlobals "Partition" = some (some (.ref C))) (pg : PySem.W.plainGet K C Str.empty = true) (hd : PySem.W.hasDictIn K C = true) (po : PySem.W.plainOver K C = true) (sa : PySem.W.findIn K (.ref C) "__setattr__" = some (some (.builtin "object.__setattr__")))
    (na : PySem.W.findIn K (.ref C) "_classes" = some none) (mk : PySem.W.makesIn K C = true) (kc : PySem.W.keepIn K (.ref C) = true) (rd : PySem.W.readsIn K C (.type "type") = true) (ga : PySem.W.specialIn K (.ref C) "__getattribute__" = some (some (.builtin "type.__getattribute__")))
    {t8 : Tok} (cv : PySem.W.findCls K (.ref C) (.type "type") "MOST_HOLDERS" = some (.val (.int 8 t8)))
    (ha : PySem.W.findIn K (.ref C) "__class__" = some (some (.builtin "object.__class__"))) (hn : PySem.W.specialIn K (.builtin "object.__class__") "__get__" = some (some (.builtin "getset_descriptor.__get__"))) (htk : PySem.W.takesIn K (.builtin "object.__class__") = some true)
    (hm : PySem.W.mroIn K C (.type "object") = some true) (ne : PySem.W.findIn K (.ref C) "__ne__" = some (some (.builtin "object.__ne__"))) (sf : PySem.W.selfFirst K C = true)
    {t9 : Tok} (cnA : PySem.W.findIn K (.ref C) "MOST_HOLDERS" = some (some (.int 8 t9))) (cnG : PySem.W.specialIn K (.int 8 t9) "__get__" = some none)
    (M_init : AtM K C "__init__" "Partition.__init__" s_init)
    (M_eq : AtM K C "__eq__" "Partition.__eq__" s_eq)
    (M_repr : AtM K C "__repr__" "Partition.__repr__" s_repr)
    (M_and : AtM K C "__and__" "Partition.__and__" s_and)
    (M_or : AtM K C "__or__" "Partition.__or__" s_or)
    (M_finer : AtM K C "is_finer" "Partition.is_finer" s_finer)
    (M_gone : AtM K C "gone" "Partition.gone" s_gone)
    (K_apart : AtK K C "apart" "Partition.apart" s_apart)
    (K_together : AtK K C "together" "Partition.together" s_together)
    (P_classes : AtP K C "classes" "Partition.classes" s_classes)
    (A_is_integer : At K "is_integer" s_is_integer)
    (A_pair : At K "_check_pair" s_pair)
    (A_gm : At K "_gone_marks" s_gm)
    (A_arecls : At K "are_classes" s_arecls)
    (A_numbered : At K "numbered" s_numbered)
    (A_members : At K "_members" s_members)
    (A_met : At K "_met" s_met)
    (A_joined : At K "_joined" s_joined)
    (A_cmany : At K "_check_many" s_cmany)
    (A_nextc : At K "_next_classes" s_nextc)
    (A_allp : At K "all_partitions" s_allp)
    (A_countof : At K "count_of" s_countof)
    (A_pot : At K "_law_pot" s_pot)
    (A_draw : At K "_law_draw" s_draw)
    (A_lall : At K "_law_all" s_lall)
    (A_lcount : At K "_law_count" s_lcount)
    (A_ends : At K "_law_ends_right" s_ends)
    (A_turns : At K "_law_turns_right" s_turns)
    (A_right : At K "_law_right" s_right)
    (A_law : At K "law" s_law)
    {t_GONE : Tok} (k_GONE : PySem.W.nsIn K mainGlobals "GONE" = some (some (.int (-1) t_GONE)))
    (z_len : PySem.W.nsIn K mainGlobals "len" = some none) (z_abs : PySem.W.nsIn K mainGlobals "abs" = some none) (z_max : PySem.W.nsIn K mainGlobals "max" = some none) (z_min : PySem.W.nsIn K mainGlobals "min" = some none) (z_divmod : PySem.W.nsIn K mainGlobals "divmod" = some none) (z_repr : PySem.W.nsIn K mainGlobals "repr" = some none) (z_isinstance : PySem.W.nsIn K mainGlobals "isinstance" = some none) (z_all : PySem.W.nsIn K mainGlobals "all" = some none) (z_any : PySem.W.nsIn K mainGlobals "any" = some none) (z_sum : PySem.W.nsIn K mainGlobals "sum" = some none) (z_sorted : PySem.W.nsIn K mainGlobals "sorted" = some none) (z_int : PySem.W.nsIn K mainGlobals "int" = some none) (z_str : PySem.W.nsIn K mainGlobals "str" = some none) (z_bool : PySem.W.nsIn K mainGlobals "bool" = some none) (z_list : PySem.W.nsIn K mainGlobals "list" = some none) (z_tuple : PySem.W.nsIn K mainGlobals "tuple" = some none) (z_dict : PySem.W.nsIn K mainGlobals "dict" = some none) (z_set : PySem.W.nsIn K mainGlobals "set" = some none) (z_range : PySem.W.nsIn K mainGlobals "range" = some none) (z_enumerate : PySem.W.nsIn K mainGlobals "enumerate" = some none) (z_zip : PySem.W.nsIn K mainGlobals "zip" = some none) (z_reversed : PySem.W.nsIn K mainGlobals "reversed" = some none) :
    ∃ fd : FuncData, (∀ (s : Shared) (v : Value), BindsTo s fd ⟨[v], []⟩ [("_law_script", v)]) ∧ ∀ base : Heap, K.In base → base.Ns mainGlobals mg → FnG l.prog w K mg base 13 fa fd ["_law_script"] (spLaw K) := by
  have B : Blt mg := ⟨PySem.W.mg_none_of X G z_len, PySem.W.mg_none_of X G z_abs, PySem.W.mg_none_of X G z_max, PySem.W.mg_none_of X G z_min, PySem.W.mg_none_of X G z_divmod, PySem.W.mg_none_of X G z_repr, PySem.W.mg_none_of X G z_isinstance, PySem.W.mg_none_of X G z_all, PySem.W.mg_none_of X G z_any, PySem.W.mg_none_of X G z_sum, PySem.W.mg_none_of X G z_sorted, PySem.W.mg_none_of X G z_int, PySem.W.mg_none_of X G z_str, PySem.W.mg_none_of X G z_bool, PySem.W.mg_none_of X G z_list, PySem.W.mg_none_of X G z_tuple, PySem.W.mg_none_of X G z_dict, PySem.W.mg_none_of X G z_set, PySem.W.mg_none_of X G z_range, PySem.W.mg_none_of X G z_enumerate, PySem.W.mg_none_of X G z_zip, PySem.W.mg_none_of X G z_reversed⟩
  have G1 : TxP mg t_GONE := ⟨PySem.W.mg_of X G k_GONE⟩
  have T : PCf K mg C := ⟨⟨pg, hd, po, sa⟩, na, PySem.W.mg_of X G mgC, ⟨_, _, ⟨rd, ga⟩, ⟨cv, ⟨_, rfl⟩⟩⟩⟩
  have TI : PCi K C := ⟨fun H a dx fs e => .base (TyOf.ins e T.cl ha hn htk hm), kit_self⟩
  have N : NeK K C := ⟨ne, hm⟩
  have cn : Con K C "MOST_HOLDERS" (.int 8) (.int 8 t9) := ⟨cnA, ⟨_, rfl⟩, cnG, by decide +kernel⟩
  obtain ⟨f_is_integer, d_is_integer, F_is_integer, m_is_integer⟩ := A_is_integer.fn X G
  obtain ⟨f_pair, d_pair, F_pair, m_pair⟩ := A_pair.fn X G
  obtain ⟨f_gm, d_gm, F_gm, m_gm⟩ := A_gm.fn X G
  obtain ⟨f_arecls, d_arecls, F_arecls, m_arecls⟩ := A_arecls.fn X G
  obtain ⟨f_numbered, d_numbered, F_numbered, m_numbered⟩ := A_numbered.fn X G
  obtain ⟨f_members, d_members, F_members, m_members⟩ := A_members.fn X G
  obtain ⟨f_met, d_met, F_met, m_met⟩ := A_met.fn X G
  obtain ⟨f_joined, d_joined, F_joined, m_joined⟩ := A_joined.fn X G
  obtain ⟨f_cmany, d_cmany, F_cmany, m_cmany⟩ := A_cmany.fn X G
  obtain ⟨f_nextc, d_nextc, F_nextc, m_nextc⟩ := A_nextc.fn X G
  obtain ⟨f_allp, d_allp, F_allp, m_allp⟩ := A_allp.fn X G
  obtain ⟨f_countof, d_countof, F_countof, m_countof⟩ := A_countof.fn X G
  obtain ⟨f_pot, d_pot, F_pot, m_pot⟩ := A_pot.fn X G
  obtain ⟨f_draw, d_draw, F_draw, m_draw⟩ := A_draw.fn X G
  obtain ⟨f_lall, d_lall, F_lall, m_lall⟩ := A_lall.fn X G
  obtain ⟨f_lcount, d_lcount, F_lcount, m_lcount⟩ := A_lcount.fn X G
  obtain ⟨f_ends, d_ends, F_ends, m_ends⟩ := A_ends.fn X G
  obtain ⟨f_turns, d_turns, F_turns, m_turns⟩ := A_turns.fn X G
  obtain ⟨f_right, d_right, F_right, m_right⟩ := A_right.fn X G
  obtain ⟨g_init, e_init, F_init, h_init⟩ := M_init.fn
  obtain ⟨g_eq, e_eq, F_eq, h_eq⟩ := M_eq.fn
  obtain ⟨g_repr, e_repr, F_repr, h_repr⟩ := M_repr.fn
  obtain ⟨g_and, e_and, F_and, h_and⟩ := M_and.fn
  obtain ⟨g_or, e_or, F_or, h_or⟩ := M_or.fn
  obtain ⟨g_finer, e_finer, F_finer, h_finer⟩ := M_finer.fn
  obtain ⟨g_gone, e_gone, F_gone, h_gone⟩ := M_gone.fn
  obtain ⟨p_apart, g_apart, e_apart, h_apart, F_apart⟩ := K_apart.ex
  obtain ⟨p_together, g_together, e_together, h_together, F_together⟩ := K_together.ex
  obtain ⟨p_cls, g_cls, e_cls, h_cls, F_cls⟩ := P_classes.ex
  obtain ⟨f1, oc, od, an, sl, kV, dc, pm, cd, ct, a1, l1, c1, k1⟩ := A_law.ex
  have e := hfa.symm.trans (PySem.W.mg_of X G a1)
  cases e
  refine ⟨PySem.W.fnOf "law" "law" (defArgs s_law) (defBody s_law) (defScope s_law) .none kV dc pm an cd ct, fun s v => .of_eq rfl, fun base _ _ => ?_⟩
  have c_is_integer : OwnK l.prog w K mg base "is_integer" 1 ["value"] spInt := ⟨f_is_integer, d_is_integer, ok_is_integer F_is_integer B, m_is_integer, F_is_integer.kp, F_is_integer.binds (fun _ _ _ _ _ _ us hl => match us, hl with | [_], _ => rfl)⟩
  have c_numbered : OwnK l.prog w K mg base "numbered" 1 ["marks"] (spNum K) := ⟨f_numbered, d_numbered, ok_numbered F_numbered B G1, m_numbered, F_numbered.kp, F_numbered.binds (fun _ _ _ _ _ _ us hl => match us, hl with | [_], _ => rfl)⟩
  have c_numberedD : OwnK l.prog w K mg base "numbered" 1 ["marks"] (spNumD K) := ⟨f_numbered, d_numbered, ok_numberedD F_numbered B G1, m_numbered, F_numbered.kp, F_numbered.binds (fun _ _ _ _ _ _ us hl => match us, hl with | [_], _ => rfl)⟩
  have c_members : OwnK l.prog w K mg base "_members" 1 ["classes", "number"] (spMem K) := ⟨f_members, d_members, ok_members F_members B, m_members, F_members.kp, F_members.binds (fun _ _ _ _ _ _ us hl => match us, hl with | [_, _], _ => rfl)⟩
  have c_arecls : OwnK l.prog w K mg base "are_classes" 2 ["value"] (spAre K) := ⟨f_arecls, d_arecls, ok_arecls F_arecls B T c_is_integer c_numbered, m_arecls, F_arecls.kp, F_arecls.binds (fun _ _ _ _ _ _ us hl => match us, hl with | [_], _ => rfl)⟩
  have c_gm : OwnK l.prog w K mg base "_gone_marks" 1 ["classes"] (spGM K) := ⟨f_gm, d_gm, ok_gm F_gm G1, m_gm, F_gm.kp, F_gm.binds (fun _ _ _ _ _ _ us hl => match us, hl with | [_], _ => rfl)⟩
  have c_met : OwnK l.prog w K mg base "_met" 1 ["one", "other"] (spMet K) := ⟨f_met, d_met, ok_met F_met B G1, m_met, F_met.kp, F_met.binds (fun _ _ _ _ _ _ us hl => match us, hl with | [_, _], _ => rfl)⟩
  have c_joined : OwnK l.prog w K mg base "_joined" 2 ["one", "other"] (spJoin K) := ⟨f_joined, d_joined, ok_joined F_joined B c_members, m_joined, F_joined.kp, F_joined.binds (fun _ _ _ _ _ _ us hl => match us, hl with | [_, _], _ => rfl)⟩
  have c_cmany : OwnK l.prog w K mg base "_check_many" 2 ["many"] spMany := ⟨f_cmany, d_cmany, ok_cmany F_cmany T c_is_integer, m_cmany, F_cmany.kp, F_cmany.binds (fun _ _ _ _ _ _ us hl => match us, hl with | [_], _ => rfl)⟩
  have c_nextc : OwnK l.prog w K mg base "_next_classes" 1 ["classes"] (spNext K) := ⟨f_nextc, d_nextc, ok_nextc F_nextc B, m_nextc, F_nextc.kp, F_nextc.binds (fun _ _ _ _ _ _ us hl => match us, hl with | [_], _ => rfl)⟩
  have m_cls : OwnP l.prog w K mg base C "classes" 1 (getSp C "_classes") := ⟨p_cls, g_cls, e_cls, h_cls, ok_classes F_cls T, F_cls.binds (fun _ _ _ _ _ _ us hl => match us, hl with | [_], _ => rfl)⟩
  have c_pair : OwnK l.prog w K mg base "_check_pair" 3 ["one", "other"] (spPair C) := ⟨f_pair, d_pair, ok_pair F_pair B T TI c_gm m_cls, m_pair, F_pair.kp, F_pair.binds (fun _ _ _ _ _ _ us hl => match us, hl with | [_, _], _ => rfl)⟩
  have M : OwnI l.prog w K mg base C 3 (spInit K C) := ⟨g_init, ⟨mk, h_init.at_, h_init.fn, kc⟩, raw0 (ok_init F_init B T c_arecls) (F_init.binds (fun _ _ _ _ _ _ us hl => match us, hl with | [_, _], _ => rfl))⟩
  have n_finer := ok_finer (P := l.prog) (w := w) (base := base) F_finer B T c_pair c_met c_numberedD
  have m_finer : OwnM l.prog w K mg base C "is_finer" 4 (spFiner C) := ⟨g_finer, h_finer, raw0 n_finer (F_finer.binds (fun _ _ _ _ _ _ us hl => match us, hl with | [_, _], _ => rfl))⟩
  have m_gone : OwnM0 l.prog w K mg base C "gone" 2 (spGone C) := ⟨g_gone, e_gone, h_gone, ok_gone F_gone T G1 c_members, F_gone.binds (fun _ _ _ _ _ _ us hl => match us, hl with | [_], _ => rfl)⟩
  have eA : OpF l.prog w K mg base C "__and__" 5 (spAnd C) := ⟨g_and, h_and.at_, h_and.fn, raw0 (ok_and F_and T c_pair c_met c_numberedD M) (F_and.binds (fun _ _ _ _ _ _ us hl => match us, hl with | [_, _], _ => rfl))⟩
  have eO : OpF l.prog w K mg base C "__or__" 5 (spOr C) := ⟨g_or, h_or.at_, h_or.fn, raw0 (ok_or F_or T c_pair c_joined c_numbered M) (F_or.binds (fun _ _ _ _ _ _ us hl => match us, hl with | [_, _], _ => rfl))⟩
  have eE : OpF l.prog w K mg base C "__eq__" 1 (spEqP C) := ⟨g_eq, h_eq.at_, h_eq.fn, raw0 (ok_eq F_eq B T TI) (F_eq.binds (fun _ _ _ _ _ _ us hl => match us, hl with | [_, _], _ => rfl))⟩
  have c_all : OwnG l.prog w K mg base "all_partitions" 7 ["many"] (spAll C) := ok_all F_allp m_allp T M c_cmany c_nextc
  have c_pot : Own l.prog w K mg base "_law_pot" 1 ["_law_script", "_law_k"] (spPot K) := own_mk F_pot m_pot (ok_pot F_pot B) (fun _ _ _ _ _ _ us hl => match us, hl with | [_, _], _ => rfl) (fun _ _ _ _ _ _ _ z => nomatch z)
  have c_draw : Own l.prog w K mg base "_law_draw" 1 ["_law_pot_here", "_law_lot"] spDraw := own_mk F_draw m_draw (ok_draw F_draw B) (fun _ _ _ _ _ _ us hl => match us, hl with | [_, _], _ => rfl) (fun _ _ _ _ _ _ _ z => nomatch z)
  have eR : ReF l.prog w K mg base C := ⟨g_repr, e_repr, ok_repr F_repr T, h_repr.at_, h_repr.fn, bts F_repr (fun _ _ _ _ _ _ _ => rfl)⟩
  have m_apart : OwnCM l.prog w K mg base C "apart" 5 "many" (spCls C upto) := ⟨_, p_apart, g_apart, e_apart, ⟨rd, ga⟩, h_apart, ok_apart F_apart B M c_cmany, F_apart.binds (fun _ _ _ _ _ _ us hl => match us, hl with | [_, _], _ => rfl), kw1 F_apart (fun _ _ _ _ _ _ _ _ => rfl)⟩
  have m_together : OwnCM l.prog w K mg base C "together" 5 "many" (spCls C (fun n => List.replicate n 0)) := ⟨_, p_together, g_together, e_together, ⟨rd, ga⟩, h_together, ok_together F_together B M c_cmany, F_together.binds (fun _ _ _ _ _ _ us hl => match us, hl with | [_, _], _ => rfl), kw1 F_together (fun _ _ _ _ _ _ _ _ => rfl)⟩
  have c_countof : Own l.prog w K mg base "count_of" 3 ["many"] spCount := own_mk F_countof m_countof (ok_countof F_countof B c_cmany) (fun _ _ _ _ _ _ us hl => match us, hl with | [_], _ => rfl) (fun _ _ _ _ _ _ _ _ => rfl)
  have c_lall : Own l.prog w K mg base "_law_all" 1 ["_law_lot"] spLall := own_mk F_lall m_lall (ok_lall F_lall B) (fun _ _ _ _ _ _ us hl => match us, hl with | [_], _ => rfl) (fun _ _ _ _ _ _ _ _ => rfl)
  have c_lcount : Own l.prog w K mg base "_law_count" 1 ["_law_lot"] spLcount := own_mk F_lcount m_lcount (ok_lcount F_lcount B) (fun _ _ _ _ _ _ us hl => match us, hl with | [_], _ => rfl) (fun _ _ _ _ _ _ _ _ => rfl)
  have c_ends : Own l.prog w K mg base "_law_ends_right" 6 ["_law_lot"] spEnds := own_mk F_ends m_ends (ok_ends F_ends B T N cn M m_apart m_together m_finer eE eR) (fun _ _ _ _ _ _ us hl => match us, hl with | [_], _ => rfl) (fun _ _ _ _ _ _ _ _ => rfl)
  have c_turns : Own l.prog w K mg base "_law_turns_right" 10 ["_law_lot", "_law_dues"] spTurns := own_mk F_turns m_turns (ok_turns F_turns B T c_all m_cls m_gone) (fun _ _ _ _ _ _ us hl => match us, hl with | [_, _], _ => rfl) (fun _ _ _ _ _ _ _ z => nomatch z)
  have c_right : Own l.prog w K mg base "_law_right" 12 ["_law_pot_here"] spRight := own_mk F_right m_right (ok_right F_right B T N m_apart m_together m_finer m_cls c_all c_draw c_lall c_lcount c_countof c_ends c_turns eE eA eO sf) (fun _ _ _ _ _ _ us hl => match us, hl with | [_], _ => rfl) (fun _ _ _ _ _ _ _ _ => rfl)
  exact ok_law (fun_mk l1 c1 k1) B c_right c_pot
end Jc
open PySem PySem.W PyProof.Rows
set_option maxRecDepth 100000 in
set_option maxHeartbeats 0 in
theorem PySem.Challenge.cw_cutshows_k15_all_partitions_holds : PySem.Challenge.rw_cutshows_k15_all_partitions.Holds := by
  w_on; o_law; k_head; (case hw => w_witness2)
  k_fill
  refine Jc.walkG (l := PySem.Challenge.rw_cutshows_k15_all_partitions) (k := 13) rfl rfl ⟨rfl, by decide, by decide⟩ (fun w h Y => PySem.W.kIn_of Y) ?F
  case F =>
    intro w mg fa h KX G hmg
    refine' Jc.all_mk KX G hmg ?mgC ?pg ?hd ?po ?sa ?na ?mk ?kc ?rd ?ga ?cv ?ha ?hn ?htk ?hm ?ne ?sf ?cnA ?cnG (Jc.atm_mk ?ma_init ?mi_init ?ml_init ?mc_init ?mk_init) (Jc.atm_mk ?ma_eq ?mi_eq ?ml_eq ?mc_eq ?mk_eq) (Jc.atm_mk ?ma_repr ?mi_repr ?ml_repr ?mc_repr ?mk_repr) (Jc.atm_mk ?ma_and ?mi_and ?ml_and ?mc_and ?mk_and) (Jc.atm_mk ?ma_or ?mi_or ?ml_or ?mc_or ?mk_or) (Jc.atm_mk ?ma_finer ?mi_finer ?ml_finer ?mc_finer ?mk_finer) (Jc.atm_mk ?ma_gone ?mi_gone ?ml_gone ?mc_gone ?mk_gone) (Jc.atk_mk ?qa_apart ?qr_apart ?qi_apart ?ql_apart ?qc_apart ?qk_apart) (Jc.atk_mk ?qa_together ?qr_together ?qi_together ?ql_together ?qc_together ?qk_together) (Jc.atp_mk ?pa ?ps ?pt ?pr ?pl ?pc ?pk) (Jc.at_mk ?a_is_integer ?l_is_integer ?c_is_integer ?k_is_integer) (Jc.at_mk ?a_pair ?l_pair ?c_pair ?k_pair) (Jc.at_mk ?a_gm ?l_gm ?c_gm ?k_gm) (Jc.at_mk ?a_arecls ?l_arecls ?c_arecls ?k_arecls) (Jc.at_mk ?a_numbered ?l_numbered ?c_numbered ?k_numbered) (Jc.at_mk ?a_members ?l_members ?c_members ?k_members) (Jc.at_mk ?a_met ?l_met ?c_met ?k_met) (Jc.at_mk ?a_joined ?l_joined ?c_joined ?k_joined) (Jc.at_mk ?a_cmany ?l_cmany ?c_cmany ?k_cmany) (Jc.at_mk ?a_nextc ?l_nextc ?c_nextc ?k_nextc) (Jc.at_mk ?a_allp ?l_allp ?c_allp ?k_allp) (Jc.at_mk ?a_countof ?l_countof ?c_countof ?k_countof) (Jc.at_mk ?a_pot ?l_pot ?c_pot ?k_pot) (Jc.at_mk ?a_draw ?l_draw ?c_draw ?k_draw) (Jc.at_mk ?a_lall ?l_lall ?c_lall ?k_lall) (Jc.at_mk ?a_lcount ?l_lcount ?c_lcount ?k_lcount) (Jc.at_mk ?a_ends ?l_ends ?c_ends ?k_ends) (Jc.at_mk ?a_turns ?l_turns ?c_turns ?k_turns) (Jc.at_mk ?a_right ?l_right ?c_right ?k_right) (Jc.at_mk ?a_law ?l_law ?c_law ?k_law) ?k_GONE ?z_len ?z_abs ?z_max ?z_min ?z_divmod ?z_repr ?z_isinstance ?z_all ?z_any ?z_sum ?z_sorted ?z_int ?z_str ?z_bool ?z_list ?z_tuple ?z_dict ?z_set ?z_range ?z_enumerate ?z_zip ?z_reversed
    (case mgC => k_is); (case pg => k_is); (case hd => k_is); (case po => k_is); (case sa => k_is); (case na => k_is); (case mk => k_is); (case kc => k_is); (case rd => k_is); (case ga => k_is); (case cv => k_is); (case ha => k_is); (case hn => k_is); (case htk => k_is); (case hm => k_is); (case ne => k_is); (case sf => k_is); (case cnA => k_is); (case cnG => k_is)
    (case ma_init => k_is); (case mi_init => k_is); (case ml_init => k_is); (case mc_init => k_is); (case mk_init => k_is)
    (case ma_eq => k_is); (case mi_eq => k_is); (case ml_eq => k_is); (case mc_eq => k_is); (case mk_eq => k_is)
    (case ma_repr => k_is); (case mi_repr => k_is); (case ml_repr => k_is); (case mc_repr => k_is); (case mk_repr => k_is)
    (case ma_and => k_is); (case mi_and => k_is); (case ml_and => k_is); (case mc_and => k_is); (case mk_and => k_is)
    (case ma_or => k_is); (case mi_or => k_is); (case ml_or => k_is); (case mc_or => k_is); (case mk_or => k_is)
    (case ma_finer => k_is); (case mi_finer => k_is); (case ml_finer => k_is); (case mc_finer => k_is); (case mk_finer => k_is)
    (case ma_gone => k_is); (case mi_gone => k_is); (case ml_gone => k_is); (case mc_gone => k_is); (case mk_gone => k_is)
    (case qa_apart => k_is); (case qr_apart => k_is); (case qi_apart => k_is); (case ql_apart => k_is); (case qc_apart => k_is); (case qk_apart => k_is)
    (case qa_together => k_is); (case qr_together => k_is); (case qi_together => k_is); (case ql_together => k_is); (case qc_together => k_is); (case qk_together => k_is)
    (case pa => k_is); (case ps => k_is); (case pt => k_is); (case pr => k_is); (case pl => k_is); (case pc => k_is); (case pk => k_is)
    (case a_is_integer => k_is); (case l_is_integer => k_is); (case c_is_integer => k_is); (case k_is_integer => k_is)
    (case a_pair => k_is); (case l_pair => k_is); (case c_pair => k_is); (case k_pair => k_is)
    (case a_gm => k_is); (case l_gm => k_is); (case c_gm => k_is); (case k_gm => k_is)
    (case a_arecls => k_is); (case l_arecls => k_is); (case c_arecls => k_is); (case k_arecls => k_is)
    (case a_numbered => k_is); (case l_numbered => k_is); (case c_numbered => k_is); (case k_numbered => k_is)
    (case a_members => k_is); (case l_members => k_is); (case c_members => k_is); (case k_members => k_is)
    (case a_met => k_is); (case l_met => k_is); (case c_met => k_is); (case k_met => k_is)
    (case a_joined => k_is); (case l_joined => k_is); (case c_joined => k_is); (case k_joined => k_is)
    (case a_cmany => k_is); (case l_cmany => k_is); (case c_cmany => k_is); (case k_cmany => k_is)
    (case a_nextc => k_is); (case l_nextc => k_is); (case c_nextc => k_is); (case k_nextc => k_is)
    (case a_allp => k_is); (case l_allp => k_is); (case c_allp => k_is); (case k_allp => k_is)
    (case a_countof => k_is); (case l_countof => k_is); (case c_countof => k_is); (case k_countof => k_is)
    (case a_pot => k_is); (case l_pot => k_is); (case c_pot => k_is); (case k_pot => k_is)
    (case a_draw => k_is); (case l_draw => k_is); (case c_draw => k_is); (case k_draw => k_is)
    (case a_lall => k_is); (case l_lall => k_is); (case c_lall => k_is); (case k_lall => k_is)
    (case a_lcount => k_is); (case l_lcount => k_is); (case c_lcount => k_is); (case k_lcount => k_is)
    (case a_ends => k_is); (case l_ends => k_is); (case c_ends => k_is); (case k_ends => k_is)
    (case a_turns => k_is); (case l_turns => k_is); (case c_turns => k_is); (case k_turns => k_is)
    (case a_right => k_is); (case l_right => k_is); (case c_right => k_is); (case k_right => k_is)
    (case a_law => k_is); (case l_law => k_is); (case c_law => k_is); (case k_law => k_is)
    (case k_GONE => k_is)
    (case z_len => k_is); (case z_abs => k_is); (case z_max => k_is); (case z_min => k_is); (case z_divmod => k_is); (case z_repr => k_is); (case z_isinstance => k_is); (case z_all => k_is); (case z_any => k_is); (case z_sum => k_is); (case z_sorted => k_is); (case z_int => k_is); (case z_str => k_is); (case z_bool => k_is); (case z_list => k_is); (case z_tuple => k_is); (case z_dict => k_is); (case z_set => k_is); (case z_range => k_is); (case z_enumerate => k_is); (case z_zip => k_is); (case z_reversed => k_is)
